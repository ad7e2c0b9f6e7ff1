/- Texts in one: LatQp, LatRfu, LatRaw, LatIn, LatInB, LatList, WireCan, LatQm, LatQe, LatJs. -/
import Derived.Test.YtcjnmgokddfidaaMgDD
import Derived.Deep.RegionHeld3
import Derived.Deep.RegionLaw
set_option linter.unusedVariables false
set_option linter.unusedSimpArgs false
/- The loops of read, whatever is read: rows that grow, and what hangs on them. Bounds on sizes alone. Parallel to LatLp. -/
namespace Go.Proofs.Ytcjnmgokddfidaa
open Go.RowKit

theorem own_blkL {W : World} {B e s n k : Nat} {v : Value} {xs : List Value} (ho : W.ownsRow B e s v n xs) (hk : v.ownBlock = some k) : ∃ cur, W.heap[k]? = some (.cells cur e (0, 0)) := by
  rcases ho.2 with ⟨e, _⟩ | ⟨q, cap, cur, e, _, h2, _⟩
  · rw [e] at hk; cases hk
  · rw [e] at hk
    simp only [Value.ownBlock, Option.some.injEq] at hk
    subst hk
    exact ⟨_, h2⟩
theorem latL6 : Elem6 Try.prog 23 26 (.agg #[.int .i64 0, .int .i64 0, .int .i64 0, .slice none 0 0, .slice none 0 0, .slice none 0 0]) 96 := ⟨Try.underlying23, by kernel_rfl, rfl⟩
theorem rulL2 : Elem2 Try.prog 24 58 (.agg #[.slice none 0 0, .string ⟨#[]⟩]) 40 := ⟨Try.underlying24, by kernel_rfl, rfl⟩
/-- A row has grown, in its block or in a new one. -/
structure GA (B : Nat) (E : TypeId) (sz : Nat) (W w4 : World) (v v' : Value) (n : Nat) (xs : List Value) : Prop where
  own : w4.ownsRow B E sz v' n xs
  gr : W.grownBy w4 v.ownBlock
  fr : v'.ownBlock = v.ownBlock ∨ v'.ownBlock = some W.heap.size
theorem step_gen {P : Program} {ops : Array Oper} {o : Oper} {a : Act} {w : World} {K : Act → World → Prop} {Q : Exit → Act → World → Prop} {F : Prop} (S E : TypeId) (z : Value) (eb sz : Nat) (hu : P.underlying S = some (.slice E)) (hi : (P.info? E).map (fun i => (i.zero, i.size, i.bytes)) = some (some z, sz, eb)) (hz : z.cells.size = sz) (hp : 0 < sz) (hgd : o.guard = none) (s x : Operand)
    (ho : o.op = .call { callee := .builtin .append, args := #[s, x], argTypes := #[S, S] })
    {B : Nat} {v : Value} {n : Nat} {l : List Value} (hv : a.eval s = v) (H : w.ownsRow B E sz v n l) (hB : B ≤ w.heap.size) {vx : Value} {m : Nat} {news : List Value} (hx : a.eval x = vx) (L : Src P sz S vx m news w) (hl : (n + m) * eb ≤ 140737488355328) (hl2 : n + m ≤ 140737488355328)
    (h : ∀ (ao : Option Addr) (cap : Nat) (w' : World), GA B E sz w w' v (.slice ao (n + m) cap) (n + m) (l ++ news) → K (a.put o.dst (.slice ao (n + m) cap)) w') :
    if Region.wanted o (yielded ops a.tmps) = true then Oper.wp P o a w K Q else F := by
  obtain ⟨i0, hi, hz0, hz1, hz2⟩ := info_parts hi
  refine step_append_src _ hgd s x S S ho B E i0 z sz eb hu hi hz0 hz1 hz2 hz hp v n l hv H vx m news hx L (by unfold maxLen; omega) (by omega) hB ?_
  intro v2 w2 hown hg _ hf
  obtain ⟨ao, cap, rfl⟩ := own_shape hown
  exact h ao cap w2 ⟨hown, hg, hf⟩
abbrev SK (p : Nat) (W : World) (v v2 : Value) : Nat → Prop := fun k => (p < k ∧ k < W.heap.size) ∧ v.ownBlock ≠ some k ∧ v2.ownBlock ≠ some k
/-- The names and parts of a product so far. -/
structure LP (b g : Nat) (d : List Int) (w : World) (p : Nat) (ns : List Str) (ps : List Lat) (i j : Nat) (no : Option Addr) (nc : Nat) (po : Option Addr) (pc : Nat) (qs : List LX) (o : Option Nat) (wr : World) : Prop where
  st : RS b g d w p (.int .i64 6) (.int .i64 0) (.int .i64 0) (.slice no i nc) (.slice po j pc) (.slice none 0 0) o wr
  nam : wr.ownsRow (p + 1) 9 1 (.slice no i nc) i (ss (ns.take i))
  ql : qs.length = j
  par : wr.ownsRow (p + 1) 26 6 (.slice po j pc) j (sxds (qs.map LX.q))
  kid : ∀ (m : Nat) (y : LX) (u : Lat), qs[m]? = some y → ps[m]? = some u → LS (SK p wr (.slice no i nc) (.slice po j pc)) wr y u
section
variable {b g : Nat} {d : List Int} {w : World} {p : Nat} {ns : List Str} {ps : List Lat} {i j : Nat} {no : Option Addr} {nc : Nat} {po : Option Addr} {pc : Nat} {qs : List LX} {o o' : Option Nat} {wr w2 : World}
theorem LP.keep (h : LP b g d w p ns ps i j no nc po pc qs o wr) (k : RS b g d w p (.int .i64 6) (.int .i64 0) (.int .i64 0) (.slice no i nc) (.slice po j pc) (.slice none 0 0) o' w2) (hk : Keeps (fun k => p < k) wr w2) : LP b g d w p ns ps i j no nc po pc qs o' w2 :=
  ⟨k, own_same h.nam fun q hq => hk.2 q (by have := (h.nam.lt q hq).1; omega) (h.nam.lt q hq).2, h.ql, own_same h.par fun q hq => hk.2 q (by have := (h.par.lt q hq).1; omega) (h.par.lt q hq).2,
    fun m y u hy hu => ((h.kid m y u hy hu).keep ⟨hk.1, fun q hq hl => hk.2 q hq.1.1 hl⟩).mono fun q hq => ⟨⟨hq.1.1, Nat.lt_of_lt_of_le hq.1.2 hk.1⟩, hq.2⟩⟩
theorem LP.call (h : LP b g d w p ns ps i j no nc po pc qs o wr) (k : RG b g d wr w2 o') : LP b g d w p ns ps i j no nc po pc qs o' w2 :=
  h.keep (h.st.call k) (keeps_rg k (fun hb => by have := h.st.hb; have := h.st.hp; omega))
theorem LP.alloc (h : LP b g d w p ns ps i j no nc po pc qs o wr) (O : Obj) : LP b g d w p ns ps i j no nc po pc qs o (wr.alloc O) := h.keep (h.st.alloc O) (keeps_alloc _ wr O)
theorem LP.drew (h : LP b g d w p ns ps i j no nc po pc qs o wr) : LP b g d w p ns ps i j no nc po pc qs o wr.drew := h.keep h.st.drew ⟨Nat.le_refl _, fun _ _ _ => rfl⟩
theorem ga_bel {B E sz n : Nat} {W w4 : World} {v v' : Value} {xs l : List Value} {n0 : Nat} (h : GA B E sz W w4 v v' n xs) (h0 : W.ownsRow B E sz v n0 l) (hB : B ≤ W.heap.size) : Below B W w4 :=
  ⟨h.gr.os, h.gr.tape, h.gr.output, h.gr.size, fun k hk => h.gr.block k (by omega) (fun e => by have := (h0.lt k e.symm).1; omega)⟩
/-- A row of another type stays. -/
theorem ga_own {B B2 E e2 sz s2 n n0 m : Nat} {W w4 : World} {v v' v2 : Value} {xs l xs2 : List Value} (h : GA B E sz W w4 v v' n xs) (h0 : W.ownsRow B E sz v n0 l) (h2 : W.ownsRow B2 e2 s2 v2 m xs2) (he : e2 ≠ E) : w4.ownsRow B2 e2 s2 v2 m xs2 :=
  own_same h2 fun k hk => h.gr.block k (h2.lt k hk).2 (fun e => by
    obtain ⟨c1, h1⟩ := own_blkL h2 hk
    obtain ⟨c2, h3⟩ := own_blkL h0 e.symm
    rw [h1] at h3
    simp only [Option.some.injEq, Obj.cells.injEq] at h3
    exact he h3.2.1)
theorem ga_sk {B E sz n : Nat} {W w4 : World} {v v' v2 : Value} {xs : List Value} {p : Nat} (h : GA B E sz W w4 v v' n xs) : ∀ k, SK p W v v2 k → SK p w4 v' v2 k := fun k hk => ⟨⟨hk.1.1, Nat.lt_of_lt_of_le hk.1.2 h.gr.size⟩, fun e => by
  rcases h.fr with h1 | h1
  · exact hk.2.1 (by rw [← h1]; exact e)
  · rw [h1] at e
    have := hk.1.2
    simp at e
    omega, hk.2.2⟩
theorem sk_swap {p : Nat} {W : World} {v v2 : Value} : ∀ k, SK p W v v2 k → SK p W v2 v k := fun _ hk => ⟨hk.1, hk.2.2, hk.2.1⟩
/-- One name more. -/
theorem LP.name (h : LP b g d w p ns ps i j no nc po pc qs o wr) {x : Str} (hx : ns[i]? = some x) {ao : Option Addr} {cap : Nat} {w4 : World} (ga : GA (p + 1) 9 1 wr w4 (.slice no i nc) (.slice ao (i + 1) cap) (i + 1) (ss (ns.take i) ++ [.string (ba x)])) : LP b g d w p ns ps (i + 1) j ao cap po pc qs o (w4.setCell ⟨p, 3, none⟩ (.slice ao (i + 1) cap)) := by
  have hp := h.st.hp
  have hB := ga_bel ga h.nam (by omega)
  have s4 := (h.st.bel hB (by omega)).set 3 (.slice ao (i + 1) cap) rfl
  have ko : ∀ k, p < k → (w4.setCell ⟨p, 3, none⟩ (.slice ao (i + 1) cap)).heap[k]? = w4.heap[k]? := fun k hk => set_blk 0 (by omega)
  refine ⟨s4, ?_, h.ql, own_same (ga_own ga h.nam h.par (by decide)) fun k hk => ko k (by have := (h.par.lt k hk).1; omega), fun m y u hy hu => ?_⟩
  · rw [take_snocL hx, ss_append]
    exact own_same ga.own fun k hk => ko k (by have := (ga.own.lt k hk).1; omega)
  · refine ((((h.kid m y u hy hu).keep (keeps_grown ga.gr fun k hk => hk.2.1)).mono (ga_sk ga)).keep (keeps_set w4 p 3 _ fun hk => by have := hk.1.1; omega)).mono fun k hk => ⟨⟨hk.1.1, by simpa using hk.1.2⟩, hk.2⟩
/-- One part more. -/
theorem LP.part (h : LP b g d w p ns ps i j no nc po pc qs o wr) {x : LX} {u : Lat} (hu : ps[j]? = some u) (hx : LS (SK p wr (.slice no i nc) (.slice po j pc)) wr x u) {ao : Option Addr} {cap : Nat} {w4 : World} (ga : GA (p + 1) 26 6 wr w4 (.slice po j pc) (.slice ao (j + 1) cap) (j + 1) (sxds (qs.map LX.q) ++ sxds [x.q])) : LP b g d w p ns ps i (j + 1) no nc ao cap (qs ++ [x]) o (w4.setCell ⟨p, 4, none⟩ (.slice ao (j + 1) cap)) := by
  have hp := h.st.hp
  have hB := ga_bel ga h.par (by omega)
  have s4 := (h.st.bel hB (by omega)).set 4 (.slice ao (j + 1) cap) rfl
  have ko : ∀ k, p < k → (w4.setCell ⟨p, 4, none⟩ (.slice ao (j + 1) cap)).heap[k]? = w4.heap[k]? := fun k hk => set_blk 0 (by omega)
  have up : ∀ (y : LX) (v : Lat), LS (SK p wr (.slice no i nc) (.slice po j pc)) wr y v → LS (SK p (w4.setCell ⟨p, 4, none⟩ (.slice ao (j + 1) cap)) (.slice no i nc) (.slice ao (j + 1) cap)) (w4.setCell ⟨p, 4, none⟩ (.slice ao (j + 1) cap)) y v := fun y v hy =>
    ((((hy.keep (keeps_grown ga.gr fun k hk => hk.2.2)).mono fun k hk => sk_swap k (ga_sk ga k (sk_swap k hk))).keep (keeps_set w4 p 4 _ fun hk => by have := hk.1.1; omega)).mono fun k hk => ⟨⟨hk.1.1, by simpa using hk.1.2⟩, hk.2⟩)
  refine ⟨s4, own_same (ga_own ga h.par h.nam (by decide)) fun k hk => ko k (by have := (h.nam.lt k hk).1; omega), by simp [h.ql], ?_, fun m y v hy hv => ?_⟩
  · rw [List.map_append, sxds_append]
    exact own_same ga.own fun k hk => ko k (by have := (ga.own.lt k hk).1; omega)
  · by_cases e : m < qs.length
    · rw [List.getElem?_append_left e] at hy
      exact up y v (h.kid m y v hy hv)
    · rw [List.getElem?_append_right (by omega)] at hy
      have hm : m = qs.length := by have := (List.getElem?_eq_some_iff.1 hy).1; simp at this; omega
      subst hm
      simp at hy
      subst hy
      rw [h.ql, hu] at hv
      cases hv
      exact up x u hx
theorem LP.fin (h : LP b g d w p ns ps ns.length ps.length no nc po pc qs o wr) (h32 : ns.length ≤ 1000) : NS (Bh p wr) wr (.slice no ns.length nc) ns ∧ PS (Bh p wr) wr (.slice po ps.length pc) ps := by
  have hn := h.nam
  rw [List.take_length] at hn
  refine ⟨⟨(show Ow 9 (p + 1) wr wr (.slice no ns.length nc) (ss ns) from ⟨by have := h.st.hp; omega, Below.refl _ _, by rw [ss_length]; exact hn⟩).rd (by rw [ss_length]; omega), fun a n c e => by cases e; exact ⟨by have := (hn.lt a.block rfl).1; omega, (hn.lt a.block rfl).2⟩⟩, qs, ?_, fun a n c e => by cases e; exact ⟨by have := (h.par.lt a.block rfl).1; omega, (h.par.lt a.block rfl).2⟩, h.ql, fun m y u hy hu => (h.kid m y u hy hu).mono fun k hk => hk.1⟩
  have hp := h.par
  have hq : (qs.map LX.q).length = ps.length := by simp [h.ql]
  rw [← hq] at hp ⊢
  exact sx_rd_of_own hp
/-- The rules so far. -/
structure LQ (b g : Nat) (d : List Int) (w : World) (p : Nat) (ns : List Str) (rs : List Gr) (no : Option Addr) (nc : Nat) (j : Nat) (ro : Option Addr) (rc : Nat) (ds : List PV) (o : Option Nat) (wr : World) : Prop where
  st : RS b g d w p (.int .i64 10) (.int .i64 0) (.int .i64 0) (.slice no ns.length nc) (.slice none 0 0) (.slice ro j rc) o wr
  nam : NS (SK p wr (.slice ro j rc) (.slice none 0 0)) wr (.slice no ns.length nc) ns
  dl : ds.length = j
  rul : wr.ownsRow (p + 1) 58 2 (.slice ro j rc) j (prs ds)
  kid : ∀ (m : Nat) (t : PV) (r : Gr), ds[m]? = some t → rs[m]? = some r → NS (SK p wr (.slice ro j rc) (.slice none 0 0)) wr t.1 r.1 ∧ t.2 = .string (ba r.2)
variable {rs : List Gr} {ro : Option Addr} {rc : Nat} {ds : List PV}
theorem LQ.keep (h : LQ b g d w p ns rs no nc j ro rc ds o wr) (k : RS b g d w p (.int .i64 10) (.int .i64 0) (.int .i64 0) (.slice no ns.length nc) (.slice none 0 0) (.slice ro j rc) o' w2) (hk : Keeps (fun k => p < k) wr w2) : LQ b g d w p ns rs no nc j ro rc ds o' w2 := by
  have hk2 : Keeps (SK p wr (.slice ro j rc) (.slice none 0 0)) wr w2 := ⟨hk.1, fun q hq hl => hk.2 q hq.1.1 hl⟩
  have hm : ∀ q, SK p wr (.slice ro j rc) (.slice none 0 0) q → SK p w2 (.slice ro j rc) (.slice none 0 0) q := fun q hq => ⟨⟨hq.1.1, Nat.lt_of_lt_of_le hq.1.2 hk.1⟩, hq.2⟩
  exact ⟨k, (h.nam.keep hk2).mono hm, h.dl, own_same h.rul fun q hq => hk.2 q (by have := (h.rul.lt q hq).1; omega) (h.rul.lt q hq).2, fun m t r ht hr => ⟨((h.kid m t r ht hr).1.keep hk2).mono hm, (h.kid m t r ht hr).2⟩⟩
theorem LQ.call (h : LQ b g d w p ns rs no nc j ro rc ds o wr) (k : RG b g d wr w2 o') : LQ b g d w p ns rs no nc j ro rc ds o' w2 :=
  h.keep (h.st.call k) (keeps_rg k (fun hb => by have := h.st.hb; have := h.st.hp; omega))
theorem LQ.alloc (h : LQ b g d w p ns rs no nc j ro rc ds o wr) (O : Obj) : LQ b g d w p ns rs no nc j ro rc ds o (wr.alloc O) := h.keep (h.st.alloc O) (keeps_alloc _ wr O)
theorem LQ.drew (h : LQ b g d w p ns rs no nc j ro rc ds o wr) : LQ b g d w p ns rs no nc j ro rc ds o wr.drew := h.keep h.st.drew ⟨Nat.le_refl _, fun _ _ _ => rfl⟩
theorem LQ.rule (h : LQ b g d w p ns rs no nc j ro rc ds o wr) {v : Value} {r : Gr} (hu : rs[j]? = some r) (hv : NS (SK p wr (.slice ro j rc) (.slice none 0 0)) wr v r.1) {ao : Option Addr} {cap : Nat} {w4 : World} (ga : GA (p + 1) 58 2 wr w4 (.slice ro j rc) (.slice ao (j + 1) cap) (j + 1) (prs ds ++ prs [(v, .string (ba r.2))])) : LQ b g d w p ns rs no nc (j + 1) ao cap (ds ++ [(v, .string (ba r.2))]) o (w4.setCell ⟨p, 5, none⟩ (.slice ao (j + 1) cap)) := by
  have hp := h.st.hp
  have hB := ga_bel ga h.rul (by omega)
  have s4 := (h.st.bel hB (by omega)).set 5 (.slice ao (j + 1) cap) rfl
  have ko : ∀ k, p < k → (w4.setCell ⟨p, 5, none⟩ (.slice ao (j + 1) cap)).heap[k]? = w4.heap[k]? := fun k hk => set_blk 0 (by omega)
  have up : ∀ (y : Value) (l : List Str), NS (SK p wr (.slice ro j rc) (.slice none 0 0)) wr y l → NS (SK p (w4.setCell ⟨p, 5, none⟩ (.slice ao (j + 1) cap)) (.slice ao (j + 1) cap) (.slice none 0 0)) (w4.setCell ⟨p, 5, none⟩ (.slice ao (j + 1) cap)) y l := fun y l hy =>
    ((((hy.keep (keeps_grown ga.gr fun k hk => hk.2.1)).mono (ga_sk ga)).keep (keeps_set w4 p 5 _ fun hk => by have := hk.1.1; omega)).mono fun k hk => ⟨⟨hk.1.1, by simpa using hk.1.2⟩, hk.2⟩)
  refine ⟨s4, up _ _ h.nam, by simp [h.dl], ?_, fun m y q hy hq => ?_⟩
  · rw [prs_append]
    exact own_same ga.own fun k hk => ko k (by have := (ga.own.lt k hk).1; omega)
  · by_cases e : m < ds.length
    · rw [List.getElem?_append_left e] at hy
      exact ⟨up _ _ (h.kid m y q hy hq).1, (h.kid m y q hy hq).2⟩
    · rw [List.getElem?_append_right (by omega)] at hy
      have hm : m = ds.length := by have := (List.getElem?_eq_some_iff.1 hy).1; simp at this; omega
      subst hm
      simp at hy
      subst hy
      rw [h.dl, hu] at hq
      cases hq
      exact ⟨up _ _ hv, rfl⟩
theorem LQ.fin (h : LQ b g d w p ns rs no nc rs.length ro rc ds o wr) : NS (Bh p wr) wr (.slice no ns.length nc) ns ∧ RuS (Bh p wr) wr (.slice ro rs.length rc) rs := by
  refine ⟨h.nam.mono fun k hk => hk.1, ds, ?_, fun a n c e => by cases e; exact ⟨by have := (h.rul.lt a.block rfl).1; omega, (h.rul.lt a.block rfl).2⟩, h.dl, fun m t r ht hr => ⟨(h.kid m t r ht hr).1.mono fun k hk => hk.1, (h.kid m t r ht hr).2⟩⟩
  have h2 := h.rul
  rw [← h.dl] at h2 ⊢
  exact (show OP 58 (p + 1) wr wr (.slice ro ds.length rc) ds from ⟨by have := h.st.hp; omega, Below.refl _ _, h2⟩).prd
theorem lp_start (h : RS b g d w p (.int .i64 6) (.int .i64 0) (.int .i64 0) (.slice none 0 0) (.slice none 0 0) (.slice none 0 0) o wr) : LP b g d w p ns ps 0 0 none 0 none 0 [] o wr :=
  ⟨h, by rw [List.take_zero]; exact World.ownsRow_nil _ _ _ _, rfl, World.ownsRow_nil _ _ _ _, fun m y u hy => by simp at hy⟩
theorem lp_kid (h : LP b g d w p ns ps i j no nc po pc qs o wr) (k : RG b g d wr w2 o') {x : LX} {u : Lat} (hx : LS (fun k => wr.heap.size ≤ k ∧ k < w2.heap.size) w2 x u) : LS (SK p w2 (.slice no i nc) (.slice po j pc)) w2 x u :=
  hx.mono fun q hq => ⟨⟨by have := h.st.hp; omega, hq.2⟩, fun e => by have := (h.nam.lt q e).2; omega, fun e => by have := (h.par.lt q e).2; omega⟩
theorem sk_alloc (p : Nat) (W : World) (O : Obj) (v v2 : Value) : ∀ k, SK p W v v2 k → SK p (W.alloc O) v v2 k := fun k hk => ⟨⟨hk.1.1, by have := hk.1.2; simp; omega⟩, hk.2⟩
theorem lq_start (h : RS b g d w p (.int .i64 10) (.int .i64 0) (.int .i64 0) (.slice no ns.length nc) (.slice none 0 0) (.slice none 0 0) o wr) (hn : NS (Bh p wr) wr (.slice no ns.length nc) ns) : LQ b g d w p ns rs no nc 0 none 0 [] o wr :=
  ⟨h, hn.mono fun k hk => ⟨hk, by simp [Value.ownBlock], by simp [Value.ownBlock]⟩, rfl, World.ownsRow_nil _ _ _ _, fun m t r ht => by simp at ht⟩
theorem lq_kid (h : LQ b g d w p ns rs no nc j ro rc ds o wr) (k : RG b g d wr w2 o') {v : Value} {l : List Str} (h1 : Rd w2 v (ss l)) (h2 : In (fun k => wr.heap.size ≤ k ∧ k < w2.heap.size) v) : NS (SK p w2 (.slice ro j rc) (.slice none 0 0)) w2 v l :=
  ⟨h1, h2.mono fun q hq => ⟨⟨by have := h.st.hp; omega, hq.2⟩, fun e => by have := (h.rul.lt q e).2; omega, by simp [Value.ownBlock]⟩⟩
theorem NS.stay (h : LQ b g d w p ns rs no nc j ro rc ds o wr) {v : Value} {l : List Str} (n : NS (SK p wr (.slice ro j rc) (.slice none 0 0)) wr v l) (k : RG b g d wr w2 o') : NS (SK p w2 (.slice ro j rc) (.slice none 0 0)) w2 v l :=
  (n.keep (keeps_rg k (fun hb => by have := hb.1.1; have := h.st.hb; have := h.st.hp; omega))).mono fun q hq => ⟨⟨hq.1.1, Nat.lt_of_lt_of_le hq.1.2 k.size⟩, hq.2⟩
theorem src_str (W : World) (bx : ByteArray) : Src Try.prog 1 22 (.slice (some ⟨W.heap.size, 0, none⟩) 1 1) 1 [.string bx] (W.alloc (.cells #[.string bx] 9)) :=
  (rd_new (l := [.string bx]) rfl rfl (by simp)).srcs strsE (by intro u hu; rw [List.mem_singleton.1 hu]; rfl)
theorem src_lat (W : World) (x : LX) (h : x.vn.oneCell' = true ∧ x.vp.oneCell' = true ∧ x.vr.oneCell' = true) : Src Try.prog 6 23 (.slice (some ⟨W.heap.size, 0, none⟩) 1 1) 1 (sxds [x.q]) (W.alloc (.cells #[x.q.a, x.q.b, x.q.c, x.q.d, x.q.e, x.q.f] 26)) :=
  (sxrd_new (t := x.q)).src latL6 (by
    intro u hu
    simp only [sxds, SxV.cs, List.flatMap_cons, List.flatMap_nil, List.append_nil, List.mem_cons, List.not_mem_nil, or_false] at hu
    rcases hu with rfl | rfl | rfl | rfl | rfl | rfl
    · rfl
    · rfl
    · rfl
    · exact h.1
    · exact h.2.1
    · exact h.2.2)
theorem src_rul (W : World) (u v : Value) (hu : u.oneCell' = true) (hv : v.oneCell' = true) : Src Try.prog 2 24 (.slice (some ⟨W.heap.size, 0, none⟩) 1 1) 1 (prs [(u, v)]) (W.alloc (.cells #[u, v] 58)) :=
  prd_new.src rulL2 (by intro x hx; simp [prs] at hx; rcases hx with rfl | rfl <;> assumption)
end
end Go.Proofs.Ytcjnmgokddfidaa

/- The reference's Uint, Int, Text and texts, onto whatever bytes. Bounds on sizes alone. -/
namespace Go.Proofs.Ytcjnmgokddfidaa
open Go.RowKit
set_option maxRecDepth 100000

theorem u8E : Elem Try.prog 30 5 (.int .u8 0) 1 := ⟨Try.underlying30, by kernel_rfl, rfl⟩
theorem bs_cells (l : List Int) : ∀ u ∈ Wr.bs l, u.oneCell' = true := by
  intro u hu
  simp only [Wr.bs, List.mem_map] at hu
  obtain ⟨y, _, rfl⟩ := hu
  rfl
theorem bs_len (l : List Int) : (Wr.bs l).length = l.length := by simp [Wr.bs]
theorem bs_app (a b : List Int) : Wr.bs (a ++ b) = Wr.bs a ++ Wr.bs b := by simp [Wr.bs]
/-- The bytes so far, in a row of the call's own. -/
def EO (wA W : World) (v : Value) (L : List Int) : Prop := Ow 5 wA.heap.size wA W v (Wr.bs L)
theorem EO.bel {wA W : World} {v : Value} {L : List Int} (h : EO wA W v L) : Below wA.heap.size wA W := Ow.bel h
theorem EO.later {wA W W' : World} {v : Value} {L : List Int} (h : EO wA W v L) (hb : Below W.heap.size W W') : EO wA W' v L := Ow.later h hb
theorem EO.start {wA W W' : World} {v v' : Value} {L L' : List Int} (h : EO wA W v L) (k : EO W W' v' L') : EO wA W' v' L' := Ow.start k (Nat.le_refl _) h.bel (Ow.size h)
set_option maxHeartbeats 1600000 in
theorem fuint_rd (l : List Int) (x0 : Option Addr) (n0 cap0 : Nat) (n : Nat) (w : World) (hL : Rd w (.slice x0 n0 cap0) (Wr.bs l)) (hl : l.length ≤ 100000000000000) (hn : n < 18446744073709551616) :
    Calls Try.prog 26 #[.slice x0 n0 cap0, .int .u64 n] w fun e w' => ∃ x k c, e = .returned (.slice x k c) ∧ EO w w' (.slice x k c) (l ++ Wr.enc n) := by
  have hel := Wr.enc_length_10 n hn
  have HL := hid_of hL
  have HLL := hid_of hl
  clear hL
  go_enter Try.func26, Try.ntmps26
  go_wp2_with (at_builtin; (refine wpList_app u8E rfl _ _ rfl (v := .slice (some ⟨w.heap.size, 0, none⟩) 0 0) (l := []) rfl (ow_empty 5 w) (vx := .slice x0 n0 cap0) (m := Wr.bs l) rfl (HL.out.at (bel_alloc w _)) (bs_cells l) (by have := HLL.out; simp [bs_len]; omega) (by have := HLL.out; simp [bs_len]; omega) ?_); intro xo1 n1 c1 w1 hn1 h1; have H1 : Hid (EO w w1 (.slice xo1 n1 c1) l) := hid_of h1; clear h1 hn1)
  go_loopw [1, 5] (fun nv sv wr => ∃ k ao m cap, nv = .int .u64 ((n / 128 ^ k : Nat) : Int) ∧ sv = .slice ao m cap ∧ Hid (k ≤ 9 ∧ (∀ j, j < k → 128 ≤ n / 128 ^ j) ∧ EO w wr (.slice ao m cap) (l ++ Wr.encTake k n))) (fun nv _ _ => (intOf nv).toNat)
  case atStart => exact ⟨0, xo1, n1, c1, by simp, rfl, hid_of ⟨by omega, fun j hj => by omega, by have := H1.out; rw [show l ++ Wr.encTake 0 n = l by simp [Wr.encTake]]; exact this⟩⟩
  case round =>
    obtain ⟨k, ao, mm, cap, rfl, rfl, hinv⟩ := hrel
    obtain ⟨m, hm⟩ : ∃ m, m = n / 128 ^ k := ⟨_, rfl⟩
    rw [← hm]
    have hmn : m ≤ n := by rw [hm]; exact Nat.div_le_self _ _
    have HM := hid_of hm
    clear hm
    have HK : Hid (k ≤ 9) := hid_of hinv.out.1
    have HOS : Hid (Ow 5 w.heap.size w wr (.slice ao mm cap) (Wr.bs (l ++ Wr.encTake k n))) := hid_of hinv.out.2.2
    have HLN : Hid ((Wr.bs (l ++ Wr.encTake k n)).length ≤ 100000000000009) := hid_of (by have := HK.out; have := HLL.out; rw [bs_len, List.length_append, Wr.encTake_length]; omega)
    have HJ := hid_of hinv.out.2.1
    clear hinv
    by_cases hlt : 128 ≤ m
    · have hk8 : k ≤ 8 := by
        have h1 := HM.out
        have h0 := HK.out
        rcases Nat.lt_or_ge k 9 with h2 | h2
        · omega
        · obtain rfl : k = 9 := by omega
          have h3 : m = n / 9223372036854775808 := h1
          omega
      go_wp2_with (at_builtin; (refine wpList_app u8E rfl _ _ rfl (v := .slice ao mm cap) (l := Wr.bs (l ++ Wr.encTake k n)) rfl (HOS.out.alloc _) (vx := .slice (some ⟨wr.heap.size, 0, none⟩) 1 1) (m := [.int .u8 ((m : Int) % 128 + 128)]) rfl (rd_new rfl rfl (by simp)) (by intro u hu; rw [List.mem_singleton.1 hu]; rfl) (by have := HLN.out; simp only [List.length_singleton]; omega) (by have := HLN.out; simp only [List.length_singleton]; omega) ?_); intro xo2 n2 c2 w2 hn2 h2; have H2 := hid_of h2; clear h2 hn2)
      go_roundw
      case rel =>
        refine ⟨k + 1, xo2, n2, c2, ?_, rfl, hid_of ⟨by omega, fun j hj => ?_, ?_⟩⟩
        · rw [HM.out, Nat.pow_succ, ← Nat.div_div_eq_div_mul]
          go_num
        · rcases Nat.lt_or_ge j k with h1 | h1
          · exact HJ.out j h1
          · obtain rfl : j = k := by omega
            rw [← HM.out]; exact hlt
        · have h5 := H2.out
          unfold EO
          rw [Wr.encTake_snoc, ← HM.out, ← List.append_assoc, bs_app]
          rw [show (m : Int) % 128 + 128 = ((m % 128 + 128 : Nat) : Int) by omega] at h5
          exact h5
      case measure => simp [intOf]; omega
    · go_wp2_with (at_builtin; (refine wpList_app u8E rfl _ _ rfl (v := .slice ao mm cap) (l := Wr.bs (l ++ Wr.encTake k n)) rfl (HOS.out.alloc _) (vx := .slice (some ⟨wr.heap.size, 0, none⟩) 1 1) (m := [.int .u8 (m : Int)]) rfl (rd_new rfl rfl (by simp)) (by intro u hu; rw [List.mem_singleton.1 hu]; rfl) (by have := HLN.out; simp only [List.length_singleton]; omega) (by have := HLN.out; simp only [List.length_singleton]; omega) ?_); intro xo2 n2 c2 w2 hn2 h2; have H2 := hid_of h2; clear h2 hn2)
      go_ret
      refine ⟨_, _, _, rfl, ?_⟩
      have h5 := H2.out
      unfold EO
      rw [Wr.enc_take k n HJ.out, ← HM.out, Wr.enc_lt (by omega), ← List.append_assoc, bs_app]
      exact h5
/-- What the reference's writers give. -/
def EP (wA W : World) (L : List Int) (e : Ending) (w' : World) : Prop := ∃ x k c, e = .returned (.slice x k c) ∧ EO wA w' (.slice x k c) L ∧ Below W.heap.size W w'
theorem EO.rdd {wA W : World} {v : Value} {L : List Int} (h : EO wA W v L) (hl : L.length ≤ 100000000000000) : Rd W v (Wr.bs L) := Ow.rd h (by rw [bs_len]; omega)
theorem eo_nil (wA : World) : EO wA wA (.slice none 0 0) [] := ow_nil _ _
theorem fuint_eo {wA W : World} {L : List Int} {x0 : Option Addr} {n0 c0 : Nat} (n : Nat) (h : EO wA W (.slice x0 n0 c0) L) (hl : L.length ≤ 100000000000000) (hn : n < 18446744073709551616) :
    Calls Try.prog 26 #[.slice x0 n0 c0, .int .u64 n] W (EP wA W (L ++ Wr.enc n)) :=
  (fuint_rd L x0 n0 c0 n W (h.rdd hl) hl hn).mono fun e w' ⟨x, k, c, q1, q2⟩ => ⟨x, k, c, q1, h.start q2, q2.bel⟩
set_option maxHeartbeats 1600000 in
theorem fint_eo {wA W : World} {L : List Int} {x0 : Option Addr} {n0 c0 : Nat} (n : Int) (h : EO wA W (.slice x0 n0 c0) L) (hl : L.length ≤ 100000000000000) (hn : R64 n) :
    Calls Try.prog 27 #[.slice x0 n0 c0, .int .i64 n] W (EP wA W (L ++ Wr.enc (Wr.zig n))) := by
  have C := hid_of (fuint_eo (Wr.zig n) h hl (Wr.zig_lt n hn.1 hn.2))
  obtain ⟨h0, h1⟩ := hn
  clear h hl
  by_cases hn : 0 ≤ n
  · have HP : Hid (2 * n = ((Wr.zig n : Nat) : Int)) := hid_of (by unfold Wr.zig; rw [if_pos hn]; omega)
    go_enter Try.func27, Try.ntmps27
    go_wp2_with (go_at_call 26; rw [HP.out]; refine C.out.mono ?_; rintro e w1 ⟨x, k, c, rfl, h1, h2⟩; have H1 := hid_of h1; have H2 := hid_of h2; clear h1 h2)
    go_ret
    exact ⟨_, _, _, rfl, H1.out, H2.out⟩
  · have HP : Hid (2 * -(n + 1) + 1 = ((Wr.zig n : Nat) : Int)) := hid_of (by unfold Wr.zig; rw [if_neg hn]; omega)
    go_enter Try.func27, Try.ntmps27
    go_wp2_with (go_at_call 26; rw [HP.out]; refine C.out.mono ?_; rintro e w1 ⟨x, k, c, rfl, h1, h2⟩; have H1 := hid_of h1; have H2 := hid_of h2; clear h1 h2)
    go_ret
    exact ⟨_, _, _, rfl, H1.out, H2.out⟩
theorem src_text (W : World) (x : Str) (bx : ByteArray) (hbx : bx = ba x) : Src Try.prog 1 9 (.string bx) x.length (Wr.bs (Wr.strBytes (ba x))) W := by
  subst hbx
  have h1 := Src.ofString (P := Try.prog) W Try.underlying9 (ba x)
  have e : byteCells (ba x) = Wr.bs (Wr.strBytes (ba x)) := by simp [byteCells, Wr.bs, Wr.strBytes]
  rw [e, show (ba x).size = x.length by simp [ba, ByteArray.size]] at h1
  exact h1
theorem eo_len {wA W : World} {x : Option Addr} {k c : Nat} {L : List Int} (h : EO wA W (.slice x k c) L) : k = L.length := by
  obtain ⟨ao, cap, e⟩ := own_shape (Ow.own h)
  simp only [Value.slice.injEq] at e
  rw [e.2.1, bs_len]
theorem eo_own {wA W : World} {x : Option Addr} {k c : Nat} {L : List Int} (h : EO wA W (.slice x k c) L) : W.ownsRow wA.heap.size 5 1 (.slice x k c) k (Wr.bs L) := by
  have h1 := Ow.own h
  rwa [bs_len, ← eo_len h] at h1
theorem eo_size {wA W : World} {v : Value} {L : List Int} (h : EO wA W v L) : wA.heap.size ≤ W.heap.size := Ow.size h
theorem eo_app {wA W w2 : World} {x : Option Addr} {k c n : Nat} {L : List Int} {s : Str} {v2 : Value} (h : EO wA W (.slice x k c) L) (hn : n = s.length) (ho : w2.ownsRow wA.heap.size 5 1 v2 (k + n) (Wr.bs L ++ Wr.bs (Wr.strBytes (ba s)))) (hg : W.grownBy w2 (Value.slice x k c).ownBlock) : ∃ z c2, v2 = .slice z (k + n) c2 ∧ EO wA w2 v2 (L ++ Wr.strBytes (ba s)) ∧ Below wA.heap.size W w2 := by
  obtain ⟨z, c2, rfl⟩ := own_shape ho
  have h2 := Ow.app (m := Wr.bs (Wr.strBytes (ba s))) h ho (by rw [bs_len, bs_len, ← eo_len h, hn, strB_length]) hg
  refine ⟨z, c2, rfl, by unfold EO; rw [bs_app]; exact h2, hg.os, hg.tape, hg.output, hg.size, fun q hq => hg.block q (by have := eo_size h; omega) (fun e => by have := ((Ow.own h).lt q e.symm).1; omega)⟩
set_option maxHeartbeats 1600000 in
theorem ftext_eo {wA W : World} {L : List Int} {x0 : Option Addr} {n0 c0 : Nat} (x : Str) (bx : ByteArray) (hbx : bx = ba x) (h : EO wA W (.slice x0 n0 c0) L) (hl : L.length ≤ 90000000000000) (hx : x.length ≤ 16) :
    Calls Try.prog 29 #[.slice x0 n0 c0, .string bx] W (EP wA W (L ++ txE x)) := by
  have hs : bx.size = x.length := by subst hbx; simp [ba, ByteArray.size]
  have C := hid_of (fuint_rd L x0 n0 c0 x.length W (h.rdd (by omega)) (by omega) (by omega))
  have HST := hid_of h
  have HS : Hid ((L ++ Wr.enc x.length).length ≤ 90000000000010) := hid_of (by have := Wr.enc_length_10 x.length (by omega); rw [List.length_append]; omega)
  have HSR := hid_of (fun W' => src_text W' x bx hbx)
  obtain ⟨n, hn⟩ : ∃ n, n = x.length := ⟨_, rfl⟩
  rw [← hn] at C HS HSR hs hx
  have HN := hid_of hn
  clear h hl hbx hn
  obtain ⟨i0, hi, hz0, hz1, hz2⟩ := info_parts u8E.info
  have HI := hid_of (And.intro hi (And.intro hz0 (And.intro hz1 hz2)))
  clear hi hz0 hz1 hz2
  go_enter Try.func29, Try.ntmps29
  go_wp2_with (first
    | (go_at_call 26; ((with_reducible refine (C.out).mono ?_); (rintro e w1 ⟨y, k, c, rfl, h1⟩)); have H1 := hid_of h1; clear h1)
    | (at_builtin; (refine wpList_append_src _ rfl _ _ 30 9 rfl W.heap.size 5 i0 (.int .u8 0) 1 1 Try.underlying30 HI.out.1 HI.out.2.1 HI.out.2.2.1 HI.out.2.2.2 rfl (by decide) (.slice y k c) k (Wr.bs (L ++ Wr.enc n)) rfl (eo_own H1.out) (.string bx) n (Wr.bs (Wr.strBytes (ba x))) rfl (HSR.out _) (by have := eo_len H1.out; have := HS.out; unfold maxLen; omega) (by have := eo_len H1.out; have := HS.out; omega) (eo_size H1.out) ?_); intro v2 w2 ho hg _ _; obtain ⟨z, c2, rfl, h6, _⟩ := eo_app H1.out HN.out ho hg; have H3 := hid_of h6; clear ho hg h6))
  go_ret
  exact ⟨_, _, _, rfl, by rw [txE, ← List.append_assoc, ← HN.out]; exact HST.out.start H3.out, H3.out.bel⟩
set_option maxHeartbeats 3200000 in
theorem texts_eo {wA W : World} {L : List Int} {x0 : Option Addr} {n0 c0 : Nat} {an : Option Addr} {nn cn : Nat} (ns : List Str) (h : EO wA W (.slice x0 n0 c0) L) (R : Rd W (.slice an nn cn) (ss ns)) (hsm : ∀ x ∈ ns, x.length ≤ 16) (hn : ns.length ≤ 1000) (hl : L.length + (nsE ns).length ≤ 80000000000000) :
    Calls Try.prog 28 #[.slice x0 n0 c0, .slice an nn cn] W (EP wA W (L ++ nsE ns)) := by
  obtain ⟨hnl, h1, h2, h3⟩ := rds_open R
  have HC : Hid (∀ j wr, j < nn → Below W.heap.size W wr → ∃ g o x, an = some ⟨g, o, none⟩ ∧ ns[j]? = some x ∧ wr.cell? ⟨g, o + j, none⟩ = some (.string (ba x))) := hid_of (fun j wr hj hb => by
    obtain ⟨x, hx⟩ : ∃ x, ns[j]? = some x := ⟨_, List.getElem?_eq_getElem (by omega)⟩
    obtain ⟨g, o, e, hg, hc⟩ := h3.resolve_left (fun e => by rw [e] at hx; simp at hx)
    exact ⟨g, o, x, e, hx, (hb.cell (p := ⟨g, o + j, none⟩) hg).trans (hc j x hx)⟩)
  have C0 := hid_of (fuint_eo nn h (by omega) (by omega))
  have HSM := hid_of hsm
  have HNL := hid_of hnl
  have HL := hid_of hl
  have HE : Hid (nsE ns = Wr.enc nn ++ ns.flatMap txE) := hid_of (by rw [hnl]; rfl)
  have hn6 : nn ≤ 1000 := by omega
  clear R hsm hn h hl h3 hnl
  go_enter Try.func28, Try.ntmps28
  go_wp2_with (go_at_call 26; ((with_reducible refine (C0.out).mono ?_); (rintro e w1 ⟨y0, k0, c0, rfl, q1, q2⟩)); have O1 := hid_of q1; have B1 := hid_of q2; clear q1 q2)
  go_loopw [5, 6] (fun ov iv wr => ∃ (j : Nat) (oo : Option Addr) (on oc : Nat), ov = .slice oo on oc ∧ j ≤ nn ∧ iv = .int .i64 j ∧ Hid (EO wA wr (.slice oo on oc) (L ++ Wr.enc nn ++ (ns.take j).flatMap txE)) ∧ Hid (Below W.heap.size W wr)) (fun _ iv _ => nn - (intOf iv).toNat)
  case atStart => exact ⟨0, _, _, _, rfl, Nat.zero_le _, rfl, hid_of (by rw [List.take_zero]; simpa using O1.out), B1⟩
  case round =>
    obtain ⟨j, oo, on, oc, rfl, hj, rfl, hk, hbw⟩ := hrel
    by_cases hlt : j < nn
    · have hd : decide (j < nn) = true := by simp; omega
      have b0 : (0 : Int) ≤ (j : Int) := by omega
      have b1 : (j : Int) < (nn : Int) := by omega
      obtain ⟨g, o, x, rfl, hx, c0⟩ := HC.out j wr hlt hbw.out
      obtain ⟨bx, hbx⟩ : ∃ bx, bx = ba x := ⟨_, rfl⟩
      have CT := hid_of (ftext_eo x bx hbx hk.out (by
        have h1 := HL.out
        have h2 := flat_take txE ns j
        rw [HE.out] at h1
        simp only [List.length_append] at h1 h2 ⊢
        omega) (HSM.out x (List.mem_of_getElem? hx)))
      have HNX : Hid (L ++ Wr.enc nn ++ (ns.take j).flatMap txE ++ txE x = L ++ Wr.enc nn ++ (ns.take (j + 1)).flatMap txE) := hid_of (by rw [take_snocL hx, List.flatMap_append, List.flatMap_singleton, ← List.append_assoc])
      rw [← hbx] at c0
      clear hx hbx
      go_wp2_with (go_at_call 29; ((with_reducible refine (CT.out).mono ?_); (rintro e w2 ⟨y2, k2, c2, rfl, q1, q2⟩)); have O2 := hid_of q1; have B2 := hid_of q2; clear q1 q2)
      go_roundw
      case rel => exact ⟨j + 1, _, _, _, rfl, by omega, by go_num, hid_of (by rw [← HNX.out]; exact O2.out), hid_of (hbw.out.trans (B2.out.mono hbw.out.size))⟩
      case measure => simp [intOf]; omega
    · have hd : decide (j < nn) = false := by simp; omega
      have HF : Hid (EO wA wr (.slice oo on oc) (L ++ nsE ns)) := hid_of (by
        have h1 := hk.out
        rw [List.take_of_length_le (by have := HNL.out; omega), List.append_assoc, ← HE.out] at h1
        exact h1)
      go_wp2
      go_ret
      exact ⟨_, _, _, rfl, HF.out, hbw.out⟩
end Go.Proofs.Ytcjnmgokddfidaa

/- The reference's raw: a number at a place. Bounds on sizes alone. -/
namespace Go.Proofs.Ytcjnmgokddfidaa
open Go.RowKit
set_option maxRecDepth 100000

def rawRes (a : Nat) : Option (Nat × Nat) → Value
  | some (n, k) => .tuple #[.int .u64 n, .int .i64 ((a + k : Nat) : Int), .bool true]
  | none => .tuple #[.int .u64 0, .int .i64 a, .bool false]
theorem pow27r (i : Nat) : (2 : Int) ^ (7 * i) = ((128 ^ i : Nat) : Int) := by
  rw [Int.pow_mul]
  push_cast
  rfl
theorem grp_raw (acc z i : Nat) (hi : i ≤ 8 ∨ i = 9 ∧ z ≤ 1) (ha : acc < 128 ^ i) : IntKind.u64.wrap ((acc : Int) + IntKind.u64.wrap ((z : Int) % 128 * 2 ^ (7 * i))) = ((acc + z % 128 * 128 ^ i : Nat) : Int) ∧ (i ≤ 8 → acc + z % 128 * 128 ^ i < 128 ^ (i + 1)) := by
  rw [pow27r]
  have e : (z : Int) % 128 * ((128 ^ i : Nat) : Int) = ((z % 128 * 128 ^ i : Nat) : Int) := by push_cast; rfl
  rw [e, IntKind.wrap_u64, IntKind.wrap_u64]
  rcases hi with hi | ⟨rfl, hz⟩
  · have h1 := Wr.pow_le9 i (by omega)
    have h2 : z % 128 * 128 ^ i + 128 ^ i ≤ 128 ^ (i + 1) := by
      rw [Nat.pow_succ, ← Nat.succ_mul, Nat.mul_comm (128 ^ i)]
      exact Nat.mul_le_mul_right _ (by omega)
    exact ⟨by omega, fun _ => by omega⟩
  · have h9 : (128 : Nat) ^ 9 = 9223372036854775808 := by decide
    rw [h9] at ha ⊢
    exact ⟨by omega, fun h => by omega⟩
theorem raw_step {d : List Int} {i acc j z : Nat} (hi : i < 10) (hz : d[j]? = some (z : Int)) : Wr.decAt (10 - i) i acc (d.drop j) = if 128 ≤ (z : Int) then Wr.decAt (10 - (i + 1)) (i + 1) (acc + ((z : Int) - 128).toNat * 128 ^ i) (d.drop (j + 1)) else if Wr.mayEnd i z then some (acc + (z : Int).toNat * 128 ^ i, i + 1) else none := by
  obtain ⟨hj, e⟩ := List.getElem?_eq_some_iff.1 hz
  rw [List.drop_eq_getElem_cons hj, e, show 10 - i = (10 - (i + 1)) + 1 by omega]
  rfl
theorem ret_raw {n m : Int} {k j : Int} (h1 : n = m) (h2 : k = j) : Ending.returned (.tuple #[.int .u64 n, .int .i64 k, .bool true]) = Ending.returned (.tuple #[.int .u64 m, .int .i64 j, .bool true]) := by rw [h1, h2]
theorem bs_open {w : World} {ao : Option Addr} {n cap : Nat} {d : List Int} (h : Rd w (.slice ao n cap) (Wr.bs d)) : d.length = n ∧ n ≤ cap ∧ (0 < n → ∃ g o, ao = some ⟨g, o, none⟩ ∧ g < w.heap.size ∧ ∀ j y, d[j]? = some y → w.cell? ⟨g, o + j, none⟩ = some (.int .u8 y)) := by
  obtain ⟨ao', cap', e, h2, h3, h4⟩ := h
  simp only [Value.slice.injEq] at e
  obtain ⟨rfl, e2, rfl⟩ := e
  rw [bs_len] at e2 h2 h4
  subst e2
  refine ⟨rfl, h2, fun h0 => ?_⟩
  obtain ⟨g, o, r1, r2, r3⟩ := h4 h0
  exact ⟨g, o, r1, r2, fun j y hy => r3 j _ (by simp [Wr.bs, hy])⟩
set_option maxHeartbeats 3200000 in
theorem raw_any (ao : Option Addr) (n cap : Nat) (d : List Int) (a : Nat) (w : World) (h : Rd w (.slice ao n cap) (Wr.bs d)) (hr : ∀ y ∈ d, 0 ≤ y ∧ y ≤ 255) (hn : n ≤ 140737488351232) (ha : a ≤ n) :
    Calls Try.prog 78 #[.slice ao n cap, .int .i64 a] w fun e w' => e = .returned (rawRes a (Wr.dec (d.drop a))) ∧ Below w.heap.size w w' := by
  obtain ⟨R, hR⟩ : ∃ R, R = Wr.dec (d.drop a) := ⟨_, rfl⟩
  rw [← hR]
  have HR := hid_of hR
  obtain ⟨hdl, hcap, hop⟩ := bs_open h
  have HD := hid_of hop
  have HRR := hid_of hr
  have HN := hid_of hdl
  clear h hr hR hdl hop
  go_enter Try.func78, Try.ntmps78
  go_wp2
  go_loopw [4, 5, 6, 7, 8] (fun nv ev kv iv xv wr => ∃ (i acc : Nat) (e5 e6 x8 : Value), ev = e5 ∧ kv = e6 ∧ xv = x8 ∧ i ≤ 10 ∧ iv = .int .i64 i ∧ nv = .int .u64 acc ∧ a + i ≤ n ∧ Hid ((i ≤ 9 → acc < 128 ^ i) ∧ R = Wr.decAt (10 - i) i acc (d.drop (a + i))) ∧ Hid (Below w.heap.size w wr)) (fun _ _ _ iv _ _ => 10 - (intOf iv).toNat)
  case atStart => exact ⟨0, 0, _, _, _, rfl, rfl, rfl, by omega, rfl, rfl, ha, hid_of ⟨fun _ => by simp, HR.out⟩, hid_of (Below.refl _ _)⟩
  case round =>
    obtain ⟨i, acc, e5, e6, x8, rfl, rfl, rfl, hi, rfl, rfl, hai, hp, hb⟩ := hrel
    have HP := hid_of hp.out
    have HB := hid_of hb.out
    clear hp hb
    have aw : IntKind.i64.wrap ((a : Int) + (i : Int)) = (a : Int) + (i : Int) := IntWalk.i64_in _ (by omega)
    by_cases h8 : i < 10
    · by_cases hlt : a + i < n
      · obtain ⟨g, o, rfl, hg, hc⟩ := HD.out (by omega)
        obtain ⟨y, hy⟩ : ∃ y, d[a + i]? = some y := ⟨_, List.getElem?_eq_getElem (by have := HN.out; omega)⟩
        have c1 := (HB.out.cell (p := ⟨g, o + (a + i), none⟩) hg).trans (hc (a + i) y hy)
        have hyr := HRR.out y (List.mem_of_getElem? hy)
        obtain ⟨z, rfl⟩ : ∃ z : Nat, y = z := ⟨y.toNat, by omega⟩
        have b1 : (a : Int) + (i : Int) < (n : Int) := by omega
        have b0 : (0 : Int) ≤ (a : Int) + (i : Int) := by omega
        have db1 : decide ((a : Int) + (i : Int) < (n : Int)) = true := by simp; omega
        have hz : z ≤ 255 := by omega
        have ST := hid_of (HP.out.2.trans (raw_step h8 hy))
        by_cases h9 : i = 9 ∧ 1 < z
        · have d9 : ((i : Int) == 9) = true := by simp; omega
          have d91 : decide ((z : Int) > 1) = true := by simp; omega
          have HE : Hid (R = none) := hid_of (by
            rw [ST.out]
            obtain ⟨rfl, hz1⟩ := h9
            split
            · rfl
            · rw [if_neg (by unfold Wr.mayEnd; simp; omega)])
          clear hc hy h9
          go_wp2
          refine bodyPost_ret (results_tmp3 rfl _ _ _) rfl ⟨by rw [HE.out]; rfl, HB.out⟩
        · obtain ⟨nv, hnv⟩ : ∃ nv, nv = acc + z % 128 * 128 ^ i := ⟨_, rfl⟩
          have GV := grp_raw acc z i (by omega) (HP.out.1 (by omega))
          rw [← hnv] at GV
          obtain ⟨av, hlt2⟩ := GV
          have NV := hid_of hnv
          have HL2 := hid_of hlt2
          have d9 : (((i : Int) == 9) = false) ∨ (((i : Int) == 9) = true ∧ decide ((z : Int) > 1) = false) := by
            by_cases h : i = 9
            · exact .inr ⟨by simp; omega, by simp; omega⟩
            · exact .inl (by simp; omega)
          clear hc hnv hlt2 hy
          by_cases hz1 : z < 128
          · have dz : decide ((z : Int) < 128) = true := by simp; omega
            have EV : Hid (nv = acc + (z : Int).toNat * 128 ^ i) := hid_of (by rw [NV.out, Nat.mod_eq_of_lt hz1]; rfl)
            have hcase : (i = 0) ∨ (0 < i ∧ z = 0) ∨ (0 < i ∧ z ≠ 0) := by omega
            rcases hcase with hi0 | ⟨hi0, hz0⟩ | ⟨hi0, hz0⟩
            · have HE : Hid (R = some (nv, i + 1)) := hid_of (by
                rw [ST.out, if_neg (by omega), if_pos (by unfold Wr.mayEnd; simp [hi0]), EV.out])
              have di : decide (0 < i) = false := by simp; omega
              clear hi0
              rcases d9 with d9 | ⟨d9, d91⟩
              all_goals
                go_wp2
                all_goals refine bodyPost_ret (results_tmp3 rfl _ _ _) rfl ⟨by rw [HE.out]; exact ret_raw rfl (by push_cast; omega), HB.out⟩
            · have HE : Hid (R = none) := hid_of (by
                rw [ST.out, if_neg (by omega), if_neg (by unfold Wr.mayEnd; simp [hz0]; omega)])
              have di : decide (0 < i) = true := by simp; omega
              have dz0 : ((z : Int) == 0) = true := by simp; omega
              clear hz0
              rcases d9 with d9 | ⟨d9, d91⟩
              all_goals
                go_wp2
                all_goals refine bodyPost_ret (results_tmp3 rfl _ _ _) rfl ⟨by rw [HE.out]; rfl, HB.out⟩
            · have HE : Hid (R = some (nv, i + 1)) := hid_of (by
                rw [ST.out, if_neg (by omega), if_pos (by unfold Wr.mayEnd; simp [hz0]; omega), EV.out])
              have di : decide (0 < i) = true := by simp; omega
              have dz0 : ((z : Int) == 0) = false := by simp; omega
              clear hz0
              rcases d9 with d9 | ⟨d9, d91⟩
              all_goals
                go_wp2
                all_goals refine bodyPost_ret (results_tmp3 rfl _ _ _) rfl ⟨by rw [HE.out]; exact ret_raw rfl (by push_cast; omega), HB.out⟩
          · have dz : decide ((z : Int) < 128) = false := by simp; omega
            have d9' : ((i : Int) == 9) = false := by simp; omega
            have HE : Hid (R = Wr.decAt (10 - (i + 1)) (i + 1) nv (d.drop (a + (i + 1)))) := hid_of (by
              rw [ST.out, if_pos (by omega), NV.out, show ((z : Int) - 128).toNat = z % 128 by omega]
              rfl)
            have hi8 : i ≤ 8 := by omega
            clear hz1 d9
            go_wp2
            go_roundw
            case rel => exact ⟨i + 1, nv, _, _, _, rfl, rfl, rfl, by omega, by go_num, rfl, by omega, hid_of ⟨fun _ => HL2.out hi8, HE.out⟩, HB⟩
            case measure => simp [intOf]; omega
      · have hEq : a + i = n := by omega
        have HE : Hid (R = none) := hid_of (by
          rw [HP.out.2, List.drop_of_length_le (by have := HN.out; omega), show 10 - i = (9 - i) + 1 by omega]
          rfl)
        have b1 : ¬ (a : Int) + (i : Int) < (n : Int) := by omega
        have db : decide ((a : Int) + (i : Int) < (n : Int)) = false := by simp; omega
        go_wp2
        refine bodyPost_ret (results_tmp3 rfl _ _ _) rfl ⟨by rw [HE.out]; rfl, HB.out⟩
    · obtain rfl : i = 10 := by omega
      have HE : Hid (R = none) := hid_of (by rw [HP.out.2]; rfl)
      go_wp2
      refine bodyPost_ret (results_tmp3 rfl _ _ _) rfl ⟨by rw [HE.out]; rfl, HB.out⟩
end Go.Proofs.Ytcjnmgokddfidaa

/- The reference's In, at an offset or bad: every read as a function of this state, the program's own. Bounds on sizes alone. -/
namespace Go.Proofs.Ytcjnmgokddfidaa
open Go.RowKit
set_option maxRecDepth 100000
set_option maxHeartbeats 3200000

/-- The In in block b over a slice that reads as d. -/
structure Ib (w : World) (b : Nat) (ao : Option Addr) (n cap : Nat) (d : List Int) (v1 v2 v3 : Value) : Prop where
  blk : w.heap[b]? = some (.cells [.slice ao n cap, v1, v2, v3].toArray 62 (0, 0))
  rd : Rd w (.slice ao n cap) (Wr.bs d)
  ne : 0 < d.length → In (fun k => k < b) (.slice ao n cap)
  rng : ∀ y ∈ d, 0 ≤ y ∧ y ≤ 255
  small : n ≤ 140737488351232
section
variable {w w2 : World} {b : Nat} {ao : Option Addr} {n cap : Nat} {d : List Int} {v1 v2 v3 : Value}
theorem Ib.bel (h : Ib w b ao n cap d v1 v2 v3) (hb : Below w.heap.size w w2) : Ib w2 b ao n cap d v1 v2 v3 :=
  ⟨(hb.block _ (lt_of_block h.blk)).trans h.blk, h.rd.at hb, h.ne, h.rng, h.small⟩
theorem rd_keepB {v : Value} {l : List Value} (h : Rd w v l) (hB : 0 < l.length → In (fun k => k ≠ b) v) (hs : w.heap.size ≤ w2.heap.size) (hk : ∀ k, k ≠ b → k < w.heap.size → w2.heap[k]? = w.heap[k]?) : Rd w2 v l := by
  obtain ⟨ao, cap, e, h2, h3, h4⟩ := h
  refine ⟨ao, cap, e, h2, h3, fun h0 => ?_⟩
  obtain ⟨g, o, rfl, hg, hc⟩ := h4 h0
  have hb := hk g (hB h0 _ _ _ e) hg
  exact ⟨g, o, rfl, by omega, fun i t ht => (World.cell?_of_block (w := w) hb).trans (hc i t ht)⟩
theorem Ib.set (h : Ib w b ao n cap d v1 v2 v3) (j : Nat) (v : Value) {y1 y2 y3 : Value} (e : [.slice ao n cap, v1, v2, v3].set j v = [.slice ao n cap, y1, y2, y3]) : Ib (w.setCell ⟨b, j, none⟩ v) b ao n cap d y1 y2 y3 :=
  ⟨by rw [← e]; exact Go.Proofs.Ytcjnmgokddfidaa.blk_setCell (k := j) h.blk, rd_keepB h.rd (fun h0 a n c e => Nat.ne_of_lt (h.ne (by simpa [Wr.bs] using h0) a n c e)) (by simp) (fun k hk _ => set_blk 0 (fun e => hk e.symm)), h.ne, h.rng, h.small⟩
theorem Ib.up {B : Nat} (h : Ib w b ao n cap d v1 v2 v3) (hb : Below B w w2) (hB : b < B) : Ib w2 b ao n cap d v1 v2 v3 := by
  refine ⟨(hb.block _ hB).trans h.blk, ?_, h.ne, h.rng, h.small⟩
  obtain ⟨a0, c0, e, h2, h3, h4⟩ := h.rd
  refine ⟨a0, c0, e, h2, h3, fun h0 => ?_⟩
  obtain ⟨g, o, rfl, hg, hc⟩ := h4 h0
  have hb2 := hb.block g (by have := h.ne (by simpa [Wr.bs] using h0) _ _ _ e; simp only at this; omega)
  have := hb.size
  exact ⟨g, o, rfl, by omega, fun i t ht => (World.cell?_of_block (w := w) hb2).trans (hc i t ht)⟩
theorem Ib.cells (h : Ib w b ao n cap d v1 v2 v3) : w.cell? ⟨b, 0, none⟩ = some (.slice ao n cap) ∧ w.cell? ⟨b, 1, none⟩ = some v1 ∧ w.cell? ⟨b, 2, none⟩ = some v2 ∧ w.cell? ⟨b, 3, none⟩ = some v3 :=
  ⟨cell_blk h.blk rfl, cell_blk h.blk rfl, cell_blk h.blk rfl, cell_blk h.blk rfl⟩
theorem Ib.free (h : Ib w b ao n cap d v1 v2 v3) (j : Nat) : w.frozen? ⟨b, j, none⟩ = false := fr_blk h.blk j
theorem kept_set (w : World) (b j : Nat) (v : Value) : Wr.Kept (fun k => k = b) w (w.setCell ⟨b, j, none⟩ v) := Wr.Kept.setCell (S := fun k => k = b) (Wr.Kept.refl _ _) (p := ⟨b, j, none⟩) rfl v
theorem kept_trans {S : Nat → Prop} {a c e : World} (h : Wr.Kept S a c) (k : Wr.Kept S c e) : Wr.Kept S a e :=
  ⟨k.os.trans h.os, k.tape.trans h.tape, k.output.trans h.output, Nat.le_trans h.size k.size, fun x hx hn => (k.block x (Nat.lt_of_lt_of_le hx h.size) hn).trans (h.block x hx hn)⟩
theorem kept_bel {S : Nat → Prop} {a c : World} (h : Below a.heap.size a c) : Wr.Kept S a c := ⟨h.os, h.tape, h.output, h.size, fun x hx _ => h.block x hx⟩
end
/-- The In in block b: at an offset, or bad. -/
def IS (w : World) (b : Nat) (ao : Option Addr) (n cap : Nat) (d : List Int) : Option Nat → Prop
  | some off => ∃ last : Int, off ≤ n ∧ Ib w b ao n cap d (.int .i64 off) (.int .i64 last) (.bool false)
  | none => ∃ v1 v2 : Int, Ib w b ao n cap d (.int .i64 v1) (.int .i64 v2) (.bool true)
theorem IS.up {w w2 : World} {b : Nat} {ao : Option Addr} {n cap : Nat} {d : List Int} {s : Option Nat} {B : Nat} (h : IS w b ao n cap d s) (hb : Below B w w2) (hB : b < B) : IS w2 b ao n cap d s := by
  cases s with
  | none => obtain ⟨x1, x2, h⟩ := h; exact ⟨x1, x2, h.up hb hB⟩
  | some off => obtain ⟨x, ho, h⟩ := h; exact ⟨x, ho, h.up hb hB⟩
theorem IS.bad {w : World} {b : Nat} {ao : Option Addr} {n cap : Nat} {d : List Int} {s : Option Nat} (h : IS w b ao n cap d s) : w.cell? ⟨b, 3, none⟩ = some (.bool s.isNone) ∧ b < w.heap.size ∧ n ≤ 140737488351232 ∧ d.length = n := by
  cases s with
  | none => obtain ⟨x1, x2, h⟩ := h; exact ⟨h.cells.2.2.2, lt_of_block h.blk, h.small, (bs_open h.rd).1⟩
  | some off => obtain ⟨x, ho, h⟩ := h; exact ⟨h.cells.2.2.2, lt_of_block h.blk, h.small, (bs_open h.rd).1⟩
/-- A step of the In. -/
def IT (w w' : World) (b : Nat) (ao : Option Addr) (n cap : Nat) (d : List Int) (s : Option Nat) : Prop := IS w' b ao n cap d s ∧ Wr.Kept (fun k => k = b) w w'
theorem dec_le {d : List Int} {off m k n : Nat} (hr : ∀ y ∈ d, 0 ≤ y ∧ y ≤ 255) (hl : d.length = n) (ho : off ≤ n) (h : Wr.dec (d.drop off) = some (m, k)) : off + k ≤ n ∧ m < 18446744073709551616 := by
  have := Wr.dec_bound (fun y hy => hr y (List.mem_of_mem_drop hy)) h
  rw [List.length_drop] at this
  omega
section
variable (w : World) (b : Nat) (ao : Option Addr) (n cap : Nat) (d : List Int)
theorem iu_any (s : Option Nat) (h : IS w b ao n cap d s) : Calls Try.prog 57 #[.pointer (some ⟨b, 0, none⟩)] w fun e w' => e = .returned (.int .u64 (Wr.uR d s).1) ∧ IT w w' b ao n cap d (Wr.uR d s).2 := by
  cases s with
  | none =>
    obtain ⟨x1, x2, h⟩ := h
    obtain ⟨c0, c1, c2, c3⟩ := h.cells
    have H := hid_of h
    clear h
    go_enter Try.func57, Try.ntmps57
    go_wp2
    go_ret
    exact ⟨rfl, ⟨x1, x2, H.out⟩, Wr.Kept.refl _ _⟩
  | some off =>
    obtain ⟨last, ho, h⟩ := h
    obtain ⟨c0, c1, c2, c3⟩ := h.cells
    have f2 := h.free 2
    have H1 := hid_of (h.set 2 (.int .i64 off) rfl)
    have K1 := hid_of (kept_set w b 2 (.int .i64 off))
    obtain ⟨W, hW⟩ : ∃ W, W = w.setCell ⟨b, 2, none⟩ (.int .i64 off) := ⟨_, rfl⟩
    rw [← hW] at H1 K1
    have HW := hid_of hW.symm
    have hdl := (bs_open h.rd).1
    have HRG := hid_of h.rng
    have RW := hid_of (raw_any ao n cap d off W.drew ((H1.out.bel (Below.refl _ _).drew).rd) h.rng h.small ho)
    have HKS : Hid (∀ X, Below W.heap.size W X → X.cell? ⟨b, 0, none⟩ = some (.slice ao n cap) ∧ X.cell? ⟨b, 1, none⟩ = some (.int .i64 off)) := hid_of (fun X hX => ⟨((H1.out.bel hX).cells).1, ((H1.out.bel hX).cells).2.1⟩)
    have B1 : Hid (Below W.heap.size W W.drew) := hid_of (Below.refl _ _).drew
    cases hd : Wr.dec (d.drop off) with
    | none =>
      have e1 : Wr.uR d (some off) = (0, none) := by simp only [Wr.uR, hd]
      rw [hd] at RW
      have RW : Hid (Calls Try.prog 78 #[.slice ao n cap, .int .i64 off] W.drew fun e w' => e = .returned (.tuple #[.int .u64 0, .int .i64 off, .bool false]) ∧ Below W.drew.heap.size W.drew w') := RW
      rw [e1]
      clear h hW hd e1 hdl
      go_enter Try.func57, Try.ntmps57
      go_wp2
      rw [HW.out]
      go_region_held3 (fun X => X.cell? ⟨b, 0, none⟩ = some (.slice ao n cap) ∧ X.cell? ⟨b, 1, none⟩ = some (.int .i64 off)) (exact HKS.out _ (Hid.out (by with_reducible assumption))) (first
        | (go_at_call 78; ((with_reducible refine (RW.out).mono ?_); (rintro e w3 ⟨rfl, q1⟩)); have B3 : Hid (Below W.heap.size W w3) := hid_of (undrew q1); clear q1; have I3 := hid_of (H1.out.bel B3.out); obtain ⟨k0, k1, k2, k3⟩ := I3.out.cells; have f3 := I3.out.free 3; have I4 := hid_of (I3.out.set 3 (.bool true) rfl)))
      all_goals go_wp2
      all_goals go_ret
      all_goals exact ⟨rfl, ⟨_, _, I4.out⟩, kept_trans K1.out (kept_trans (kept_bel B3.out) (kept_set _ _ _ _))⟩
    | some x =>
      obtain ⟨m, k⟩ := x
      have e1 : Wr.uR d (some off) = (m, some (off + k)) := by simp only [Wr.uR, hd]
      obtain ⟨l1, l2⟩ := dec_le h.rng hdl ho hd
      rw [hd] at RW
      have RW : Hid (Calls Try.prog 78 #[.slice ao n cap, .int .i64 off] W.drew fun e w' => e = .returned (.tuple #[.int .u64 m, .int .i64 ((off + k : Nat) : Int), .bool true]) ∧ Below W.drew.heap.size W.drew w') := RW
      rw [e1]
      clear h hW hd e1 hdl
      go_enter Try.func57, Try.ntmps57
      go_wp2
      rw [HW.out]
      go_region_held3 (fun X => X.cell? ⟨b, 0, none⟩ = some (.slice ao n cap) ∧ X.cell? ⟨b, 1, none⟩ = some (.int .i64 off)) (exact HKS.out _ (Hid.out (by with_reducible assumption))) (first
        | (go_at_call 78; ((with_reducible refine (RW.out).mono ?_); (rintro e w3 ⟨rfl, q1⟩)); have B3 : Hid (Below W.heap.size W w3) := hid_of (undrew q1); clear q1; have I3 := hid_of (H1.out.bel B3.out); obtain ⟨k0, k1, k2, k3⟩ := I3.out.cells; have f1 := I3.out.free 1; have I4 := hid_of (I3.out.set 1 (.int .i64 ((off + k : Nat) : Int)) rfl)))
      all_goals go_wp2
      all_goals go_ret
      all_goals exact ⟨rfl, ⟨_, l1, I4.out⟩, kept_trans K1.out (kept_trans (kept_bel B3.out) (kept_set _ _ _ _))⟩
theorem ic_any (s : Option Nat) (h : IS w b ao n cap d s) : Calls Try.prog 61 #[.pointer (some ⟨b, 0, none⟩)] w fun e w' => e = .returned (.int .i64 (Wr.cR d s).1) ∧ IT w w' b ao n cap d (Wr.cR d s).2 := by
  cases s with
  | none =>
    obtain ⟨x1, x2, h⟩ := h
    obtain ⟨c0, c1, c2, c3⟩ := h.cells
    have H := hid_of h
    clear h
    go_enter Try.func61, Try.ntmps61
    go_wp2
    go_ret
    exact ⟨rfl, ⟨x1, x2, H.out⟩, Wr.Kept.refl _ _⟩
  | some off =>
    obtain ⟨last, ho, h⟩ := h
    obtain ⟨c0, c1, c2, c3⟩ := h.cells
    have f2 := h.free 2
    have H1 := hid_of (h.set 2 (.int .i64 off) rfl)
    have K1 := hid_of (kept_set w b 2 (.int .i64 off))
    obtain ⟨W, hW⟩ : ∃ W, W = w.setCell ⟨b, 2, none⟩ (.int .i64 off) := ⟨_, rfl⟩
    rw [← hW] at H1 K1
    have HW := hid_of hW.symm
    have hdl := (bs_open h.rd).1
    have HRG := hid_of h.rng
    have RW := hid_of (raw_any ao n cap d off W.drew ((H1.out.bel (Below.refl _ _).drew).rd) h.rng h.small ho)
    have HKS : Hid (∀ X, Below W.heap.size W X → X.cell? ⟨b, 0, none⟩ = some (.slice ao n cap) ∧ X.cell? ⟨b, 1, none⟩ = some (.int .i64 off)) := hid_of (fun X hX => ⟨((H1.out.bel hX).cells).1, ((H1.out.bel hX).cells).2.1⟩)
    have B1 : Hid (Below W.heap.size W W.drew) := hid_of (Below.refl _ _).drew
    cases hd : Wr.dec (d.drop off) with
    | none =>
      have e1 : Wr.cR d (some off) = (0, none) := by simp only [Wr.cR, hd]
      rw [hd] at RW
      have RW : Hid (Calls Try.prog 78 #[.slice ao n cap, .int .i64 off] W.drew fun e w' => e = .returned (.tuple #[.int .u64 0, .int .i64 off, .bool false]) ∧ Below W.drew.heap.size W.drew w') := RW
      rw [e1]
      clear h hW hd e1 hdl
      go_enter Try.func61, Try.ntmps61
      go_wp2
      rw [HW.out]
      go_region_held3 (fun X => X.cell? ⟨b, 0, none⟩ = some (.slice ao n cap) ∧ X.cell? ⟨b, 1, none⟩ = some (.int .i64 off)) (exact HKS.out _ (Hid.out (by with_reducible assumption))) (first
        | (go_at_call 78; ((with_reducible refine (RW.out).mono ?_); (rintro e w3 ⟨rfl, q1⟩)); have B3 : Hid (Below W.heap.size W w3) := hid_of (undrew q1); clear q1; have I3 := hid_of (H1.out.bel B3.out); obtain ⟨k0, k1, k2, k3⟩ := I3.out.cells; have f3 := I3.out.free 3; have I4 := hid_of (I3.out.set 3 (.bool true) rfl)))
      all_goals go_wp2
      all_goals go_ret
      all_goals exact ⟨rfl, ⟨_, _, I4.out⟩, kept_trans K1.out (kept_trans (kept_bel B3.out) (kept_set _ _ _ _))⟩
    | some x =>
      obtain ⟨m, k⟩ := x
      obtain ⟨l1, l2⟩ := dec_le h.rng hdl ho hd
      have hsm := h.small
      rw [hd] at RW
      have RW : Hid (Calls Try.prog 78 #[.slice ao n cap, .int .i64 off] W.drew fun e w' => e = .returned (.tuple #[.int .u64 m, .int .i64 ((off + k : Nat) : Int), .bool true]) ∧ Below W.drew.heap.size W.drew w') := RW
      by_cases hfit : off + k + m ≤ n
      · have e1 : Wr.cR d (some off) = (m, some (off + k)) := by simp only [Wr.cR, hd]; rw [if_pos (by omega)]
        have dgt : decide ((m : Int) > (n : Int) - ((off : Int) + (k : Int))) = false := by simp; omega
        have dgt2 : decide ((n : Int) - ((off : Int) + (k : Int)) < (m : Int)) = false := by simp; omega
        rw [e1]
        clear h hW hd e1 hdl
        go_enter Try.func61, Try.ntmps61
        go_wp2
        rw [HW.out]
        go_region_held3 (fun X => X.cell? ⟨b, 0, none⟩ = some (.slice ao n cap) ∧ X.cell? ⟨b, 1, none⟩ = some (.int .i64 off)) (exact HKS.out _ (Hid.out (by with_reducible assumption))) (first
          | (go_at_call 78; ((with_reducible refine (RW.out).mono ?_); (rintro e w3 ⟨rfl, q1⟩)); have B3 : Hid (Below W.heap.size W w3) := hid_of (undrew q1); clear q1; have I3 := hid_of (H1.out.bel B3.out); obtain ⟨k0, k1, k2, k3⟩ := I3.out.cells; have f1 := I3.out.free 1; have I4 := hid_of (I3.out.set 1 (.int .i64 ((off + k : Nat) : Int)) rfl)))
        all_goals go_wp2
        all_goals go_ret
        all_goals exact ⟨rfl, ⟨_, l1, I4.out⟩, kept_trans K1.out (kept_trans (kept_bel B3.out) (kept_set _ _ _ _))⟩
      · have e1 : Wr.cR d (some off) = (0, none) := by simp only [Wr.cR, hd]; rw [if_neg (by omega)]
        have dgt : decide ((m : Int) > (n : Int) - ((off : Int) + (k : Int))) = true := by simp; omega
        have dgt2 : decide ((n : Int) - ((off : Int) + (k : Int)) < (m : Int)) = true := by simp; omega
        rw [e1]
        clear h hW hd e1 hdl
        go_enter Try.func61, Try.ntmps61
        go_wp2
        rw [HW.out]
        go_region_held3 (fun X => X.cell? ⟨b, 0, none⟩ = some (.slice ao n cap) ∧ X.cell? ⟨b, 1, none⟩ = some (.int .i64 off)) (exact HKS.out _ (Hid.out (by with_reducible assumption))) (first
          | (go_at_call 78; ((with_reducible refine (RW.out).mono ?_); (rintro e w3 ⟨rfl, q1⟩)); have B3 : Hid (Below W.heap.size W w3) := hid_of (undrew q1); clear q1; have I3 := hid_of (H1.out.bel B3.out); obtain ⟨k0, k1, k2, k3⟩ := I3.out.cells; have f3 := I3.out.free 3; have I4 := hid_of (I3.out.set 3 (.bool true) rfl)))
        all_goals go_wp2
        all_goals go_ret
        all_goals exact ⟨rfl, ⟨_, _, I4.out⟩, kept_trans K1.out (kept_trans (kept_bel B3.out) (kept_set _ _ _ _))⟩
theorem ii_any (s : Option Nat) (h : IS w b ao n cap d s) : Calls Try.prog 59 #[.pointer (some ⟨b, 0, none⟩)] w fun e w' => e = .returned (.int .i64 (Wr.iR d s).1) ∧ IT w w' b ao n cap d (Wr.iR d s).2 := by
  have HU := hid_of (iu_any w b ao n cap d s h)
  have hlt : (Wr.uR d s).1 < 18446744073709551616 := by
    cases s with
    | none => show 0 < _; omega
    | some off =>
      obtain ⟨last, ho, h⟩ := h
      cases hd : Wr.dec (d.drop off) with
      | none => simp only [Wr.uR, hd]; omega
      | some x => simp only [Wr.uR, hd]; exact (dec_le h.rng (bs_open h.rd).1 ho hd).2
  obtain ⟨m, hm⟩ : ∃ m, m = (Wr.uR d s).1 := ⟨_, rfl⟩
  have e1 : Wr.iR d s = (Wr.unzig m, (Wr.uR d s).2) := by rw [hm]; rfl
  rw [← hm] at HU hlt
  rw [e1]
  clear hm e1 h
  have h2 : m % 2 = 0 ∨ m % 2 = 1 := by omega
  rcases h2 with h2 | h2
  · have e2 : ((m : Int) % 2 == 0) = true := by simp; omega
    have EV : Hid (Wr.unzig m = (m : Int) / 2) := hid_of (by unfold Wr.unzig; rw [if_pos h2]; omega)
    clear h2
    go_enter Try.func59, Try.ntmps59
    go_wp2_with (go_at_call 57; ((with_reducible refine (HU.out).mono ?_); (rintro e w2 ⟨rfl, q1⟩)); have I2 := hid_of q1; clear q1)
    go_ret
    exact ⟨Wr.ret_i64 (by rw [EV.out]), I2.out⟩
  · have e2 : ((m : Int) % 2 == 0) = false := by simp; omega
    have EV : Hid (Wr.unzig m = -((m : Int) / 2) - 1) := hid_of (by unfold Wr.unzig; rw [if_neg (by omega)]; omega)
    clear h2
    go_enter Try.func59, Try.ntmps59
    go_wp2_with (go_at_call 57; ((with_reducible refine (HU.out).mono ?_); (rintro e w2 ⟨rfl, q1⟩)); have I2 := hid_of q1; clear q1)
    go_ret
    exact ⟨Wr.ret_i64 (by rw [EV.out]), I2.out⟩
theorem if_any (s : Option Nat) (h : IS w b ao n cap d s) : Calls Try.prog 58 #[.pointer (some ⟨b, 0, none⟩)] w fun e w' => e = .returned (.tuple #[]) ∧ IT w w' b ao n cap d none := by
  cases s with
  | none =>
    obtain ⟨x1, x2, h⟩ := h
    obtain ⟨c0, c1, c2, c3⟩ := h.cells
    have H := hid_of h
    clear h
    go_enter Try.func58, Try.ntmps58
    go_wp2
    go_end0
    exact ⟨rfl, ⟨x1, x2, H.out⟩, Wr.Kept.refl _ _⟩
  | some off =>
    obtain ⟨last, ho, h⟩ := h
    obtain ⟨c0, c1, c2, c3⟩ := h.cells
    have f3 := h.free 3
    have H1 := hid_of (h.set 3 (.bool true) rfl)
    obtain ⟨g0, g1, g2, g3⟩ := H1.out.cells
    have f1 := H1.out.free 1
    have H2 := hid_of (H1.out.set 1 (.int .i64 last) rfl)
    clear h
    go_enter Try.func58, Try.ntmps58
    go_wp2
    go_end0
    exact ⟨rfl, ⟨last, last, H2.out⟩, kept_trans (kept_set _ _ _ _) (kept_set _ _ _ _)⟩
end
end Go.Proofs.Ytcjnmgokddfidaa

/- The reference's In: Bytes, Text, End. Bounds on sizes alone. -/
namespace Go.Proofs.Ytcjnmgokddfidaa
open Go.RowKit
set_option maxRecDepth 100000
set_option maxHeartbeats 3200000

theorem conv_rdq {W : World} {a : Option Addr} {n c : Nat} {L : List Int} (h : Rd W (.slice a n c) (Wr.bs L)) : (convert 30 9 (.slice a n c)).run Try.prog W = .ok (.string (strOfNums L)) W := by
  obtain ⟨ao, cap, e, h2, h3, h4⟩ := h
  simp only [Value.slice.injEq] at e
  obtain ⟨rfl, rfl, rfl⟩ := e
  rw [bs_len] at h4 ⊢
  refine Wr.run_str W 30 9 5 Try.underlying30 Try.underlying5 Try.underlying9 a L c fun h0 => ?_
  obtain ⟨g, o, rfl, hg, hc⟩ := h4 h0
  refine ⟨_, rfl, fun j v hv => ?_⟩
  rw [Addr.add_mid]
  exact hc j v hv
theorem rd_none (w : World) : Rd w (.slice none 0 0) (Wr.bs []) := ⟨none, 0, rfl, Nat.le_refl _, by omega, fun h => by simp [Wr.bs] at h⟩
theorem lh_rule (g o len cap l h : Nat) (h1 : l ≤ h) (h2 : h ≤ cap) : ∃ A, (∀ wx, (Instr.slice 30 (.slice (some ⟨g, o, none⟩) len cap) (some (.int .i64 (l : Int))) (some (.int .i64 (h : Int))) none).run Try.prog wx = .ok (.slice A (h - l) (cap - l)) wx) ∧ (l < cap → A = some ⟨g, o + l, none⟩) := by
  obtain ⟨i0, hi, hz0, hz1, hz2⟩ := info_parts u8E.info
  have he : Try.prog.elem 30 = 5 := by kernel_rfl
  have ht : Try.prog.underlying 30 = some (.slice (Try.prog.elem 30)) := by rw [he]; exact Try.underlying30
  have hsz : ∀ wx, (sizeOf (Try.prog.elem 30)).run Try.prog wx = .ok 1 wx := fun wx => by
    rw [he]
    simp [sizeOf, typeInfo, hi, hz1]
  refine ⟨if cap = l then some ⟨g, o, none⟩ else (some (⟨g, o, none⟩ : Addr)).map (·.add (l * 1)), fun wx => ?_, fun hc => ?_⟩
  · rw [run_slice_lh (t := 30) (ht := ht) (h0 := by omega) (h1 := by omega) (h2 := by omega), hsz]
    rfl
  · rw [if_neg (by omega), Option.map_some, Addr.add_mid, Nat.mul_one]
theorem bs_part {W : World} {g o n cap l m : Nat} {d : List Int} {A : Option Addr} (h : Rd W (.slice (some ⟨g, o, none⟩) n cap) (Wr.bs d)) (hm : l + m ≤ n) (hA : l < cap → A = some ⟨g, o + l, none⟩) : Rd W (.slice A m (cap - l)) (Wr.bs ((d.drop l).take m)) := by
  obtain ⟨e1, e2, e3⟩ := bs_open h
  have hl : ((d.drop l).take m).length = m := by rw [List.length_take, List.length_drop]; omega
  obtain ⟨_, cc, ec, hc1, hc2, _⟩ := h
  simp only [Value.slice.injEq] at ec
  obtain ⟨_, _, rfl⟩ := ec
  refine ⟨A, cap - l, by rw [bs_len, hl], by rw [bs_len, hl]; omega, by omega, fun h0 => ?_⟩
  rw [bs_len, hl] at h0
  obtain ⟨g', o', e4, hg, hc⟩ := e3 (by omega)
  cases e4
  refine ⟨g, o + l, hA (by omega), hg, fun i t ht => ?_⟩
  simp only [Wr.bs, List.getElem?_map, List.getElem?_take, List.getElem?_drop] at ht
  split at ht
  · cases hdl : d[l + i]? with
    | none => rw [hdl] at ht; cases ht
    | some y =>
      rw [hdl] at ht
      cases ht
      have := hc (l + i) y hdl
      rw [← Nat.add_assoc] at this
      exact this
  · cases ht
theorem eown_new (w : World) : (w.alloc (.cells #[] 5)).ownsRow w.heap.size 5 1 (.slice (some ⟨w.heap.size, 0, none⟩) 0 0) 0 [] := (ow_empty 5 w).own
theorem bel_drA (w : World) (o : Obj) : Below w.heap.size w (w.alloc o) := bel_alloc w o
theorem src_part {W : World} {v : Value} {m : Nat} {Q : List Int} (_ : Elem Try.prog 30 5 (.int .u8 0) 1) (h : Rd W v (Wr.bs Q)) (hl : Q.length = m) : Src Try.prog 1 30 v m (Wr.bs Q) W := by
  have h1 := h.srcs u8E (bs_cells Q)
  rwa [bs_len, hl] at h1
theorem by_fin {w W4 W6 w5 : World} {b n cap l m : Nat} {ao : Option Addr} {d Q : List Int} {v v2 : Int} {ao5 : Option Addr} {cap5 : Nat} {v0 : Value} (I4 : Ib W4 b ao n cap d (.int .i64 v) (.int .i64 v2) (.bool false)) (B6 : Below W4.heap.size W4 W6) (O6 : W6.ownsRow W4.heap.size 5 1 v0 0 []) (G5 : GA W4.heap.size 5 1 W6 w5 v0 (.slice ao5 (0 + m) cap5) (0 + m) ([] ++ Wr.bs Q)) (K4 : Wr.Kept (fun k => k = b) w W4) (hq : Q.length = m) (hl : v = ((l : Nat) : Int) ∧ l ≤ n) (hm : m ≤ 140737488351232) :
    ∃ x k c, Ending.returned (.slice ao5 (0 + m) cap5) = .returned (.slice x k c) ∧ Rd w5 (.slice x k c) (Wr.bs Q) ∧ IT w w5 b ao n cap d (some l) := by
  have hB : Below W4.heap.size W4 w5 := B6.trans ((ga_bel G5 O6 B6.size).mono (Nat.le_refl _))
  have hown := G5.own
  rw [List.nil_append, Nat.zero_add] at hown
  refine ⟨_, _, _, rfl, ?_, ⟨v2, hl.2, by rw [← hl.1]; exact I4.bel hB⟩, kept_trans K4 (kept_bel hB)⟩
  rw [Nat.zero_add]
  exact (show Ow 5 W4.heap.size w5 w5 (.slice ao5 m cap5) (Wr.bs Q) from ⟨hB.size, Below.refl _ _, by rw [bs_len, hq]; exact hown⟩).rd (by rw [bs_len, hq]; omega)
section
variable (w : World) (b : Nat) (ao : Option Addr) (n cap : Nat) (d : List Int)
theorem ib_any (s : Option Nat) (h : IS w b ao n cap d s) : Calls Try.prog 79 #[.pointer (some ⟨b, 0, none⟩)] w fun e w' => ∃ x k c, e = .returned (.slice x k c) ∧ Rd w' (.slice x k c) (Wr.bs (Wr.tR d s).1) ∧ IT w w' b ao n cap d (Wr.tR d s).2 := by
  cases s with
  | none =>
    obtain ⟨x1, x2, h⟩ := h
    obtain ⟨c0, c1, c2, c3⟩ := h.cells
    have H := hid_of h
    clear h
    go_enter Try.func79, Try.ntmps79
    go_wp2
    go_ret
    exact ⟨none, 0, 0, rfl, rd_none _, ⟨x1, x2, H.out⟩, Wr.Kept.refl _ _⟩
  | some off =>
    obtain ⟨last, ho, h⟩ := h
    obtain ⟨c0, c1, c2, c3⟩ := h.cells
    have f2 := h.free 2
    have H1 := hid_of (h.set 2 (.int .i64 off) rfl)
    have K1 := hid_of (kept_set w b 2 (.int .i64 off))
    obtain ⟨W, hW⟩ : ∃ W, W = w.setCell ⟨b, 2, none⟩ (.int .i64 off) := ⟨_, rfl⟩
    rw [← hW] at H1 K1
    have HW := hid_of hW.symm
    have hdl := (bs_open h.rd).1
    have HRG := hid_of h.rng
    have RW := hid_of (raw_any ao n cap d off W.drew ((H1.out.bel (Below.refl _ _).drew).rd) h.rng h.small ho)
    have HKS : Hid (∀ X, Below W.heap.size W X → X.cell? ⟨b, 0, none⟩ = some (.slice ao n cap) ∧ X.cell? ⟨b, 1, none⟩ = some (.int .i64 off)) := hid_of (fun X hX => ⟨((H1.out.bel hX).cells).1, ((H1.out.bel hX).cells).2.1⟩)
    have B1 : Hid (Below W.heap.size W W.drew) := hid_of (Below.refl _ _).drew
    cases hd : Wr.dec (d.drop off) with
    | none =>
      have e1 : Wr.tR d (some off) = ([], none) := by simp only [Wr.tR, Wr.decRun, hd]
      rw [hd] at RW
      have RW : Hid (Calls Try.prog 78 #[.slice ao n cap, .int .i64 off] W.drew fun e w' => e = .returned (.tuple #[.int .u64 0, .int .i64 off, .bool false]) ∧ Below W.drew.heap.size W.drew w') := RW
      rw [e1]
      clear h hW hd e1 hdl
      go_enter Try.func79, Try.ntmps79
      go_wp2
      rw [HW.out]
      go_region_held3 (fun X => X.cell? ⟨b, 0, none⟩ = some (.slice ao n cap) ∧ X.cell? ⟨b, 1, none⟩ = some (.int .i64 off)) (exact HKS.out _ (Hid.out (by with_reducible assumption))) (first
        | (go_at_call 78; ((with_reducible refine (RW.out).mono ?_); (rintro e w3 ⟨rfl, q1⟩)); have B3 : Hid (Below W.heap.size W w3) := hid_of (undrew q1); clear q1; have I3 := hid_of (H1.out.bel B3.out); obtain ⟨k0, k1, k2, k3⟩ := I3.out.cells; have f3 := I3.out.free 3; have I4 := hid_of (I3.out.set 3 (.bool true) rfl)))
      all_goals go_wp2
      all_goals go_ret
      all_goals exact ⟨none, 0, 0, rfl, rd_none _, ⟨_, _, I4.out⟩, kept_trans K1.out (kept_trans (kept_bel B3.out) (kept_set _ _ _ _))⟩
    | some x =>
      obtain ⟨m, k⟩ := x
      obtain ⟨l1, l2⟩ := dec_le h.rng hdl ho hd
      have hsm := h.small
      rw [hd] at RW
      have RW : Hid (Calls Try.prog 78 #[.slice ao n cap, .int .i64 off] W.drew fun e w' => e = .returned (.tuple #[.int .u64 m, .int .i64 ((off + k : Nat) : Int), .bool true]) ∧ Below W.drew.heap.size W.drew w') := RW
      by_cases hfit : off + k + m ≤ n
      · have e1 : Wr.tR d (some off) = ((d.drop (off + k)).take m, some (off + k + m)) := by simp only [Wr.tR, Wr.decRun, hd]; rw [if_pos (by rw [List.length_drop]; omega)]
        have dgt : decide ((m : Int) > (n : Int) - ((off : Int) + (k : Int))) = false := by simp; omega
        have dgt2 : decide ((n : Int) - ((off : Int) + (k : Int)) < (m : Int)) = false := by simp; omega
        have hk0 := (Wr.dec_bound (fun y hy => h.rng y (List.mem_of_mem_drop hy)) hd).1
        obtain ⟨hdl2, hcap, hop⟩ := bs_open h.rd
        obtain ⟨g, o, rfl, hg, hc⟩ := hop (by omega)
        obtain ⟨A, SR, SA⟩ := lh_rule g o n cap (off + k) (off + k + m) (by omega) (by omega)
        have em : off + k + m - (off + k) = m := by omega
        rw [em] at SR
        have c1' : ((off + k : Nat) : Int) = (off : Int) + (k : Int) := by omega
        have c2' : ((off + k + m : Nat) : Int) = (off : Int) + (k : Int) + (m : Int) := by omega
        rw [c1', c2'] at SR
        obtain ⟨Q, hQ⟩ : ∃ Q, Q = (d.drop (off + k)).take m := ⟨_, rfl⟩
        have HQ : Hid (∀ X, Rd X (.slice (some ⟨g, o, none⟩) n cap) (Wr.bs d) → Rd X (.slice A m (cap - (off + k))) (Wr.bs Q)) := hid_of (fun X hX => by rw [hQ]; exact bs_part hX hfit SA)
        have HQL : Hid (Q.length = m) := hid_of (by rw [hQ, List.length_take, List.length_drop]; omega)
        rw [e1, ← hQ]
        have SRX := hid_of SR
        have em2 : m ≤ 140737488351232 := by omega
        clear h hW hd e1 hdl hQ hdl2 hc hop SA SR em c1' c2'
        go_enter Try.func79, Try.ntmps79
        go_wp2
        rw [HW.out]
        go_region_held3 (fun X => X.cell? ⟨b, 0, none⟩ = some (.slice (some ⟨g, o, none⟩) n cap) ∧ X.cell? ⟨b, 1, none⟩ = some (.int .i64 off)) (exact HKS.out _ (Hid.out (by with_reducible assumption))) (first
          | (go_at_call 78; ((with_reducible refine (RW.out).mono ?_); (rintro e w3 ⟨rfl, q1⟩)); have B3 : Hid (Below W.heap.size W w3) := hid_of (undrew q1); clear q1; have I3 := hid_of (H1.out.bel B3.out); obtain ⟨k0, k1, k2, k3⟩ := I3.out.cells; have f1 := I3.out.free 1; have I4 := hid_of (I3.out.set 1 (.int .i64 ((off : Int) + (k : Int) + (m : Int))) rfl); obtain ⟨z0, z1, z2, z3⟩ := I4.out.cells))
        have SR := SRX.out
        go_wp2
        obtain ⟨W4, hW4⟩ : ∃ W4, W4 = w3.setCell ⟨b, 1, none⟩ (.int .i64 ((off : Int) + (k : Int) + (m : Int))) := ⟨_, rfl⟩
        have K4 : Hid (Wr.Kept (fun k => k = b) w W4) := hid_of (by rw [hW4]; exact kept_trans K1.out (kept_trans (kept_bel B3.out) (kept_set _ _ _ _)))
        rw [← hW4] at I4 ⊢
        clear hW4 z0 z1 z2 z3
        have B6 := hid_of ((bel_alloc W4 (.cells #[] 5)).drew)
        have B5 : Hid (Below W4.heap.size W4 W4.drew) := hid_of (Below.refl _ _).drew
        have I6 := hid_of (I4.out.bel B6.out)
        obtain ⟨z0, z1, z2, z3⟩ := I6.out.cells
        obtain ⟨y0, y1, y2, y3⟩ := I4.out.cells
        obtain ⟨x0, x1, x2, x3⟩ := (I4.out.bel B5.out).cells
        have OW6 := hid_of ((eown_new W4).drew)
        have RD6 := hid_of (HQ.out _ I6.out.rd)
        go_region_law (refine step_gen 30 5 (.int .u8 0) 1 1 u8E.und u8E.info u8E.one (by decide) (by kernel_rfl) (.tmp 54) (.tmp 64) (by kernel_rfl) (B := W4.heap.size) (v := .slice (some ⟨W4.heap.size, 0, none⟩) 0 0) (l := []) (by kernel_rfl) OW6.out (by simp) (vx := .slice A m (cap - (off + k))) (by kernel_rfl) (src_part u8E RD6.out HQL.out) (by omega) (by omega) ?_; intro ao5 cap5 w5 ga; have G5 := hid_of ga; clear ga)
        all_goals go_wp2
        all_goals go_ret
        all_goals (obtain ⟨x, k', c, e, r, t⟩ := by_fin (l := off + k + m) I4.out B6.out OW6.out G5.out K4.out HQL.out (by omega) em2; rw [Nat.zero_add] at e; exact ⟨x, k', c, e, r, t⟩)
      · have e1 : Wr.tR d (some off) = ([], none) := by simp only [Wr.tR, Wr.decRun, hd]; rw [if_neg (by rw [List.length_drop]; omega)]
        have dgt : decide ((m : Int) > (n : Int) - ((off : Int) + (k : Int))) = true := by simp; omega
        have dgt2 : decide ((n : Int) - ((off : Int) + (k : Int)) < (m : Int)) = true := by simp; omega
        rw [e1]
        clear h hW hd e1 hdl
        go_enter Try.func79, Try.ntmps79
        go_wp2
        rw [HW.out]
        go_region_held3 (fun X => X.cell? ⟨b, 0, none⟩ = some (.slice ao n cap) ∧ X.cell? ⟨b, 1, none⟩ = some (.int .i64 off)) (exact HKS.out _ (Hid.out (by with_reducible assumption))) (first
          | (go_at_call 78; ((with_reducible refine (RW.out).mono ?_); (rintro e w3 ⟨rfl, q1⟩)); have B3 : Hid (Below W.heap.size W w3) := hid_of (undrew q1); clear q1; have I3 := hid_of (H1.out.bel B3.out); obtain ⟨k0, k1, k2, k3⟩ := I3.out.cells; have f3 := I3.out.free 3; have I4 := hid_of (I3.out.set 3 (.bool true) rfl)))
        all_goals go_wp2
        all_goals go_ret
        all_goals exact ⟨none, 0, 0, rfl, rd_none _, ⟨_, _, I4.out⟩, kept_trans K1.out (kept_trans (kept_bel B3.out) (kept_set _ _ _ _))⟩
theorem it_any (s : Option Nat) (h : IS w b ao n cap d s) : Calls Try.prog 62 #[.pointer (some ⟨b, 0, none⟩)] w fun e w' => e = .returned (.string (ba (strU (Wr.tR d s).1))) ∧ IT w w' b ao n cap d (Wr.tR d s).2 := by
  have HB := hid_of (ib_any w b ao n cap d s h)
  clear h
  go_enter Try.func62, Try.ntmps62
  go_wp2_with (go_at_call 79; ((with_reducible refine (HB.out).mono ?_); (rintro e w2 ⟨x, k, c, rfl, q1, q2⟩)); have cv := conv_rdq q1; have I2 := hid_of q2; clear q1 q2)
  go_ret
  exact ⟨rfl, I2.out⟩
theorem ie_any (s : Option Nat) (h : IS w b ao n cap d s) (hdl : d.length = n) : Calls Try.prog 32 #[.pointer (some ⟨b, 0, none⟩)] w fun e w' => e = .returned (.bool (decide (Wr.eR d s = 0))) ∧ ∃ m, w' = w.drewN m := by
  cases s with
  | none =>
    obtain ⟨x1, x2, h⟩ := h
    obtain ⟨c0, c1, c2, c3⟩ := h.cells
    clear h
    go_enter Try.func32, Try.ntmps32
    go_wp2
    go_quiet (fail)
    go_wp2
    go_ret
    exact ⟨rfl, nq, rfl⟩
  | some off =>
    obtain ⟨last, ho, h⟩ := h
    obtain ⟨c0, c1, c2, c3⟩ := h.cells
    clear h
    by_cases he : off = n
    · have e1 : Wr.eR d (some off) = 0 := by simp only [Wr.eR]; rw [if_pos (by omega)]
      have d1 : ((off : Int) == (n : Int)) = true := by simp; omega
      rw [e1]
      clear he e1
      go_enter Try.func32, Try.ntmps32
      go_wp2
      go_quiet (fail)
      go_wp2
      go_ret
      exact ⟨rfl, nq, rfl⟩
    · have e1 : Wr.eR d (some off) = 2 := by simp only [Wr.eR]; rw [if_neg (by omega)]
      have d1 : ((off : Int) == (n : Int)) = false := by simp; omega
      rw [e1]
      clear he e1
      go_enter Try.func32, Try.ntmps32
      go_wp2
      go_quiet (fail)
      go_wp2
      go_ret
      exact ⟨rfl, nq, rfl⟩
end
end Go.Proofs.Ytcjnmgokddfidaa

/- The reference's list of names. Bounds on sizes alone. -/
namespace Go.Proofs.Ytcjnmgokddfidaa
open Go.RowKit
set_option maxRecDepth 100000
set_option maxHeartbeats 3200000

/-- Names up to a number, as long as the In is good. -/
def lN (d : List Int) (s0 : Option Nat) : Nat → List Str × Option Nat
  | 0 => ([], s0)
  | j + 1 => if (lN d s0 j).2 = none then lN d s0 j else ((lN d s0 j).1 ++ [strU (Wr.tR d (lN d s0 j).2).1], (Wr.tR d (lN d s0 j).2).2)
def rlF (d : List Int) (s : Option Nat) : List Str × Option Nat := lN d (Wr.cR d s).2 (Wr.cR d s).1
theorem lN_len (d : List Int) (s0 : Option Nat) : ∀ j, (lN d s0 j).1.length ≤ j
  | 0 => Nat.le_refl _
  | j + 1 => by
    have := lN_len d s0 j
    rw [lN]
    split
    · omega
    · simp only [List.length_append, List.length_singleton]; omega
theorem lN_dead (d : List Int) (s0 : Option Nat) (j : Nat) (h : (lN d s0 j).2 = none) : ∀ i, lN d s0 (j + i) = lN d s0 j
  | 0 => rfl
  | i + 1 => by
    have := lN_dead d s0 j h i
    rw [← Nat.add_assoc, lN, this, if_pos h]
theorem kept_up {S : Nat → Prop} {w w2 w4 : World} (h : Wr.Kept S w w2) (hb : Below w.heap.size w2 w4) : Wr.Kept S w w4 := ⟨hb.os.trans h.os, hb.tape.trans h.tape, hb.output.trans h.output, Nat.le_trans h.size hb.size, fun x hx hn => (hb.block x hx).trans (h.block x hx hn)⟩
theorem rl_rd {W : World} {B l xc : Nat} {xo : Option Addr} {ns : List Str} (h : W.ownsRow B 9 1 (.slice xo l xc) l (ss ns)) (hl : l ≤ 140737488355328) : Rd W (.slice xo l xc) (ss ns) := by
  have hn : (ss ns).length = l := by have := h.1; simpa using this
  rcases Nat.lt_or_ge W.heap.size B with hB | hB
  · rcases h.2 with ⟨e, e2⟩ | ⟨g, c2, cur, e, hb, hg, _⟩
    · cases e
      exact ⟨none, 0, by rw [hn], by omega, by omega, fun h0 => by omega⟩
    · have := lt_of_block hg
      omega
  · exact (show Ow 9 B W W (.slice xo l xc) (ss ns) from ⟨hB, Below.refl _ _, by rw [hn]; exact h⟩).rd (by omega)
def NlP (w : World) (b : Nat) (ao : Option Addr) (n cap : Nat) (d : List Int) (ns : List Str) (s : Option Nat) (e : Ending) (w' : World) : Prop := ∃ (xo : Option Addr) (xc : Nat), e = .returned (.slice xo ns.length xc) ∧ Rd w' (.slice xo ns.length xc) (ss ns) ∧ In (fun k => w.heap.size ≤ k ∧ k < w'.heap.size) (.slice xo ns.length xc) ∧ IT w w' b ao n cap d s
theorem rl_any (w : World) (b : Nat) (ao : Option Addr) (n cap : Nat) (d : List Int) (s : Option Nat) (h : IS w b ao n cap d s) (hn6 : n ≤ 1000000) :
    Calls Try.prog 60 #[.pointer (some ⟨b, 0, none⟩)] w (NlP w b ao n cap d (rlF d s).1 (rlF d s).2) := by
  obtain ⟨_, hbl, hsm, hdl⟩ := h.bad
  have HBL := hid_of hbl
  have B0 := hid_of (bel_alloc w (.cells #[] 9))
  have OW0 : Hid ((w.alloc (.cells #[] 9)).ownsRow w.heap.size 9 1 (.slice (some ⟨w.heap.size, 0, none⟩) 0 0) 0 []) := hid_of (ow_empty 9 w).own
  have C0 := hid_of (ic_any (w.alloc (.cells #[] 9)) b ao n cap d s (h.up B0.out hbl))
  have hcl := cR_le d s
  obtain ⟨c, hc⟩ : ∃ c, c = (Wr.cR d s).1 := ⟨_, rfl⟩
  obtain ⟨t, ht⟩ : ∃ t, t = (Wr.cR d s).2 := ⟨_, rfl⟩
  rw [← hc, ← ht] at C0
  rw [← hc] at hcl
  have HF : Hid (rlF d s = lN d t c) := hid_of (by rw [rlF, ← hc, ← ht])
  rw [HF.out]
  have hc9 : c ≤ 1000000 := by omega
  clear h hc ht hcl hdl hbl
  go_enter Try.func60, Try.ntmps60
  go_wp2_with (go_at_call 61; ((with_reducible refine (C0.out).mono ?_); (rintro e w1 ⟨rfl, q1, q2⟩)); have I1 := hid_of q1; have K1 := hid_of q2; clear q1 q2)
  go_loopw [3, 5] (fun sv iv wr => ∃ (j : Nat) (xo : Option Addr) (l xc : Nat), sv = .slice xo l xc ∧ j ≤ c ∧ iv = .int .i64 j ∧ Hid (l = (lN d t j).1.length) ∧ Hid (IS wr b ao n cap d (lN d t j).2 ∧ Wr.Kept (fun k => k = b) w wr) ∧ Hid (wr.ownsRow w.heap.size 9 1 (.slice xo l xc) l (ss (lN d t j).1))) (fun _ iv _ => c - (intOf iv).toNat)
  case atStart => exact ⟨0, _, _, _, rfl, Nat.zero_le _, rfl, hid_of rfl, hid_of ⟨I1.out, kept_trans (kept_bel B0.out) K1.out⟩, hid_of (own_same OW0.out fun k hk => K1.out.block k (OW0.out.lt k hk).2 (by have := (OW0.out.lt k hk).1; have := HBL.out; omega))⟩
  case round =>
    obtain ⟨j, xo, l, xc, rfl, hj, rfl, hl, hk, ho⟩ := hrel
    have c3 := (hk.out.1.bad).1
    by_cases hlt : j < c
    · have hdd : decide (j < c) = true := by simp; omega
      obtain ⟨q, hq⟩ : ∃ q, q = (lN d t j).2 := ⟨_, rfl⟩
      rw [← hq] at c3
      have HQ := hid_of hq
      cases q with
      | none =>
        have HE : Hid (lN d t c = lN d t j) := hid_of (by have := lN_dead d t j HQ.out.symm (c - j); rwa [show j + (c - j) = c by omega] at this)
        have e0 : (none : Option Nat).isNone = true := rfl
        rw [e0] at c3
        clear hq e0
        go_wp2
        go_ret
        rw [HE.out]
        have hl9 := hl.out
        subst hl9
        exact ⟨xo, xc, rfl, rl_rd ho.out (by have := lN_len d t j; omega), fun a n c e => by cases e; exact ho.out.lt a.block rfl, by rw [← HQ.out]; rw [← HQ.out] at hk; exact hk.out⟩
      | some off =>
        have e0 : (some off : Option Nat).isNone = false := rfl
        rw [e0] at c3
        have HNX : Hid (lN d t (j + 1) = ((lN d t j).1 ++ [strU (Wr.tR d (some off)).1], (Wr.tR d (some off)).2)) := hid_of (by rw [lN, if_neg (by rw [← hq]; simp), ← hq])
        have CT := hid_of (it_any wr b ao n cap d (some off) (by rw [hq]; exact hk.out.1))
        have HLL : Hid ((ss (lN d t j).1).length = l) := hid_of (by rw [ss_length, hl.out])
        have hlj : l ≤ j := by have := lN_len d t j; have := hl.out; omega
        have HOW : Hid (∀ w2, Wr.Kept (fun k => k = b) wr w2 → Ow 9 w.heap.size w2 w2 (.slice xo l xc) (ss (lN d t j).1)) := hid_of (fun w2 q => ⟨Nat.le_trans hk.out.2.size q.size, Below.refl _ _, by rw [HLL.out]; exact own_same ho.out fun k hk2 => q.block k ((ho.out.lt k hk2).2) (by have := (ho.out.lt k hk2).1; have := HBL.out; omega)⟩)
        obtain ⟨bx, hbx⟩ : ∃ bx, bx = ba (strU (Wr.tR d (some off)).1) := ⟨_, rfl⟩
        rw [← hbx] at CT
        have HBX := hid_of hbx
        clear hbx hq e0
        go_wp2_with (first
          | (go_at_call 62; ((with_reducible refine (CT.out).mono ?_); (rintro e w2 ⟨rfl, q1, q2⟩)); have I2 := hid_of q1; have K2 := hid_of q2; clear q1 q2; have O2 := hid_of (HOW.out w2 K2.out))
          | (at_builtin; (refine wpList_app strsE rfl (.tmp 21) (.tmp 24) rfl (v := .slice xo l xc) (l := ss (lN d t j).1) rfl (O2.out.alloc _) (vx := .slice (some ⟨w2.heap.size, 0, none⟩) 1 1) (m := [.string bx]) rfl (rd_new rfl rfl (by simp)) (by intro u hu; rw [List.mem_singleton.1 hu]; rfl) (by rw [HLL.out]; simp only [List.length_singleton]; omega) (by rw [HLL.out]; simp only [List.length_singleton]; omega) ?_); intro ao2 n2 cap2 w4 e1 h5; have HN2 : Hid (n2 = l + 1) := hid_of (by rw [HLL.out] at e1; simpa using e1); have HO2 := hid_of h5; clear e1 h5))
        go_roundw
        case rel => exact ⟨j + 1, ao2, n2, cap2, rfl, by omega, by go_num, hid_of (by rw [HNX.out, HN2.out, hl.out]; simp), hid_of (by
            rw [HNX.out]
            have hb4 := HO2.out.bel
            exact ⟨I2.out.up hb4 HBL.out, kept_up (kept_trans hk.out.2 K2.out) hb4⟩), hid_of (by
            have h5 := HO2.out.own
            rw [HBX.out] at h5
            rw [HNX.out, ss_append]
            simp only [List.length_append, List.length_singleton, HLL.out, HN2.out] at h5 ⊢
            exact h5)⟩
        case measure => simp [intOf]; omega
    · have hdd : decide (j < c) = false := by simp; omega
      obtain rfl : c = j := by omega
      go_wp2
      go_ret
      have hl9 := hl.out
      subst hl9
      exact ⟨xo, xc, rfl, rl_rd ho.out (by have := lN_len d t c; omega), fun a n c e => by cases e; exact ho.out.lt a.block rfl, hk.out⟩
end Go.Proofs.Ytcjnmgokddfidaa

/- What is read as a number is written so. No condition. -/
namespace Go.Proofs.Ytcjnmgokddfidaa.Wr
open Go.RowKit

theorem decAt_canon : ∀ (f i acc : Nat) (l : List Int) (n k : Nat), f + i = 10 → (∀ y ∈ l, 0 ≤ y ∧ y ≤ 255) → decAt f i acc l = some (n, k) → ∃ q, n = acc + q * 128 ^ i ∧ i < k ∧ l.take (k - i) = enc q ∧ (0 < q ∨ i = 0) := by
  intro f
  induction f with
  | zero => intro i acc l n k _ _ h; cases h
  | succ f ih =>
    intro i acc l n k hf hr h
    cases l with
    | nil => cases h
    | cons y r =>
      have hy := hr y (by simp)
      rw [decAt] at h
      split at h
      · rename_i h128
        obtain ⟨q, h1, h2, h3, h4⟩ := ih (i + 1) _ r n k (by omega) (fun z hz => hr z (by simp [hz])) h
        have hq : 0 < q := by omega
        refine ⟨(y - 128).toNat + q * 128, ?_, by omega, ?_, Or.inl (by omega)⟩
        · rw [h1, Nat.add_mul, Nat.pow_succ, Nat.mul_assoc q 128, Nat.mul_comm 128 (128 ^ i)]
          omega
        · have hk : k - i = (k - (i + 1)) + 1 := by omega
          rw [hk, List.take_succ_cons, h3, enc_ge (n := (y - 128).toNat + q * 128) (by omega)]
          congr 1
          · omega
          · congr 1; omega
      · split at h
        · rename_i h128 hm
          simp only [Option.some.injEq, Prod.mk.injEq] at h
          obtain ⟨rfl, rfl⟩ := h
          refine ⟨y.toNat, rfl, by omega, ?_, ?_⟩
          · rw [show i + 1 - i = 1 by omega, enc_lt (by omega)]
            simp; omega
          · unfold mayEnd at hm
            by_cases h0 : i = 0
            · exact Or.inr h0
            · simp [h0] at hm
              left
              have := hm.1
              omega
        · cases h

theorem dec_canon {l : List Int} {n k : Nat} (hr : ∀ y ∈ l, 0 ≤ y ∧ y ≤ 255) (h : dec l = some (n, k)) : l.take k = enc n := by
  obtain ⟨q, h1, _, h3, _⟩ := decAt_canon 10 0 0 l n k (by omega) hr h
  have : n = q := by rw [h1]; simp
  rw [this]; simpa using h3
theorem dec_whole {l : List Int} {n : Nat} (hr : ∀ y ∈ l, 0 ≤ y ∧ y ≤ 255) (h : dec l = some (n, l.length)) : enc n = l := by
  have := dec_canon hr h
  rw [List.take_length] at this
  exact this.symm
theorem zig_unzig (n : Nat) : zig (unzig n) = n := by
  unfold zig unzig
  by_cases h : n % 2 = 0
  · rw [if_pos h, if_pos (by omega)]; omega
  · rw [if_neg h, if_neg (by omega)]; omega
end Go.Proofs.Ytcjnmgokddfidaa.Wr

/- What is read is written so: the bytes that read has taken are the encoding of what it returns. Plain mathematics. -/
namespace Go.Proofs.Ytcjnmgokddfidaa
open Go.RowKit

theorem strB_strU {l : List Int} (h : ∀ y ∈ l, 0 ≤ y ∧ y ≤ 255) : Wr.strBytes (ba (strU l)) = l := by
  unfold Wr.strBytes ba strU
  simp only [List.map_map]
  refine (List.map_congr_left (fun a ha => ?_)).trans (List.map_id l)
  have := h a ha
  simp
  omega
theorem encPs_snoc2 : ∀ (ns : List Str) (ps : List Lat) (x : Str) (p : Lat), ns.length = ps.length → encPs (ns ++ [x]) (ps ++ [p]) = encPs ns ps ++ (txE x ++ encL p)
  | [], [], x, p, _ => by simp [encPs_cons, encPs_nil]
  | [], _ :: _, _, _, h => by simp at h
  | _ :: _, [], _, _, h => by simp at h
  | n :: ns, q :: ps, x, p, h => by
    rw [List.cons_append, List.cons_append, encPs_cons, encPs_cons, encPs_snoc2 ns ps x p (by simpa using h)]
    simp only [List.append_assoc]
section
variable {d : List Int} (hr : ∀ y ∈ d, 0 ≤ y ∧ y ≤ 255)
include hr
theorem cut_dec {off n k : Nat} (h : Wr.dec (d.drop off) = some (n, k)) : d.drop off = Wr.enc n ++ d.drop (off + k) := by
  have h1 := Wr.dec_canon (fun y hy => hr y (List.mem_of_mem_drop hy)) h
  rw [← h1, ← List.drop_drop]
  exact (List.take_append_drop k _).symm
theorem cut_uR {s : Option Nat} {off' : Nat} (h : (Wr.uR d s).2 = some off') : ∃ off, s = some off ∧ d.drop off = Wr.enc (Wr.uR d s).1 ++ d.drop off' := by
  cases s with
  | none => cases h
  | some off =>
    refine ⟨off, rfl, ?_⟩
    cases hd : Wr.dec (d.drop off) with
    | none => simp only [Wr.uR, hd] at h; cases h
    | some x =>
      obtain ⟨n, k⟩ := x
      simp only [Wr.uR, hd] at h ⊢
      cases h
      exact cut_dec hr hd
theorem cut_iR {s : Option Nat} {off' : Nat} (h : (Wr.iR d s).2 = some off') : ∃ off, s = some off ∧ d.drop off = Wr.enc (Wr.zig (Wr.iR d s).1) ++ d.drop off' := by
  obtain ⟨off, h1, h2⟩ := cut_uR hr (s := s) h
  exact ⟨off, h1, by rw [Wr.iR]; simp only; rw [Wr.zig_unzig]; exact h2⟩
theorem cut_cR {s : Option Nat} {off' : Nat} (h : (Wr.cR d s).2 = some off') : ∃ off, s = some off ∧ d.drop off = Wr.enc (Wr.cR d s).1 ++ d.drop off' := by
  cases s with
  | none => cases h
  | some off =>
    refine ⟨off, rfl, ?_⟩
    cases hd : Wr.dec (d.drop off) with
    | none => simp only [Wr.cR, hd] at h; cases h
    | some x =>
      obtain ⟨n, k⟩ := x
      simp only [Wr.cR, hd] at h ⊢
      split at h
      · rename_i e
        rw [if_pos e]
        cases h
        exact cut_dec hr hd
      · cases h
theorem cut_tR {s : Option Nat} {off' : Nat} (h : (Wr.tR d s).2 = some off') : ∃ off, s = some off ∧ d.drop off = txE (strU (Wr.tR d s).1) ++ d.drop off' := by
  cases s with
  | none => cases h
  | some off =>
    refine ⟨off, rfl, ?_⟩
    cases hd : Wr.decRun (d.drop off) with
    | none => simp only [Wr.tR, hd] at h; cases h
    | some x =>
      obtain ⟨k, n⟩ := x
      simp only [Wr.tR, hd] at h ⊢
      cases h
      obtain ⟨h1, h2⟩ := Wr.decRun_some hd
      have hk := (Wr.dec_bound (fun y hy => hr y (List.mem_of_mem_drop hy)) h1).2.1
      rw [List.length_drop] at h2 hk
      have hl : (strU ((d.drop (off + k)).take n)).length = n := by
        unfold strU
        rw [List.length_map, List.length_take, List.length_drop]
        omega
      rw [txE, hl, strB_strU (fun y hy => hr y (List.mem_of_mem_drop (List.mem_of_mem_take hy))), List.append_assoc, show d.drop (off + k + n) = (d.drop (off + k)).drop n by rw [List.drop_drop], List.take_append_drop]
      exact cut_dec hr h1
theorem cut_rcF {m : Nat} {s : Option Nat} {off' : Nat} (h : (rcF d m s).2 = some off') : ∃ off, s = some off ∧ d.drop off = Wr.enc (rcF d m s).1 ++ d.drop off' := by
  unfold rcF at h ⊢
  split at h
  · cases h
  · rename_i e
    rw [if_neg e]
    exact cut_cR hr h
theorem cut_tN {s0 : Option Nat} : ∀ (j : Nat) {off' : Nat}, (tN d s0 j).2 = some off' → ∃ off, s0 = some off ∧ d.drop off = (tN d s0 j).1.flatMap txE ++ d.drop off'
  | 0, off', h => ⟨off', h, rfl⟩
  | j + 1, off', h => by
    rw [tN] at h ⊢
    obtain ⟨o1, h1, h2⟩ := cut_tR hr h
    obtain ⟨off, h3, h4⟩ := cut_tN j h1
    refine ⟨off, h3, ?_⟩
    rw [List.flatMap_append, List.flatMap_singleton, List.append_assoc, ← h2]
    exact h4
theorem cut_nF {s : Option Nat} {off' : Nat} (h : (nF d s).2 = some off') : ∃ off, s = some off ∧ d.drop off = nsE (nF d s).1 ++ d.drop off' := by
  have hl : (nF d s).1.length = (rcF d 32 s).1 := by rw [nF, tN_len]
  obtain ⟨o1, h1, h2⟩ := cut_tN hr _ h
  obtain ⟨off, h3, h4⟩ := cut_rcF hr h1
  refine ⟨off, h3, ?_⟩
  rw [nsE, hl, List.append_assoc]
  rw [h4]
  congr 1
theorem cut_gN {s0 : Option Nat} : ∀ (j : Nat) {off' : Nat}, (gN d s0 j).2 = some off' → ∃ off, s0 = some off ∧ d.drop off = (gN d s0 j).1.flatMap ruE1 ++ d.drop off'
  | 0, off', h => ⟨off', h, rfl⟩
  | j + 1, off', h => by
    rw [gN] at h ⊢
    obtain ⟨o1, h1, h2⟩ := cut_tR hr h
    obtain ⟨o2, h3, h4⟩ := cut_nF hr h1
    obtain ⟨off, h5, h6⟩ := cut_gN j h3
    refine ⟨off, h5, ?_⟩
    rw [List.flatMap_append, List.flatMap_singleton, ruE1, List.append_assoc, List.append_assoc, ← h2, ← h4]
    exact h6
theorem cut_pN {f : Option Nat → Lat × Option Nat} (hf : ∀ s off', (f s).2 = some off' → ∃ off, s = some off ∧ d.drop off = encL (f s).1 ++ d.drop off') {s0 : Option Nat} : ∀ (j : Nat) {off' : Nat}, (pN f d s0 j).2 = some off' → ∃ off, s0 = some off ∧ d.drop off = encPs (pN f d s0 j).1.1 (pN f d s0 j).1.2 ++ d.drop off'
  | 0, off', h => ⟨off', h, by rw [pN, encPs_nil]; rfl⟩
  | j + 1, off', h => by
    have hl := pN_len f d s0 j
    rw [pN] at h ⊢
    obtain ⟨o1, h1, h2⟩ := hf _ _ h
    obtain ⟨o2, h3, h4⟩ := cut_tR hr h1
    obtain ⟨off, h5, h6⟩ := cut_pN hf j h3
    refine ⟨off, h5, ?_⟩
    simp only
    rw [encPs_snoc2 _ _ _ _ (by rw [hl.1, hl.2]), List.append_assoc, List.append_assoc, ← h2, ← h4]
    exact h6
theorem cut_rdF : ∀ (n : Nat) (s : Option Nat) (off' : Nat), (rdF d n s).2 = some off' → ∃ off, s = some off ∧ d.drop off = encL (rdF d n s).1 ++ d.drop off'
  | 0, s, off', h => by rw [rdF] at h; cases h
  | n + 1, s, off', h => by
    have IH := cut_rdF n
    unfold rdF at h ⊢
    split at h
    · cases h
    rename_i e0
    rw [if_neg e0]
    split at h
    · rename_i e
      rw [if_pos e]
      obtain ⟨o1, h1, h2⟩ := cut_iR hr h
      obtain ⟨o2, h3, h4⟩ := cut_iR hr h1
      obtain ⟨off, h5, h6⟩ := cut_uR hr h3
      refine ⟨off, h5, ?_⟩
      rw [encL, if_pos (by omega), List.append_assoc, List.append_assoc, ← h2, ← h4]
      exact h6
    rename_i e1
    rw [if_neg e1]
    split at h
    · rename_i e
      rw [if_pos e]
      obtain ⟨o1, h1, h2⟩ := cut_nF hr h
      obtain ⟨off, h5, h6⟩ := cut_uR hr h1
      refine ⟨off, h5, ?_⟩
      rw [encL, if_neg (by omega), if_pos (by omega), List.append_assoc, ← h2]
      exact h6
    rename_i e2
    rw [if_neg e2]
    split at h
    · rename_i e
      rw [if_pos e]
      obtain ⟨o1, h1, h2⟩ := IH _ _ h
      obtain ⟨o2, h3, h4⟩ := cut_nF hr h1
      obtain ⟨off, h5, h6⟩ := cut_uR hr h3
      refine ⟨off, h5, ?_⟩
      rw [encL, if_neg (by omega), if_neg (by omega), if_pos rfl, encLs_cons, encLs_nil, List.append_nil, List.append_assoc, List.append_assoc, ← h2, ← h4]
      rw [e] at h6
      exact h6
    rename_i e3
    rw [if_neg e3]
    split at h
    · rename_i e
      rw [if_pos e]
      obtain ⟨o1, h1, h2⟩ := cut_pN hr IH _ h
      obtain ⟨o2, h3, h4⟩ := cut_rcF hr h1
      obtain ⟨off, h5, h6⟩ := cut_uR hr h3
      refine ⟨off, h5, ?_⟩
      have hl := (pN_len (rdF d n) d (rcF d 8 (Wr.uR d s).2).2 (rcF d 8 (Wr.uR d s).2).1).1
      rw [encL, if_neg (by omega), if_neg (by omega), if_neg (by omega), if_pos rfl, hl, List.append_assoc, List.append_assoc, ← h2, ← h4]
      rw [e] at h6
      exact h6
    rename_i e4
    rw [if_neg e4]
    split at h
    · rename_i e
      rw [if_pos e]
      obtain ⟨o1, h1, h2⟩ := IH _ _ h
      obtain ⟨o2, h3, h4⟩ := IH _ _ h1
      obtain ⟨off, h5, h6⟩ := cut_uR hr h3
      refine ⟨off, h5, ?_⟩
      rw [encL, if_neg (by omega), if_neg (by omega), if_neg (by omega), if_neg (by omega), if_pos rfl, encLs_cons, encLs_cons, encLs_nil, List.append_nil, List.append_assoc, List.append_assoc, ← h2, ← h4]
      rw [e] at h6
      exact h6
    rename_i e5
    rw [if_neg e5]
    split at h
    · rename_i e
      rw [if_pos e]
      obtain ⟨o1, h1, h2⟩ := cut_gN hr _ h
      obtain ⟨o2, h3, h4⟩ := cut_rcF hr h1
      obtain ⟨o3, h7, h8⟩ := cut_nF hr h3
      obtain ⟨off, h5, h6⟩ := cut_uR hr h7
      refine ⟨off, h5, ?_⟩
      have hl := gN_len d (rcF d 32 (nF d (Wr.uR d s).2).2).2 (rcF d 32 (nF d (Wr.uR d s).2).2).1
      rw [encL, if_neg (by omega), if_neg (by omega), if_neg (by omega), if_neg (by omega), if_neg (by omega), if_pos rfl, rsE, hl, List.append_assoc, List.append_assoc, List.append_assoc, ← h2, ← h4, ← h8]
      rw [e] at h6
      exact h6
    · rename_i e
      rw [if_neg e]
      obtain ⟨off, h5, h6⟩ := cut_uR hr h
      refine ⟨off, h5, ?_⟩
      rw [encL, if_neg (by omega), if_neg (by omega), if_neg (by omega), if_neg (by omega), if_neg (by omega), if_neg (by omega), List.append_nil]
      exact h6
end
end Go.Proofs.Ytcjnmgokddfidaa

/- What the reference reads, as a function; where what is read has no error both read the same. Plain mathematics. -/
namespace Go.Proofs.Ytcjnmgokddfidaa
open Go.RowKit

/-- The loop over the parts of a product, as long as the In is good. -/
def qN (f : Option Nat → Lat × Option Nat) (d : List Int) (s0 : Option Nat) : Nat → (List Str × List Lat) × Option Nat
  | 0 => (([], []), s0)
  | j + 1 => if (qN f d s0 j).2 = none then qN f d s0 j else (((qN f d s0 j).1.1 ++ [strU (Wr.tR d (qN f d s0 j).2).1], (qN f d s0 j).1.2 ++ [(f (Wr.tR d (qN f d s0 j).2).2).1]), (f (Wr.tR d (qN f d s0 j).2).2).2)
/-- The loop over parts without names. -/
def oN (f : Option Nat → Lat × Option Nat) (s0 : Option Nat) : Nat → List Lat × Option Nat
  | 0 => ([], s0)
  | j + 1 => if (oN f s0 j).2 = none then oN f s0 j else ((oN f s0 j).1 ++ [(f (oN f s0 j).2).1], (f (oN f s0 j).2).2)
def hN (d : List Int) (s0 : Option Nat) : Nat → List Gr × Option Nat
  | 0 => ([], s0)
  | j + 1 => if (hN d s0 j).2 = none then hN d s0 j else ((hN d s0 j).1 ++ [((rlF d (hN d s0 j).2).1, strU (Wr.tR d (rlF d (hN d s0 j).2).2).1)], (Wr.tR d (rlF d (hN d s0 j).2).2).2)
/-- The number of parts of a product; more than eight are refused. -/
def pcF (d : List Int) (s : Option Nat) : Nat × Option Nat := ((Wr.cR d s).1, if 8 < (Wr.cR d s).1 then none else (Wr.cR d s).2)
def rrF (d : List Int) : Nat → Option Nat → Lat × Option Nat
  | 0, _ => (⟨0, 0, 0, [], [], []⟩, none)
  | n + 1, s =>
    if (Wr.uR d s).2 = none ∨ (Wr.uR d s).1 < 1 ∨ 10 < (Wr.uR d s).1 then (⟨0, 0, 0, [], [], []⟩, none)
    else if (Wr.uR d s).1 = 2 ∨ (Wr.uR d s).1 = 3 then (⟨(Wr.uR d s).1, (Wr.iR d (Wr.uR d s).2).1, (Wr.iR d (Wr.iR d (Wr.uR d s).2).2).1, [], [], []⟩, (Wr.iR d (Wr.iR d (Wr.uR d s).2).2).2)
    else if (Wr.uR d s).1 = 4 ∨ (Wr.uR d s).1 = 8 then (⟨(Wr.uR d s).1, 0, 0, (rlF d (Wr.uR d s).2).1, [], []⟩, (rlF d (Wr.uR d s).2).2)
    else if (Wr.uR d s).1 = 5 then (⟨5, 0, 0, (rlF d (Wr.uR d s).2).1, (oN (rrF d n) (rlF d (Wr.uR d s).2).2 1).1, []⟩, (oN (rrF d n) (rlF d (Wr.uR d s).2).2 1).2)
    else if (Wr.uR d s).1 = 6 then (⟨6, 0, 0, (qN (rrF d n) d (pcF d (Wr.uR d s).2).2 (pcF d (Wr.uR d s).2).1).1.1, (qN (rrF d n) d (pcF d (Wr.uR d s).2).2 (pcF d (Wr.uR d s).2).1).1.2, []⟩, (qN (rrF d n) d (pcF d (Wr.uR d s).2).2 (pcF d (Wr.uR d s).2).1).2)
    else if (Wr.uR d s).1 = 7 then (⟨7, 0, 0, [], (oN (rrF d n) (Wr.uR d s).2 2).1, []⟩, (oN (rrF d n) (Wr.uR d s).2 2).2)
    else if (Wr.uR d s).1 = 10 then (⟨10, 0, 0, (rlF d (Wr.uR d s).2).1, [], (hN d (Wr.cR d (rlF d (Wr.uR d s).2).2).2 (Wr.cR d (rlF d (Wr.uR d s).2).2).1).1⟩, (hN d (Wr.cR d (rlF d (Wr.uR d s).2).2).2 (Wr.cR d (rlF d (Wr.uR d s).2).2).1).2)
    else (⟨(Wr.uR d s).1, 0, 0, [], [], []⟩, (Wr.uR d s).2)
theorem tR_live {d : List Int} {s : Option Nat} {o : Nat} (h : (Wr.tR d s).2 = some o) : ∃ o', s = some o' := by
  cases s with
  | none => cases h
  | some x => exact ⟨x, rfl⟩
theorem cR_live {d : List Int} {s : Option Nat} {o : Nat} (h : (Wr.cR d s).2 = some o) : ∃ o', s = some o' := by
  cases s with
  | none => cases h
  | some x => exact ⟨x, rfl⟩
/-! Names: without a limit and with it. -/
theorem tl_eq {d : List Int} {s0 : Option Nat} : ∀ (j : Nat) {o : Nat}, (tN d s0 j).2 = some o → lN d s0 j = tN d s0 j
  | 0, _, _ => rfl
  | j + 1, o, h => by
    rw [tN] at h
    obtain ⟨o', h1⟩ := tR_live h
    have ih := tl_eq j h1
    rw [lN, ih, if_neg (by rw [h1]; simp), tN]
theorem lt_eq {d : List Int} {s0 : Option Nat} : ∀ (j : Nat) {o : Nat}, (lN d s0 j).2 = some o → lN d s0 j = tN d s0 j
  | 0, _, _ => rfl
  | j + 1, o, h => by
    by_cases e : (lN d s0 j).2 = none
    · rw [lN, if_pos e] at h
      rw [e] at h
      cases h
    · obtain ⟨o', h1⟩ : ∃ o', (lN d s0 j).2 = some o' := Option.ne_none_iff_exists'.1 e
      have ih := lt_eq j h1
      rw [lN, if_neg e, tN, ih]
theorem rcF_live {d : List Int} {m : Nat} {s : Option Nat} {o : Nat} (h : (rcF d m s).2 = some o) : rcF d m s = Wr.cR d s ∧ (Wr.cR d s).1 ≤ m := by
  unfold rcF at h ⊢
  split at h
  · cases h
  · rename_i e
    rw [if_neg e]
    exact ⟨rfl, by omega⟩
theorem tN_live {d : List Int} {s0 : Option Nat} : ∀ (j : Nat) {o : Nat}, (tN d s0 j).2 = some o → ∃ o', s0 = some o'
  | 0, o, h => ⟨o, h⟩
  | j + 1, o, h => by
    rw [tN] at h
    obtain ⟨o', h1⟩ := tR_live h
    exact tN_live j h1
/-- Names that the program has read the reference reads too. -/
theorem nF_rlF {d : List Int} {s : Option Nat} {o : Nat} (h : (nF d s).2 = some o) : rlF d s = nF d s := by
  unfold nF at h
  obtain ⟨o', h1⟩ := tN_live _ h
  obtain ⟨e, _⟩ := rcF_live h1
  rw [rlF, nF, ← e]
  exact tl_eq _ h
/-- And back, where they are at most 32. -/
theorem rlF_nF {d : List Int} {s : Option Nat} {o : Nat} (h : (rlF d s).2 = some o) (hl : (rlF d s).1.length ≤ 32) : nF d s = rlF d s := by
  have e := lt_eq _ (by unfold rlF at h; exact h)
  have hc : (rlF d s).1.length = (Wr.cR d s).1 := by rw [rlF, e, tN_len]
  have hr : rcF d 32 s = Wr.cR d s := by rw [rcF, if_neg (by omega)]
  rw [nF, hr, rlF, e]
end Go.Proofs.Ytcjnmgokddfidaa

/- The boxes and loops of the reference's read, whatever is read. Bounds on sizes alone. -/
namespace Go.Proofs.Ytcjnmgokddfidaa
open Go.RowKit

/-- The slice that the In reads. -/
structure SV where
  ao : Option Addr
  n : Nat
  cap : Nat
namespace Rx
theorem is_same {w w2 : World} {b : Nat} {ao : Option Addr} {n cap : Nat} {d : List Int} {s : Option Nat} (h : IS w b ao n cap d s) (hs : w.heap.size ≤ w2.heap.size) (hk : ∀ k, k ≤ b → w2.heap[k]? = w.heap[k]?) : IS w2 b ao n cap d s := by
  have go : ∀ {v1 v2 v3 : Value}, Ib w b ao n cap d v1 v2 v3 → Ib w2 b ao n cap d v1 v2 v3 := by
    intro v1 v2 v3 h
    refine ⟨(hk b (Nat.le_refl _)).trans h.blk, ?_, h.ne, h.rng, h.small⟩
    obtain ⟨a0, c0, e, h2, h3, h4⟩ := h.rd
    refine ⟨a0, c0, e, h2, h3, fun h0 => ?_⟩
    obtain ⟨g, o, rfl, hg, hc⟩ := h4 h0
    have hb2 := hk g (by have := h.ne (by simpa [Wr.bs] using h0) _ _ _ e; simp only at this; omega)
    exact ⟨g, o, rfl, by omega, fun i t ht => (World.cell?_of_block (w := w) hb2).trans (hc i t ht)⟩
  cases s with
  | none => obtain ⟨x1, x2, h⟩ := h; exact ⟨x1, x2, go h⟩
  | some off => obtain ⟨x, ho, h⟩ := h; exact ⟨x, ho, go h⟩
/-- The In stands in the state s; from w to w' it alone has turned. -/
structure RG (b : Nat) (g : SV) (d : List Int) (w w' : World) (s : Option Nat) : Prop where
  st : IS w' b g.ao g.n g.cap d s
  kept : Wr.Kept (fun k => k = b) w w'
section
variable {b : Nat} {g : SV} {d : List Int} {w w1 w2 : World} {off off' : Option Nat}
theorem RG.start (h : IS w b g.ao g.n g.cap d off) : RG b g d w w off := ⟨h, Wr.Kept.refl _ _⟩
theorem RG.size (h : RG b g d w w1 off) : w.heap.size ≤ w1.heap.size := h.kept.size
theorem RG.trans (h : RG b g d w w1 off) (k : RG b g d w1 w2 off') : RG b g d w w2 off' := ⟨k.st, kept_trans h.kept k.kept⟩
theorem RG.blt (h : RG b g d w w1 off) : b < w1.heap.size := h.st.bad.2.1
theorem RG.bel {B : Nat} (h : RG b g d w w1 off) (hb : Below B w1 w2) (h1 : b < B) (_ : b < B) (h3 : w.heap.size ≤ B) : RG b g d w w2 off :=
  ⟨h.st.up hb h1, ⟨hb.os.trans h.kept.os, hb.tape.trans h.kept.tape, hb.output.trans h.kept.output, Nat.le_trans h.kept.size hb.size, fun x hx hn => (hb.block x (by omega)).trans (h.kept.block x hx hn)⟩⟩
theorem RG.alloc (h : RG b g d w w1 off) (o : Obj) : RG b g d w (w1.alloc o) off := h.bel (bel_alloc w1 o) h.blt h.blt h.size
theorem RG.of_alloc {o : Obj} (h : RG b g d (w.alloc o) w1 off) : RG b g d w w1 off := ⟨h.st, h.kept.of_alloc⟩
theorem RG.blk (h : RG b g d w w1 off) {k : Nat} (hk : k < w.heap.size) (hn : k ≠ b) : w1.heap[k]? = w.heap[k]? := h.kept.block k hk hn
theorem rg_of {s : Option Nat} (h : IT w w1 b g.ao g.n g.cap d s) : RG b g d w w1 s := ⟨h.1, h.2⟩
theorem uint_rg (h : RG b g d w w1 off) : Calls Try.prog 57 #[.pointer (some ⟨b, 0, none⟩)] w1 fun e w' => e = .returned (.int .u64 (Wr.uR d off).1) ∧ RG b g d w1 w' (Wr.uR d off).2 :=
  (iu_any w1 b _ _ _ d off h.st).mono fun e w' ⟨q1, q2⟩ => ⟨q1, rg_of q2⟩
theorem int_rg (h : RG b g d w w1 off) : Calls Try.prog 59 #[.pointer (some ⟨b, 0, none⟩)] w1 fun e w' => e = .returned (.int .i64 (Wr.iR d off).1) ∧ RG b g d w1 w' (Wr.iR d off).2 :=
  (ii_any w1 b _ _ _ d off h.st).mono fun e w' ⟨q1, q2⟩ => ⟨q1, rg_of q2⟩
theorem text_rg (h : RG b g d w w1 off) : Calls Try.prog 62 #[.pointer (some ⟨b, 0, none⟩)] w1 fun e w' => e = .returned (.string (ba (strU (Wr.tR d off).1))) ∧ RG b g d w1 w' (Wr.tR d off).2 :=
  (it_any w1 b _ _ _ d off h.st).mono fun e w' ⟨q1, q2⟩ => ⟨q1, rg_of q2⟩
theorem count_rg (h : RG b g d w w1 off) : Calls Try.prog 61 #[.pointer (some ⟨b, 0, none⟩)] w1 fun e w' => e = .returned (.int .i64 (Wr.cR d off).1) ∧ RG b g d w1 w' (Wr.cR d off).2 :=
  (ic_any w1 b _ _ _ d off h.st).mono fun e w' ⟨q1, q2⟩ => ⟨q1, rg_of q2⟩
theorem fail_rg (h : RG b g d w w1 off) : Calls Try.prog 58 #[.pointer (some ⟨b, 0, none⟩)] w1 fun e w' => e = .returned (.tuple #[]) ∧ RG b g d w1 w' none :=
  (if_any w1 b _ _ _ d off h.st).mono fun e w' ⟨q1, q2⟩ => ⟨q1, rg_of q2⟩
/-- What list gives: a row of strings of the call's own. -/
def NaP (b : Nat) (g : SV) (d : List Int) (ns : List Str) (s : Option Nat) (w : World) (e : Ending) (w' : World) : Prop := ∃ (xo : Option Addr) (xc : Nat), e = .returned (.slice xo ns.length xc) ∧ Rd w' (.slice xo ns.length xc) (ss ns) ∧ In (fun k => w.heap.size ≤ k ∧ k < w'.heap.size) (.slice xo ns.length xc) ∧ RG b g d w w' s
theorem list_rg (h : RG b g d w w1 off) (hn : g.n ≤ 1000000) : Calls Try.prog 60 #[.pointer (some ⟨b, 0, none⟩)] w1 (NaP b g d (rlF d off).1 (rlF d off).2 w1) :=
  (rl_any w1 b _ _ _ d off h.st hn).mono fun e w' ⟨xo, xc, q1, q2, q3, q4⟩ => ⟨xo, xc, q1, q2, q3, rg_of q4⟩
theorem keeps_rg {S : Nat → Prop} {w w' : World} {off : Option Nat} (h : RG b g d w w' off) (hs : ¬ S b) : Keeps S w w' := ⟨h.size, fun k hk hlt => h.blk hlt (fun e => hs (by rw [← e]; exact hk))⟩
end
/-- What read gives. -/
def RdP (b : Nat) (g : SV) (d : List Int) (t : Lat) (s : Option Nat) (w : World) (e : Ending) (w' : World) : Prop := ∃ (xo : Option Addr) (xc : Nat) (yo : Option Addr) (yc : Nat) (zo : Option Addr) (zc : Nat), e = .returned (.agg #[.int .i64 t.k, .int .i64 t.lo, .int .i64 t.hi, .slice xo t.ns.length xc, .slice yo t.ps.length yc, .slice zo t.rs.length zc]) ∧
  LS (fun k => w.heap.size ≤ k ∧ k < w'.heap.size) w' ⟨t.k, t.lo, t.hi, .slice xo t.ns.length xc, .slice yo t.ps.length yc, .slice zo t.rs.length zc⟩ t ∧ RG b g d w w' s
/-- read's boxes: the result's, untouched, and the description's in block p. -/
structure RS (b : Nat) (g : SV) (d : List Int) (w : World) (p : Nat) (x0 x1 x2 x3 x4 x5 : Value) (off : Option Nat) (wr : World) : Prop where
  rg : RG b g d w wr off
  hb : b < w.heap.size ∧ b < w.heap.size
  hp : w.heap.size < p ∧ p < wr.heap.size
  res : wr.heap[w.heap.size]? = some (.cells [.int .i64 0, .int .i64 0, .int .i64 0, .slice none 0 0, .slice none 0 0, .slice none 0 0].toArray 26 (0, 0))
  box : wr.heap[p]? = some (.cells [x0, x1, x2, x3, x4, x5].toArray 26 (0, 0))
section
variable {b : Nat} {g : SV} {d : List Int} {w : World} {p : Nat} {x0 x1 x2 x3 x4 x5 : Value} {off off' : Option Nat} {wr w2 : World}
theorem RS.call (h : RS b g d w p x0 x1 x2 x3 x4 x5 off wr) (k : RG b g d wr w2 off') : RS b g d w p x0 x1 x2 x3 x4 x5 off' w2 := by
  have h1 := h.hb
  have h2 := h.hp
  exact ⟨h.rg.trans k, h1, ⟨h2.1, Nat.lt_of_lt_of_le h2.2 k.size⟩, (k.blk (by omega) (by omega)).trans h.res, (k.blk h2.2 (by omega)).trans h.box⟩
theorem RS.bel {B : Nat} (h : RS b g d w p x0 x1 x2 x3 x4 x5 off wr) (hb : Below B wr w2) (hB : p < B) : RS b g d w p x0 x1 x2 x3 x4 x5 off w2 := by
  have h1 := h.hb
  have h2 := h.hp
  exact ⟨h.rg.bel hb (by omega) (by omega) (by omega), h1, ⟨h2.1, Nat.lt_of_lt_of_le h2.2 hb.size⟩, (hb.block _ (by omega)).trans h.res, (hb.block _ hB).trans h.box⟩
theorem RS.alloc (h : RS b g d w p x0 x1 x2 x3 x4 x5 off wr) (o : Obj) : RS b g d w p x0 x1 x2 x3 x4 x5 off (wr.alloc o) := h.bel (bel_alloc wr o) h.hp.2
theorem RS.drew (h : RS b g d w p x0 x1 x2 x3 x4 x5 off wr) : RS b g d w p x0 x1 x2 x3 x4 x5 off wr.drew := h.bel (B := wr.heap.size) (Below.refl _ _).drew h.hp.2
theorem RS.set (h : RS b g d w p x0 x1 x2 x3 x4 x5 off wr) (j : Nat) (v : Value) {y0 y1 y2 y3 y4 y5 : Value} (e : [x0, x1, x2, x3, x4, x5].set j v = [y0, y1, y2, y3, y4, y5]) : RS b g d w p y0 y1 y2 y3 y4 y5 off (wr.setCell ⟨p, j, none⟩ v) := by
  have h1 := h.hb
  have h2 := h.hp
  obtain ⟨s, k⟩ := h.rg
  refine ⟨⟨is_same s (by simp) (fun k hk => set_blk 0 (by omega)), ⟨k.os, k.tape, k.output, by simpa using k.size, fun x hx hn => (set_blk 0 (by omega)).trans (k.block x hx hn)⟩⟩, h1, ⟨h2.1, by simpa using h2.2⟩, (set_blk 0 (by omega)).trans h.res, ?_⟩
  rw [← e]
  exact Go.Proofs.Ytcjnmgokddfidaa.blk_setCell (k := j) h.box
theorem RS.cells (h : RS b g d w p x0 x1 x2 x3 x4 x5 off wr) : wr.cell? ⟨p, 0, none⟩ = some x0 ∧ wr.cell? ⟨p, 1, none⟩ = some x1 ∧ wr.cell? ⟨p, 2, none⟩ = some x2 ∧ wr.cell? ⟨p, 3, none⟩ = some x3 ∧ wr.cell? ⟨p, 4, none⟩ = some x4 ∧ wr.cell? ⟨p, 5, none⟩ = some x5 :=
  ⟨cell_blk h.box rfl, cell_blk h.box rfl, cell_blk h.box rfl, cell_blk h.box rfl, cell_blk h.box rfl, cell_blk h.box rfl⟩
theorem RS.free (h : RS b g d w p x0 x1 x2 x3 x4 x5 off wr) (j : Nat) : wr.frozen? ⟨p, j, none⟩ = false := fr_blk h.box j
theorem ns_call {v : Value} {ns : List Str} (n : NS (Bh p wr) wr v ns) (h : RS b g d w p x0 x1 x2 x3 x4 x5 off wr) (k : RG b g d wr w2 off') : NS (Bh p w2) w2 v ns :=
  (n.keep (keeps_rg k (fun hk => by have := hk.1; have := h.hp; have := h.hb; omega))).mono (bh_mono k.size)
/-- At the beginning: both boxes stand. -/
theorem RS.start {w0 : World} (h : IS w b g.ao g.n g.cap d off) (e : w0 = (w.alloc (.cells [.int .i64 0, .int .i64 0, .int .i64 0, .slice none 0 0, .slice none 0 0, .slice none 0 0].toArray 26 (0, 0))).alloc (.cells [.int .i64 0, .int .i64 0, .int .i64 0, .slice none 0 0, .slice none 0 0, .slice none 0 0].toArray 26 (0, 0))) : RS b g d w (w.heap.size + 1) (.int .i64 0) (.int .i64 0) (.int .i64 0) (.slice none 0 0) (.slice none 0 0) (.slice none 0 0) off w0 := by
  subst e
  have hb := h.bad.2.1
  refine ⟨((RG.start h).alloc _).alloc _, ⟨hb, hb⟩, ⟨by omega, by simp⟩, (two_new w _ _).1, (two_new w _ _).2⟩
/-- All stands: the result box is filled. -/
theorem RS.fin {t : Lat} {xo : Option Addr} {xc : Nat} {yo : Option Addr} {yc : Nat} {zo : Option Addr} {zc : Nat} (h : RS b g d w p (.int .i64 t.k) (.int .i64 t.lo) (.int .i64 t.hi) (.slice xo t.ns.length xc) (.slice yo t.ps.length yc) (.slice zo t.rs.length zc) off wr) (rk : R64 t.k ∧ R64 t.lo ∧ R64 t.hi) (on : Ok t.ns) (or : OkR t.rs)
    (hn : NS (Bh p wr) wr (.slice xo t.ns.length xc) t.ns) (hp : PS (Bh p wr) wr (.slice yo t.ps.length yc) t.ps) (hr : RuS (Bh p wr) wr (.slice zo t.rs.length zc) t.rs) (cs : Array Value) {e : Ending} (he : e = .returned (.agg #[.int .i64 t.k, .int .i64 t.lo, .int .i64 t.hi, .slice xo t.ns.length xc, .slice yo t.ps.length yc, .slice zo t.rs.length zc])) : RdP b g d t off w e (wr.setRow w.heap.size cs) := by
  subst he
  have h1 := h.hb
  have h2 := h.hp
  have hK : Keeps (Bh p wr) wr (wr.setRow w.heap.size cs) := ⟨by simp [World.setRow], fun k hk _ => setRow_other _ _ _ _ (by have := hk.1; omega)⟩
  have hM : ∀ k, Bh p wr k → w.heap.size ≤ k ∧ k < (wr.setRow w.heap.size cs).heap.size := fun k hk => ⟨by have := hk.1; omega, by have := hk.2; simp [World.setRow]; omega⟩
  obtain ⟨ps, p1, p2, p3, p4⟩ := (hp.keep hK).mono hM
  refine ⟨xo, xc, yo, yc, zo, zc, rfl, .mk ps rfl rfl rfl rk.1 rk.2.1 rk.2.2 ((hn.keep hK).mono hM) on ((hr.keep hK).mono hM) or p1 p2 p3 p4, ?_⟩
  obtain ⟨s, k⟩ := h.rg
  exact ⟨is_same s (by simp [World.setRow]) (fun k hk => setRow_other _ _ _ _ (by omega)), ⟨k.os, k.tape, k.output, by simpa [World.setRow] using k.size, fun x hx hn => (setRow_other _ _ _ _ (by omega)).trans (k.block x hx hn)⟩⟩
end
/-- The names and parts of a product so far. -/
structure LP (b : Nat) (g : SV) (d : List Int) (w : World) (p : Nat) (ns : List Str) (ps : List Lat) (i j : Nat) (no : Option Addr) (nc : Nat) (po : Option Addr) (pc : Nat) (qs : List LX) (o : Option Nat) (wr : World) : Prop where
  st : RS b g d w p (.int .i64 6) (.int .i64 0) (.int .i64 0) (.slice no i nc) (.slice po j pc) (.slice none 0 0) o wr
  nam : wr.ownsRow (p + 1) 9 1 (.slice no i nc) i (ss (ns.take i))
  ql : qs.length = j
  par : wr.ownsRow (p + 1) 26 6 (.slice po j pc) j (sxds (qs.map LX.q))
  kid : ∀ (m : Nat) (y : LX) (u : Lat), qs[m]? = some y → ps[m]? = some u → LS (SK p wr (.slice no i nc) (.slice po j pc)) wr y u
section
variable {b : Nat} {g : SV} {d : List Int} {w : World} {p : Nat} {ns : List Str} {ps : List Lat} {i j : Nat} {no : Option Addr} {nc : Nat} {po : Option Addr} {pc : Nat} {qs : List LX} {o o' : Option Nat} {wr w2 : World}
theorem LP.keep (h : LP b g d w p ns ps i j no nc po pc qs o wr) (k : RS b g d w p (.int .i64 6) (.int .i64 0) (.int .i64 0) (.slice no i nc) (.slice po j pc) (.slice none 0 0) o' w2) (hk : Keeps (fun k => p < k) wr w2) : LP b g d w p ns ps i j no nc po pc qs o' w2 :=
  ⟨k, own_same h.nam fun q hq => hk.2 q (by have := (h.nam.lt q hq).1; omega) (h.nam.lt q hq).2, h.ql, own_same h.par fun q hq => hk.2 q (by have := (h.par.lt q hq).1; omega) (h.par.lt q hq).2,
    fun m y u hy hu => ((h.kid m y u hy hu).keep ⟨hk.1, fun q hq hl => hk.2 q hq.1.1 hl⟩).mono fun q hq => ⟨⟨hq.1.1, Nat.lt_of_lt_of_le hq.1.2 hk.1⟩, hq.2⟩⟩
theorem LP.call (h : LP b g d w p ns ps i j no nc po pc qs o wr) (k : RG b g d wr w2 o') : LP b g d w p ns ps i j no nc po pc qs o' w2 :=
  h.keep (h.st.call k) (keeps_rg k (fun hb => by have := h.st.hb; have := h.st.hp; omega))
theorem LP.alloc (h : LP b g d w p ns ps i j no nc po pc qs o wr) (O : Obj) : LP b g d w p ns ps i j no nc po pc qs o (wr.alloc O) := h.keep (h.st.alloc O) (keeps_alloc _ wr O)
theorem LP.drew (h : LP b g d w p ns ps i j no nc po pc qs o wr) : LP b g d w p ns ps i j no nc po pc qs o wr.drew := h.keep h.st.drew ⟨Nat.le_refl _, fun _ _ _ => rfl⟩
/-- One name more. -/
theorem LP.name (h : LP b g d w p ns ps i j no nc po pc qs o wr) {x : Str} (hx : ns[i]? = some x) {ao : Option Addr} {cap : Nat} {w4 : World} (ga : GA (p + 1) 9 1 wr w4 (.slice no i nc) (.slice ao (i + 1) cap) (i + 1) (ss (ns.take i) ++ [.string (ba x)])) : LP b g d w p ns ps (i + 1) j ao cap po pc qs o (w4.setCell ⟨p, 3, none⟩ (.slice ao (i + 1) cap)) := by
  have hp := h.st.hp
  have hB := ga_bel ga h.nam (by omega)
  have s4 := (h.st.bel hB (by omega)).set 3 (.slice ao (i + 1) cap) rfl
  have ko : ∀ k, p < k → (w4.setCell ⟨p, 3, none⟩ (.slice ao (i + 1) cap)).heap[k]? = w4.heap[k]? := fun k hk => set_blk 0 (by omega)
  refine ⟨s4, ?_, h.ql, own_same (ga_own ga h.nam h.par (by decide)) fun k hk => ko k (by have := (h.par.lt k hk).1; omega), fun m y u hy hu => ?_⟩
  · rw [take_snocL hx, ss_append]
    exact own_same ga.own fun k hk => ko k (by have := (ga.own.lt k hk).1; omega)
  · refine ((((h.kid m y u hy hu).keep (keeps_grown ga.gr fun k hk => hk.2.1)).mono (ga_sk ga)).keep (keeps_set w4 p 3 _ fun hk => by have := hk.1.1; omega)).mono fun k hk => ⟨⟨hk.1.1, by simpa using hk.1.2⟩, hk.2⟩
/-- One part more. -/
theorem LP.part (h : LP b g d w p ns ps i j no nc po pc qs o wr) {x : LX} {u : Lat} (hu : ps[j]? = some u) (hx : LS (SK p wr (.slice no i nc) (.slice po j pc)) wr x u) {ao : Option Addr} {cap : Nat} {w4 : World} (ga : GA (p + 1) 26 6 wr w4 (.slice po j pc) (.slice ao (j + 1) cap) (j + 1) (sxds (qs.map LX.q) ++ sxds [x.q])) : LP b g d w p ns ps i (j + 1) no nc ao cap (qs ++ [x]) o (w4.setCell ⟨p, 4, none⟩ (.slice ao (j + 1) cap)) := by
  have hp := h.st.hp
  have hB := ga_bel ga h.par (by omega)
  have s4 := (h.st.bel hB (by omega)).set 4 (.slice ao (j + 1) cap) rfl
  have ko : ∀ k, p < k → (w4.setCell ⟨p, 4, none⟩ (.slice ao (j + 1) cap)).heap[k]? = w4.heap[k]? := fun k hk => set_blk 0 (by omega)
  have up : ∀ (y : LX) (v : Lat), LS (SK p wr (.slice no i nc) (.slice po j pc)) wr y v → LS (SK p (w4.setCell ⟨p, 4, none⟩ (.slice ao (j + 1) cap)) (.slice no i nc) (.slice ao (j + 1) cap)) (w4.setCell ⟨p, 4, none⟩ (.slice ao (j + 1) cap)) y v := fun y v hy =>
    ((((hy.keep (keeps_grown ga.gr fun k hk => hk.2.2)).mono fun k hk => sk_swap k (ga_sk ga k (sk_swap k hk))).keep (keeps_set w4 p 4 _ fun hk => by have := hk.1.1; omega)).mono fun k hk => ⟨⟨hk.1.1, by simpa using hk.1.2⟩, hk.2⟩)
  refine ⟨s4, own_same (ga_own ga h.par h.nam (by decide)) fun k hk => ko k (by have := (h.nam.lt k hk).1; omega), by simp [h.ql], ?_, fun m y v hy hv => ?_⟩
  · rw [List.map_append, sxds_append]
    exact own_same ga.own fun k hk => ko k (by have := (ga.own.lt k hk).1; omega)
  · by_cases e : m < qs.length
    · rw [List.getElem?_append_left e] at hy
      exact up y v (h.kid m y v hy hv)
    · rw [List.getElem?_append_right (by omega)] at hy
      have hm : m = qs.length := by have := (List.getElem?_eq_some_iff.1 hy).1; simp at this; omega
      subst hm
      simp at hy
      subst hy
      rw [h.ql, hu] at hv
      cases hv
      exact up x u hx
theorem LP.fin (h : LP b g d w p ns ps ns.length ps.length no nc po pc qs o wr) (h32 : ns.length ≤ 1000) : NS (Bh p wr) wr (.slice no ns.length nc) ns ∧ PS (Bh p wr) wr (.slice po ps.length pc) ps := by
  have hn := h.nam
  rw [List.take_length] at hn
  refine ⟨⟨(show Ow 9 (p + 1) wr wr (.slice no ns.length nc) (ss ns) from ⟨by have := h.st.hp; omega, Below.refl _ _, by rw [ss_length]; exact hn⟩).rd (by rw [ss_length]; omega), fun a n c e => by cases e; exact ⟨by have := (hn.lt a.block rfl).1; omega, (hn.lt a.block rfl).2⟩⟩, qs, ?_, fun a n c e => by cases e; exact ⟨by have := (h.par.lt a.block rfl).1; omega, (h.par.lt a.block rfl).2⟩, h.ql, fun m y u hy hu => (h.kid m y u hy hu).mono fun k hk => hk.1⟩
  have hp := h.par
  have hq : (qs.map LX.q).length = ps.length := by simp [h.ql]
  rw [← hq] at hp ⊢
  exact sx_rd_of_own hp
/-- The rules so far. -/
structure LQ (b : Nat) (g : SV) (d : List Int) (w : World) (p : Nat) (ns : List Str) (rs : List Gr) (no : Option Addr) (nc : Nat) (j : Nat) (ro : Option Addr) (rc : Nat) (ds : List PV) (o : Option Nat) (wr : World) : Prop where
  st : RS b g d w p (.int .i64 10) (.int .i64 0) (.int .i64 0) (.slice no ns.length nc) (.slice none 0 0) (.slice ro j rc) o wr
  nam : NS (SK p wr (.slice ro j rc) (.slice none 0 0)) wr (.slice no ns.length nc) ns
  dl : ds.length = j
  rul : wr.ownsRow (p + 1) 58 2 (.slice ro j rc) j (prs ds)
  kid : ∀ (m : Nat) (t : PV) (r : Gr), ds[m]? = some t → rs[m]? = some r → NS (SK p wr (.slice ro j rc) (.slice none 0 0)) wr t.1 r.1 ∧ t.2 = .string (ba r.2)
variable {rs : List Gr} {ro : Option Addr} {rc : Nat} {ds : List PV}
theorem LQ.keep (h : LQ b g d w p ns rs no nc j ro rc ds o wr) (k : RS b g d w p (.int .i64 10) (.int .i64 0) (.int .i64 0) (.slice no ns.length nc) (.slice none 0 0) (.slice ro j rc) o' w2) (hk : Keeps (fun k => p < k) wr w2) : LQ b g d w p ns rs no nc j ro rc ds o' w2 := by
  have hk2 : Keeps (SK p wr (.slice ro j rc) (.slice none 0 0)) wr w2 := ⟨hk.1, fun q hq hl => hk.2 q hq.1.1 hl⟩
  have hm : ∀ q, SK p wr (.slice ro j rc) (.slice none 0 0) q → SK p w2 (.slice ro j rc) (.slice none 0 0) q := fun q hq => ⟨⟨hq.1.1, Nat.lt_of_lt_of_le hq.1.2 hk.1⟩, hq.2⟩
  exact ⟨k, (h.nam.keep hk2).mono hm, h.dl, own_same h.rul fun q hq => hk.2 q (by have := (h.rul.lt q hq).1; omega) (h.rul.lt q hq).2, fun m t r ht hr => ⟨((h.kid m t r ht hr).1.keep hk2).mono hm, (h.kid m t r ht hr).2⟩⟩
theorem LQ.call (h : LQ b g d w p ns rs no nc j ro rc ds o wr) (k : RG b g d wr w2 o') : LQ b g d w p ns rs no nc j ro rc ds o' w2 :=
  h.keep (h.st.call k) (keeps_rg k (fun hb => by have := h.st.hb; have := h.st.hp; omega))
theorem LQ.alloc (h : LQ b g d w p ns rs no nc j ro rc ds o wr) (O : Obj) : LQ b g d w p ns rs no nc j ro rc ds o (wr.alloc O) := h.keep (h.st.alloc O) (keeps_alloc _ wr O)
theorem LQ.drew (h : LQ b g d w p ns rs no nc j ro rc ds o wr) : LQ b g d w p ns rs no nc j ro rc ds o wr.drew := h.keep h.st.drew ⟨Nat.le_refl _, fun _ _ _ => rfl⟩
theorem LQ.rule (h : LQ b g d w p ns rs no nc j ro rc ds o wr) {v : Value} {r : Gr} (hu : rs[j]? = some r) (hv : NS (SK p wr (.slice ro j rc) (.slice none 0 0)) wr v r.1) {ao : Option Addr} {cap : Nat} {w4 : World} (ga : GA (p + 1) 58 2 wr w4 (.slice ro j rc) (.slice ao (j + 1) cap) (j + 1) (prs ds ++ prs [(v, .string (ba r.2))])) : LQ b g d w p ns rs no nc (j + 1) ao cap (ds ++ [(v, .string (ba r.2))]) o (w4.setCell ⟨p, 5, none⟩ (.slice ao (j + 1) cap)) := by
  have hp := h.st.hp
  have hB := ga_bel ga h.rul (by omega)
  have s4 := (h.st.bel hB (by omega)).set 5 (.slice ao (j + 1) cap) rfl
  have ko : ∀ k, p < k → (w4.setCell ⟨p, 5, none⟩ (.slice ao (j + 1) cap)).heap[k]? = w4.heap[k]? := fun k hk => set_blk 0 (by omega)
  have up : ∀ (y : Value) (l : List Str), NS (SK p wr (.slice ro j rc) (.slice none 0 0)) wr y l → NS (SK p (w4.setCell ⟨p, 5, none⟩ (.slice ao (j + 1) cap)) (.slice ao (j + 1) cap) (.slice none 0 0)) (w4.setCell ⟨p, 5, none⟩ (.slice ao (j + 1) cap)) y l := fun y l hy =>
    ((((hy.keep (keeps_grown ga.gr fun k hk => hk.2.1)).mono (ga_sk ga)).keep (keeps_set w4 p 5 _ fun hk => by have := hk.1.1; omega)).mono fun k hk => ⟨⟨hk.1.1, by simpa using hk.1.2⟩, hk.2⟩)
  refine ⟨s4, up _ _ h.nam, by simp [h.dl], ?_, fun m y q hy hq => ?_⟩
  · rw [prs_append]
    exact own_same ga.own fun k hk => ko k (by have := (ga.own.lt k hk).1; omega)
  · by_cases e : m < ds.length
    · rw [List.getElem?_append_left e] at hy
      exact ⟨up _ _ (h.kid m y q hy hq).1, (h.kid m y q hy hq).2⟩
    · rw [List.getElem?_append_right (by omega)] at hy
      have hm : m = ds.length := by have := (List.getElem?_eq_some_iff.1 hy).1; simp at this; omega
      subst hm
      simp at hy
      subst hy
      rw [h.dl, hu] at hq
      cases hq
      exact ⟨up _ _ hv, rfl⟩
theorem LQ.fin (h : LQ b g d w p ns rs no nc rs.length ro rc ds o wr) : NS (Bh p wr) wr (.slice no ns.length nc) ns ∧ RuS (Bh p wr) wr (.slice ro rs.length rc) rs := by
  refine ⟨h.nam.mono fun k hk => hk.1, ds, ?_, fun a n c e => by cases e; exact ⟨by have := (h.rul.lt a.block rfl).1; omega, (h.rul.lt a.block rfl).2⟩, h.dl, fun m t r ht hr => ⟨(h.kid m t r ht hr).1.mono fun k hk => hk.1, (h.kid m t r ht hr).2⟩⟩
  have h2 := h.rul
  rw [← h.dl] at h2 ⊢
  exact (show OP 58 (p + 1) wr wr (.slice ro ds.length rc) ds from ⟨by have := h.st.hp; omega, Below.refl _ _, h2⟩).prd
theorem lp_start (h : RS b g d w p (.int .i64 6) (.int .i64 0) (.int .i64 0) (.slice none 0 0) (.slice none 0 0) (.slice none 0 0) o wr) : LP b g d w p ns ps 0 0 none 0 none 0 [] o wr :=
  ⟨h, by rw [List.take_zero]; exact World.ownsRow_nil _ _ _ _, rfl, World.ownsRow_nil _ _ _ _, fun m y u hy => by simp at hy⟩
theorem lp_kid (h : LP b g d w p ns ps i j no nc po pc qs o wr) (k : RG b g d wr w2 o') {x : LX} {u : Lat} (hx : LS (fun k => wr.heap.size ≤ k ∧ k < w2.heap.size) w2 x u) : LS (SK p w2 (.slice no i nc) (.slice po j pc)) w2 x u :=
  hx.mono fun q hq => ⟨⟨by have := h.st.hp; omega, hq.2⟩, fun e => by have := (h.nam.lt q e).2; omega, fun e => by have := (h.par.lt q e).2; omega⟩
theorem lq_start (h : RS b g d w p (.int .i64 10) (.int .i64 0) (.int .i64 0) (.slice no ns.length nc) (.slice none 0 0) (.slice none 0 0) o wr) (hn : NS (Bh p wr) wr (.slice no ns.length nc) ns) : LQ b g d w p ns rs no nc 0 none 0 [] o wr :=
  ⟨h, hn.mono fun k hk => ⟨hk, by simp [Value.ownBlock], by simp [Value.ownBlock]⟩, rfl, World.ownsRow_nil _ _ _ _, fun m t r ht => by simp at ht⟩
theorem lq_kid (h : LQ b g d w p ns rs no nc j ro rc ds o wr) (k : RG b g d wr w2 o') {v : Value} {l : List Str} (h1 : Rd w2 v (ss l)) (h2 : In (fun k => wr.heap.size ≤ k ∧ k < w2.heap.size) v) : NS (SK p w2 (.slice ro j rc) (.slice none 0 0)) w2 v l :=
  ⟨h1, h2.mono fun q hq => ⟨⟨by have := h.st.hp; omega, hq.2⟩, fun e => by have := (h.rul.lt q e).2; omega, by simp [Value.ownBlock]⟩⟩
theorem ns_stay (h : LQ b g d w p ns rs no nc j ro rc ds o wr) {v : Value} {l : List Str} (n : NS (SK p wr (.slice ro j rc) (.slice none 0 0)) wr v l) (k : RG b g d wr w2 o') : NS (SK p w2 (.slice ro j rc) (.slice none 0 0)) w2 v l :=
  (n.keep (keeps_rg k (fun hb => by have := hb.1.1; have := h.st.hb; have := h.st.hp; omega))).mono fun q hq => ⟨⟨hq.1.1, Nat.lt_of_lt_of_le hq.1.2 k.size⟩, hq.2⟩
end
/-- The parts so far, of a kind k with names in a row that stands. -/
structure LO (b : Nat) (g : SV) (d : List Int) (w : World) (p : Nat) (k : Int) (ns : List Str) (nv : Value) (ps : List Lat) (j : Nat) (po : Option Addr) (pc : Nat) (qs : List LX) (o : Option Nat) (wr : World) : Prop where
  st : RS b g d w p (.int .i64 k) (.int .i64 0) (.int .i64 0) nv (.slice po j pc) (.slice none 0 0) o wr
  nam : NS (SK p wr (.slice po j pc) (.slice none 0 0)) wr nv ns
  ql : qs.length = j
  par : wr.ownsRow (p + 1) 26 6 (.slice po j pc) j (sxds (qs.map LX.q))
  kid : ∀ (m : Nat) (y : LX) (u : Lat), qs[m]? = some y → ps[m]? = some u → LS (SK p wr (.slice po j pc) (.slice none 0 0)) wr y u
section
variable {b : Nat} {g : SV} {d : List Int} {w : World} {p : Nat} {k : Int} {ns : List Str} {nv : Value} {ps : List Lat} {j : Nat} {po : Option Addr} {pc : Nat} {qs : List LX} {o o' : Option Nat} {wr w2 : World}
theorem LO.keep (h : LO b g d w p k ns nv ps j po pc qs o wr) (r : RS b g d w p (.int .i64 k) (.int .i64 0) (.int .i64 0) nv (.slice po j pc) (.slice none 0 0) o' w2) (hk : Keeps (fun k => p < k) wr w2) : LO b g d w p k ns nv ps j po pc qs o' w2 := by
  have hk2 : Keeps (SK p wr (.slice po j pc) (.slice none 0 0)) wr w2 := ⟨hk.1, fun q hq hl => hk.2 q hq.1.1 hl⟩
  have hm : ∀ q, SK p wr (.slice po j pc) (.slice none 0 0) q → SK p w2 (.slice po j pc) (.slice none 0 0) q := fun q hq => ⟨⟨hq.1.1, Nat.lt_of_lt_of_le hq.1.2 hk.1⟩, hq.2⟩
  exact ⟨r, (h.nam.keep hk2).mono hm, h.ql, own_same h.par fun q hq => hk.2 q (by have := (h.par.lt q hq).1; omega) (h.par.lt q hq).2, fun m y u hy hu => ((h.kid m y u hy hu).keep hk2).mono hm⟩
theorem LO.call (h : LO b g d w p k ns nv ps j po pc qs o wr) (r : RG b g d wr w2 o') : LO b g d w p k ns nv ps j po pc qs o' w2 :=
  h.keep (h.st.call r) (keeps_rg r (fun hb => by have := h.st.hb; have := h.st.hp; omega))
theorem LO.alloc (h : LO b g d w p k ns nv ps j po pc qs o wr) (O : Obj) : LO b g d w p k ns nv ps j po pc qs o (wr.alloc O) := h.keep (h.st.alloc O) (keeps_alloc _ wr O)
theorem LO.drew (h : LO b g d w p k ns nv ps j po pc qs o wr) : LO b g d w p k ns nv ps j po pc qs o wr.drew := h.keep h.st.drew ⟨Nat.le_refl _, fun _ _ _ => rfl⟩
theorem LO.part (h : LO b g d w p k ns nv ps j po pc qs o wr) {x : LX} {u : Lat} (hu : ps[j]? = some u) (hx : LS (SK p wr (.slice po j pc) (.slice none 0 0)) wr x u) {ao : Option Addr} {cap : Nat} {w4 : World} (ga : GA (p + 1) 26 6 wr w4 (.slice po j pc) (.slice ao (j + 1) cap) (j + 1) (sxds (qs.map LX.q) ++ sxds [x.q])) : LO b g d w p k ns nv ps (j + 1) ao cap (qs ++ [x]) o (w4.setCell ⟨p, 4, none⟩ (.slice ao (j + 1) cap)) := by
  have hp := h.st.hp
  have hB := ga_bel ga h.par (by omega)
  have s4 := (h.st.bel hB (by omega)).set 4 (.slice ao (j + 1) cap) rfl
  have ko : ∀ k, p < k → (w4.setCell ⟨p, 4, none⟩ (.slice ao (j + 1) cap)).heap[k]? = w4.heap[k]? := fun k hk => set_blk 0 (by omega)
  have up : ∀ (y : LX) (v : Lat), LS (SK p wr (.slice po j pc) (.slice none 0 0)) wr y v → LS (SK p (w4.setCell ⟨p, 4, none⟩ (.slice ao (j + 1) cap)) (.slice ao (j + 1) cap) (.slice none 0 0)) (w4.setCell ⟨p, 4, none⟩ (.slice ao (j + 1) cap)) y v := fun y v hy =>
    ((((hy.keep (keeps_grown ga.gr fun k hk => hk.2.1)).mono (ga_sk ga)).keep (keeps_set w4 p 4 _ fun hk => by have := hk.1.1; omega)).mono fun k hk => ⟨⟨hk.1.1, by simpa using hk.1.2⟩, hk.2⟩)
  refine ⟨s4, ((((h.nam.keep (keeps_grown ga.gr fun k hk => hk.2.1)).mono (ga_sk ga)).keep (keeps_set w4 p 4 _ fun hk => by have := hk.1.1; omega)).mono fun k hk => ⟨⟨hk.1.1, by simpa using hk.1.2⟩, hk.2⟩), by simp [h.ql], ?_, fun m y v hy hv => ?_⟩
  · rw [List.map_append, sxds_append]
    exact own_same ga.own fun k hk => ko k (by have := (ga.own.lt k hk).1; omega)
  · by_cases e : m < qs.length
    · rw [List.getElem?_append_left e] at hy
      exact up y v (h.kid m y v hy hv)
    · rw [List.getElem?_append_right (by omega)] at hy
      have hm : m = qs.length := by have := (List.getElem?_eq_some_iff.1 hy).1; simp at this; omega
      subst hm
      simp at hy
      subst hy
      rw [h.ql, hu] at hv
      cases hv
      exact up x u hx
theorem LO.fin (h : LO b g d w p k ns nv ps ps.length po pc qs o wr) : NS (Bh p wr) wr nv ns ∧ PS (Bh p wr) wr (.slice po ps.length pc) ps := by
  refine ⟨h.nam.mono fun k hk => hk.1, qs, ?_, fun a n c e => by cases e; exact ⟨by have := (h.par.lt a.block rfl).1; omega, (h.par.lt a.block rfl).2⟩, h.ql, fun m y u hy hu => (h.kid m y u hy hu).mono fun k hk => hk.1⟩
  have hp := h.par
  have hq : (qs.map LX.q).length = ps.length := by simp [h.ql]
  rw [← hq] at hp ⊢
  exact sx_rd_of_own hp
theorem lo_start (h : RS b g d w p (.int .i64 k) (.int .i64 0) (.int .i64 0) nv (.slice none 0 0) (.slice none 0 0) o wr) (hn : NS (Bh p wr) wr nv ns) : LO b g d w p k ns nv ps 0 none 0 [] o wr :=
  ⟨h, hn.mono fun k hk => ⟨hk, by simp [Value.ownBlock], by simp [Value.ownBlock]⟩, rfl, World.ownsRow_nil _ _ _ _, fun m y u hy => by simp at hy⟩
theorem lo_kid (h : LO b g d w p k ns nv ps j po pc qs o wr) (r : RG b g d wr w2 o') {x : LX} {u : Lat} (hx : LS (fun k => wr.heap.size ≤ k ∧ k < w2.heap.size) w2 x u) : LS (SK p w2 (.slice po j pc) (.slice none 0 0)) w2 x u :=
  hx.mono fun q hq => ⟨⟨by have := h.st.hp; omega, hq.2⟩, fun e => by have := (h.par.lt q e).2; omega, by simp [Value.ownBlock]⟩
end
end Rx
end Go.Proofs.Ytcjnmgokddfidaa
