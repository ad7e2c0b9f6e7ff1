/- Texts in one: ClsRrd, ClsRr1, ClsRck, ClsRck2, ClsLwR. -/
import Derived.Test.YtedohggbpmcehaaMgRG
import Derived.Deep.CutRange
/- For the reference's Reduce: parts of a slice of rules; the rule that a round works on. Bounds on sizes alone. -/
namespace Go.Proofs.Ytedohggbpmcehaa
open Go.RowKit
set_option maxRecDepth 100000
set_option maxHeartbeats 400000

theorem upto_rule (g o len cap s : Nat) (hs : s ≤ cap) : ∀ wx, (Instr.slice 23 (.slice (some ⟨g, o, none⟩) len cap) none (some (.int .i64 (s : Int))) none).run Try.prog wx = .ok (.slice (some ⟨g, o, none⟩) s cap) wx := fun wx => by
  obtain ⟨i0, hi, hz0, hz1, hz2⟩ := info_parts ruE2.info
  have he : Try.prog.elem 23 = 41 := by kernel_rfl
  have ht : Try.prog.underlying 23 = some (.slice (Try.prog.elem 23)) := by rw [he]; exact Try.underlying23
  have hsz : (sizeOf (Try.prog.elem 23)).run Try.prog wx = .ok 2 wx := by
    rw [he]
    simp [sizeOf, typeInfo, hi, hz1]
  rw [run_slice_h (t := 23) (ht := ht) (h0 := by omega) (h2 := by omega), hsz]
  simp [Result.andThen, sliced, Addr.add]
theorem fro_rule (g o len cap s : Nat) (hs : s ≤ len) : ∃ A, (∀ wx, (Instr.slice 23 (.slice (some ⟨g, o, none⟩) len cap) (some (.int .i64 (s : Int))) none none).run Try.prog wx = .ok (.slice A (len - s) (cap - s)) wx) ∧ (s < len → len ≤ cap → A = some ⟨g, o + s * 2, none⟩) := by
  obtain ⟨i0, hi, hz0, hz1, hz2⟩ := info_parts ruE2.info
  have he : Try.prog.elem 23 = 41 := by kernel_rfl
  have ht : Try.prog.underlying 23 = some (.slice (Try.prog.elem 23)) := by rw [he]; exact Try.underlying23
  have hsz : ∀ wx, (sizeOf (Try.prog.elem 23)).run Try.prog wx = .ok 2 wx := fun wx => by
    rw [he]
    simp [sizeOf, typeInfo, hi, hz1]
  refine ⟨if cap = s then some ⟨g, o, none⟩ else (some (⟨g, o, none⟩ : Addr)).map (·.add (s * 2)), fun wx => ?_, fun hlt hc => ?_⟩
  · rw [run_slice_l (t := 23) (ht := ht) (h0 := by omega) (h1 := by omega), hsz]
    rfl
  · rw [if_neg (by omega), Option.map_some, Addr.add_mid]
theorem prd_take {w : World} {g o n cap i : Nat} {l : List PV} (h : PRd w (.slice (some ⟨g, o, none⟩) n cap) l) (hi : i ≤ n) : PRd w (.slice (some ⟨g, o, none⟩) i cap) (l.take i) := by
  obtain ⟨h1, h2, h3⟩ := h.cut
  have hl : (l.take i).length = i := by rw [List.length_take]; omega
  refine ⟨_, cap, by rw [hl], by rw [hl]; omega, h3, fun h0 => ?_⟩
  rw [hl] at h0
  obtain ⟨t, ht⟩ : ∃ t, l[0]? = some t := ⟨_, List.getElem?_eq_getElem (by omega)⟩
  obtain ⟨g', o', e, c0, _⟩ := h.get ht
  cases e
  refine ⟨g, o, rfl, World.block_lt_of_cell? _ _ c0, fun j u hu => ?_⟩
  have hj : j < i := by have := (List.getElem?_eq_some_iff.1 hu).1; omega
  rw [List.getElem?_take, if_pos hj] at hu
  obtain ⟨g', o', e, c0, c1⟩ := h.get hu
  cases e
  exact ⟨c0, c1⟩
theorem prd_drop {w : World} {g o n cap i : Nat} {A : Option Addr} {l : List PV} (h : PRd w (.slice (some ⟨g, o, none⟩) n cap) l) (hi : i ≤ n) (hA : i < n → n ≤ cap → A = some ⟨g, o + i * 2, none⟩) : PRd w (.slice A (n - i) (cap - i)) (l.drop i) := by
  obtain ⟨h1, h2, h3⟩ := h.cut
  have hl : (l.drop i).length = n - i := by rw [List.length_drop]; omega
  refine ⟨_, cap - i, by rw [hl], by rw [hl]; omega, by omega, fun h0 => ?_⟩
  rw [hl] at h0
  obtain ⟨t, ht⟩ : ∃ t, l[0]? = some t := ⟨_, List.getElem?_eq_getElem (by omega)⟩
  obtain ⟨g', o', e, c0, _⟩ := h.get ht
  cases e
  refine ⟨g, o + i * 2, hA (by omega) h2, World.block_lt_of_cell? _ _ c0, fun j u hu => ?_⟩
  rw [List.getElem?_drop] at hu
  obtain ⟨g', o', e, c0, c1⟩ := h.get hu
  cases e
  rw [show o + i * 2 + j * 2 = o + (i + j) * 2 by omega]
  exact ⟨c0, c1⟩
/-- The rule that a round works on: a box; the rules so far. -/
structure RrI (w wz : World) (v : Value) (k : Nat) (P : List Gr) (bt : Nat) (a : Option Addr) (m c : Nat) (bx : ByteArray) (p : List Str) : Prop where
  red : RedI w wz v k P
  box : wz.heap[bt]? = some (.cells #[.slice a m c, .string bx] 41 (0, 0))
  row : wz.ownsRow 0 9 1 (.slice a m c) p.length (ss p)
  len : m = p.length
  ne : ∀ g, v.ownBlock = some g → g ≠ bt
  ge : w.heap.size ≤ bt
section
variable {w wz w' : World} {v : Value} {k : Nat} {P : List Gr} {bt : Nat} {a : Option Addr} {m c : Nat} {bx : ByteArray} {p : List Str}
theorem RrI.at (h : RrI w wz v k P bt a m c bx p) (b : Below wz.heap.size wz w') : RrI w w' v k P bt a m c bx p :=
  ⟨h.red.at b, (b.block _ (lt_of_block h.box)).trans h.box, own_same h.row fun k hk => b.block k (own_lt h.row hk), h.len, h.ne, h.ge⟩
theorem RrI.cells (h : RrI w wz v k P bt a m c bx p) : (wz.cell? ⟨bt, 0, none⟩ = some (.slice a m c) ∧ wz.cell? ⟨bt, 1, none⟩ = some (.string bx)) ∧ wz.frozen? ⟨bt, 0, none⟩ = false := by
  have b1' : wz.heap[bt]? = some (.cells [.slice a m c, .string bx].toArray 41 (0, 0)) := h.box
  exact ⟨⟨blk_cell b1' (j := 0) rfl, blk_cell b1' (j := 1) rfl⟩, blk_free b1' 0⟩
theorem RrI.bel (h : RrI w wz v k P bt a m c bx p) : Below w.heap.size w wz := by
  obtain ⟨l, h1, _⟩ := h.red.ex
  exact h1.bel
theorem RrI.rd (h : RrI w wz v k P bt a m c bx p) : Rd wz (.slice a m c) (ss p) := by
  have := h.row
  rw [show p.length = (ss p).length by simp [ss]] at this
  exact own_rd this
/-- Other premises are stored. -/
theorem RrI.store {a2 : Option Addr} {m2 c2 : Nat} {q : List Str} (h : RrI w wz v k P bt a m c bx p) (o : wz.ownsRow 0 9 1 (.slice a2 m2 c2) q.length (ss q)) (hm : m2 = q.length) : RrI w (wz.setCell ⟨bt, 0, none⟩ (.slice a2 m2 c2)) v k P bt a2 m2 c2 bx q := by
  have hs : ∀ g, g ≠ bt → (wz.setCell ⟨bt, 0, none⟩ (.slice a2 m2 c2)).heap[g]? = wz.heap[g]? := fun g hg => set_other hg
  have hstr : ∀ {B k2 : Nat} {v : Value} {xs : List Value}, wz.ownsRow B 9 1 v k2 xs → ∀ g, v.ownBlock = some g → g ≠ bt := fun o g hg => own_ne o hg h.box (by decide)
  obtain ⟨l, h1, h2, h3⟩ := h.red.ex
  have b1' : wz.heap[bt]? = some (.cells [.slice a m c, .string bx].toArray 41 (0, 0)) := h.box
  refine ⟨⟨l, ⟨h1.1, ⟨h1.2.1.os, h1.2.1.tape, h1.2.1.output, by simpa using h1.2.1.size, fun k hk => (hs k (by have := h.ge; omega)).trans (h1.2.1.block k hk)⟩, own_same2 h1.own fun k hk => hs k (h.ne k hk)⟩, h2, fun i t r ht hr => ⟨own_same (h3 i t r ht hr).1 fun k hk => hs k (hstr (h3 i t r ht hr).1 k hk), (h3 i t r ht hr).2⟩⟩,
    blk_setCell (k := 0) (u := .slice a2 m2 c2) b1', own_same o fun k hk => hs k (hstr o k hk), hm, h.ne, h.ge⟩
/-- The rule is appended. -/
theorem RrI.app {o : Obj} {ao : Option Addr} {n cap : Nat} {l : List PV} {so : Option Addr} {sc : Nat} {r : Gr} (h : RrI w wz (.slice so k sc) k P bt a m c bx p) (h1 : OP 41 w.heap.size w wz (.slice so k sc) l) (h2 : l.length = k) (h3 : ∀ (i : Nat) (t : PV) (r : Gr), l[i]? = some t → P[i]? = some r → wz.ownsRow 0 9 1 t.1 r.1.length (ss r.1) ∧ t.2 = .string (ba r.2))
    (hr : P[k]? = some r) (hp : r.1 = p) (hx : bx = ba r.2) (ha : OP 41 w.heap.size w w' (.slice ao n cap) (l ++ [(.slice a m c, .string bx)])) (hg : (wz.alloc o).grownBy w' (Value.slice so k sc).ownBlock) : RedI w w' (.slice ao n cap) (k + 1) P :=
  redI_app h1 h2 h3 (Below.refl _ _) (by have := h.row; rw [hp]; exact this) hr hx ha hg
theorem RrI.el (h : RrI w wz v k P bt a m c bx p) (h0 : 0 < p.length) : ∃ ga, a = some ⟨ga, 0, none⟩ := by
  have hr := h.row
  rw [← h.len] at hr
  obtain ⟨ga, e, _⟩ := own_at1 hr (by rw [h.len]; exact h0)
  exact ⟨ga, e⟩
theorem RrI.cel {ga : Nat} (h : RrI w wz v k P bt (some ⟨ga, 0, none⟩) m c bx p) {j : Nat} {y : Str} (hy : p[j]? = some y) : Hid (∀ W, Below wz.heap.size wz W → W.cell? ⟨bt, 0, none⟩ = some (.slice (some ⟨ga, 0, none⟩) m c) ∧ W.cell? ⟨ga, j, none⟩ = some (.string (ba y))) := fun W hW => by
  have h2 := h.at hW
  have hr := h2.row
  rw [← h2.len] at hr
  exact ⟨h2.cells.1.1, own_cell hr (by simp [ss, hy])⟩
end
theorem rr_call {w wz : World} {v : Value} {k : Nat} {P : List Gr} {bt : Nat} {a : Option Addr} {m c j : Nat} {bx : ByteArray} {p q : List Str} {y : Str} {uo : Option Addr} {un uc : Nat} {U : List Str} {ro : Option Addr} {rn rc : Nat} {rs : List Gr} (hI : InU w uo un uc U ro rn rc rs) (h : RrI w wz v k P bt a m c bx p) (hj : j < m) (hm6 : m ≤ 1000000) (hbx : bx = ba y) (hq : p.eraseIdx j = q) :
    Hid (Calls Try.prog 59 #[.slice a m c, .int .i64 j] wz fun e w2 => ∃ bo k3 bc, e = .returned (.slice bo k3 bc) ∧ w2.cell? ⟨bt, 1, none⟩ = some (.string bx) ∧
      Hid (Calls Try.prog 29 #[.slice uo un uc, .slice ro rn rc, .agg #[.slice bo k3 bc, .string bx]] w2 fun e w3 => e = .returned (.bool (entB U rs (q, y))) ∧ (w3.cell? ⟨bt, 0, none⟩ = some (.slice a m c) ∧ w3.frozen? ⟨bt, 0, none⟩ = false) ∧ Hid (RrI w w3 v k P bt a m c bx p) ∧ Hid (RrI w (w3.setCell ⟨bt, 0, none⟩ (.slice bo k3 bc)) v k P bt bo k3 bc bx q))) := by
  refine hid_of ((rwo_any a m c p j wz h.rd hj hm6).mono ?_)
  rintro e w2 ⟨bo, k3, bc, rfl, hk3, ho⟩
  rw [hq] at ho
  have h2 := h.at ho.bel
  have hql : q.length = k3 := by
    rw [← hq, List.length_eraseIdx]
    have := h.len
    split <;> omega
  have hb2 := h2.bel
  have hown := ho.own
  rw [show (ss q).length = q.length by simp [ss]] at hown
  have hrd : Rd w2 (.slice bo k3 bc) (ss q) := own_rd ho.own
  refine ⟨bo, k3, bc, rfl, h2.cells.1.2, hid_of ?_⟩
  have hI2 := hI.at hb2
  rw [hbx]
  refine (rent_any uo un uc U ro rn rc rs bo k3 bc q y w2 hI2.ru hI.un hI2.rr hI.rn hrd (by omega) (entB U rs (q, y)) rfl).mono ?_
  rintro e w3 ⟨rfl, hb3⟩
  have hb3' : Below w2.heap.size w2 w3 := hb3
  have h3 := h2.at hb3'
  rw [hbx] at h3
  refine ⟨rfl, ⟨h3.cells.1.1, h3.cells.2⟩, hid_of h3, hid_of (h3.store (own_base (own_same hown fun g hg => hb3'.block g (own_lt hown hg))) hql.symm)⟩
theorem op_drew {E : TypeId} {B : Nat} {w0 w : World} {v : Value} {l : List PV} (h : OP E B w0 w v l) : OP E B w0 w.drew v l := ⟨h.1, h.2.1.drew, h.2.2.drew⟩
/-- A list of rules in memory and one round of the second loop: the parts of the slice, the rest, what follows. -/
theorem rr_parts {w : World} {oo : Option Addr} {n oc i : Nat} {Z : List Gr} (h : RuR w (.slice oo n oc) Z) (hi : i < n) : ∃ g o l A2, oo = some ⟨g, o, none⟩ ∧ l.length = n ∧ n ≤ oc ∧ oc ≤ 9223372036854775807 ∧
    Hid (∀ wx, (Instr.slice 23 (.slice (some ⟨g, o, none⟩) n oc) none (some (.int .i64 (i : Int))) none).run Try.prog wx = .ok (.slice (some ⟨g, o, none⟩) i oc) wx) ∧
    Hid (∀ wx, (Instr.slice 23 (.slice (some ⟨g, o, none⟩) n oc) (some (.int .i64 ((i : Int) + 1))) none none).run Try.prog wx = .ok (.slice A2 (n - (i + 1)) (oc - (i + 1))) wx) ∧
    Hid (∀ W, Below w.heap.size w W → PRd W (.slice (some ⟨g, o, none⟩) i oc) (l.take i)) ∧ Hid (∀ W, Below w.heap.size w W → PRd W (.slice A2 (n - (i + 1)) (oc - (i + 1))) (l.drop (i + 1))) ∧ Hid (∀ u ∈ prs l, u.oneCell' = true) ∧
    Hid (∀ W ao m cap, Below w.heap.size w W → PRd W (.slice ao m cap) (l.take i ++ l.drop (i + 1)) → RuR W (.slice ao m cap) (Z.eraseIdx i)) := by
  obtain ⟨l, h1, h2, h3⟩ := h
  obtain ⟨c1, c2, c3⟩ := h1.cut
  obtain ⟨t, ht⟩ : ∃ t, l[i]? = some t := ⟨_, List.getElem?_eq_getElem (by omega)⟩
  obtain ⟨g, o, rfl, _, _⟩ := h1.get ht
  obtain ⟨A2, F2, G2⟩ := fro_rule g o n oc (i + 1) (by omega)
  have ec : ((i + 1 : Nat) : Int) = (i : Int) + 1 := by omega
  rw [ec] at F2
  have hone : ∀ u ∈ prs l, u.oneCell' = true := fun u hu => by
    unfold prs at hu
    obtain ⟨t, ht, hu⟩ := List.mem_flatMap.1 hu
    obtain ⟨j, hj⟩ := List.getElem?_of_mem ht
    obtain ⟨r, hr⟩ : ∃ r, Z[j]? = some r := ⟨_, List.getElem?_eq_getElem (by have := (List.getElem?_eq_some_iff.1 hj).1; omega)⟩
    obtain ⟨⟨ao, cap, e, _⟩, e2⟩ := h3 j t r hj hr
    simp only [List.mem_cons, List.not_mem_nil, or_false] at hu
    rcases hu with rfl | rfl
    · rw [e]; rfl
    · rw [e2]; rfl
  refine ⟨g, o, l, A2, rfl, by omega, c2, c3, hid_of (upto_rule g o n oc i (by omega)), hid_of F2, hid_of fun W hW => prd_take (h1.at hW) (by omega), hid_of fun W hW => prd_drop (h1.at hW) (by omega) G2, hid_of hone, hid_of fun W ao m cap hW hp => ?_⟩
  rw [← List.eraseIdx_eq_take_drop_succ] at hp
  refine ⟨_, hp, by rw [List.length_eraseIdx, List.length_eraseIdx, h2], fun j t r ht hr => ?_⟩
  rw [List.getElem?_eraseIdx] at ht hr
  by_cases e : j < i
  · rw [if_pos e] at ht hr
    exact ⟨(h3 j t r ht hr).1.at hW, (h3 j t r ht hr).2⟩
  · rw [if_neg e] at ht hr
    exact ⟨(h3 _ t r ht hr).1.at hW, (h3 _ t r ht hr).2⟩
theorem prs_one_sub {l m : List PV} (h : ∀ u ∈ prs l, u.oneCell' = true) (hs : ∀ t ∈ m, t ∈ l) : ∀ u ∈ prs m, u.oneCell' = true := fun u hu => by
  unfold prs at *
  obtain ⟨t, ht, hu⟩ := List.mem_flatMap.1 hu
  exact h u (List.mem_flatMap.2 ⟨t, hs t ht, hu⟩)
/-- The rule at a place, and whether the rest entails it. -/
theorem rr_ent {w w2 : World} {uo : Option Addr} {un uc : Nat} {U : List Str} {ro : Option Addr} {rn rc : Nat} {rs : List Gr} {g o n oc i : Nat} {Z Y : List Gr} {q : Gr} (hI : InU w uo un uc U ro rn rc rs) (hb : Below w.heap.size w w2) (h : RuR w2 (.slice (some ⟨g, o, none⟩) n oc) Z) (hq : Z[i]? = some q) (hl : q.1.length ≤ 1000000) :
    ∃ a m c bx, w2.cell? ⟨g, o + i * 2, none⟩ = some (.slice a m c) ∧ w2.cell? ⟨g, o + i * 2 + 1, none⟩ = some (.string bx) ∧ Hid (∀ W ao k cap, Below w2.heap.size w2 W → RuR W (.slice ao k cap) Y → k ≤ 1000000 → (W.cell? ⟨g, o + i * 2, none⟩ = some (.slice a m c) ∧ W.cell? ⟨g, o + i * 2 + 1, none⟩ = some (.string bx)) ∧
      Hid (Calls Try.prog 29 #[.slice uo un uc, .slice ao k cap, .agg #[.slice a m c, .string bx]] W fun e w3 => e = .returned (.bool (entB U Y q)) ∧ Below W.heap.size W w3)) := by
  obtain ⟨g', o', a, c, e, c0, c1, rr⟩ := h.get hq
  cases e
  refine ⟨a, _, c, _, c0, c1, hid_of fun W ao k cap hW hY hk => ⟨⟨(hW.cell (p := ⟨g, o + i * 2, none⟩) (World.block_lt_of_cell? _ _ c0)).trans c0, (hW.cell (p := ⟨g, o + i * 2 + 1, none⟩) (World.block_lt_of_cell? _ _ c1)).trans c1⟩, hid_of ?_⟩⟩
  have hbW := hb.trans (hW.mono hb.size)
  have hI2 := hI.at hbW
  exact rent_any uo un uc U ao k cap Y a _ c q.1 q.2 W hI2.ru hI.un hY hk (rr.at hW) hl (entB U Y q) rfl
end Go.Proofs.Ytedohggbpmcehaa

/- The reference's Reduce. Bounds on sizes alone. -/
namespace Go.Proofs.Ytedohggbpmcehaa
open Go.RowKit
set_option maxRecDepth 100000
set_option maxHeartbeats 1600000

/-- append of a row, inside a region that draws its order: what else stays. -/
theorem step_app3 {P : Program} {S E : TypeId} {z : Value} {eb : Nat} (T : Elem P S E z eb) {ops : Array Oper} {o : Oper} {a : Act} {w : World} {K : Act → World → Prop} {Q : Exit → Act → World → Prop} {F : Prop} (hgd : o.guard = none) (s x : Operand)
    (ho : o.op = .call { callee := .builtin .append, args := #[s, x], argTypes := #[S, S] })
    {B : Nat} {w0 : World} {v : Value} {l : List Value} (hv : a.eval s = v) (H : Ow E B w0 w v l) {vx : Value} {m : List Value} (hx : a.eval x = vx) (L : Rd w vx m) (h1 : ∀ u ∈ m, u.oneCell' = true) (hl : (l.length + m.length) * eb ≤ 140737488355328) (hl2 : l.length + m.length ≤ 140737488355328)
    (h : ∀ (ao : Option Addr) (n cap : Nat) (w' : World), n = l.length + m.length → Ow E B w0 w' (.slice ao n cap) (l ++ m) → w.grownBy w' v.ownBlock → K (a.put o.dst (.slice ao n cap)) w') :
    if Region.wanted o (yielded ops a.tmps) = true then Oper.wp P o a w K Q else F := by
  obtain ⟨i0, hi, hz0, hz1, hz2⟩ := info_parts T.info
  refine step_append_src _ hgd s x S S ho B E i0 z 1 eb T.und hi hz0 hz1 hz2 T.one (by decide) v l.length l hv H.own vx m.length m hx (L.srcs T h1) (by unfold maxLen; omega) (by omega) H.size ?_
  intro v2 w2 hown hg _ _
  have H2 := H.app hown rfl hg
  obtain ⟨ao, cap, rfl⟩ := own_shape hown
  exact h ao _ cap w2 rfl H2 hg
theorem strs_one (l : List Str) : ∀ u ∈ ss l, u.oneCell' = true := fun u hu => by obtain ⟨y, _, rfl⟩ := List.mem_map.1 hu; rfl
theorem rr_made {w wr wf : World} {oo : Option Addr} {k oc bt : Nat} {P : List Gr} {a : Option Addr} {m c B1 : Nat} {bx : ByteArray} {p : List Str} (h : RedI w wr (.slice oo k oc) k P) (b : Below wr.heap.size wr wf) (hb : wf.heap[bt]? = some (.cells #[.slice a m c, .string bx] 41 (0, 0))) (ho : wf.ownsRow B1 9 1 (.slice a m c) (ss p).length (ss p)) (hm : m = p.length) (hge : wr.heap.size ≤ bt) : RrI w wf (.slice oo k oc) k P bt a m c bx p := by
  rw [show (ss p).length = p.length by simp [ss]] at ho
  obtain ⟨l, h1, _⟩ := h.ex
  exact ⟨h.at b, hb, own_base ho, hm, fun g hg e => by have := (h1.own.lt g hg).2; omega, Nat.le_trans h1.bel.size hge⟩
theorem rr_A {w wr w6 : World} {oo : Option Addr} {k oc : Nat} {P : List Gr} {a : Option Addr} {m c : Nat} (bx : ByteArray) {p : List Str} (hw : Below w.heap.size w wr) (h : RedI w wr (.slice oo k oc) k P) (H : Ow 9 wr.heap.size wr w6 (.slice a m c) ([] ++ ss p)) (hm : m = p.length) :
    Hid (Below w.heap.size w w6) ∧ Hid (Below w.heap.size w (w6.alloc (.cells #[.slice none 0 0, .string { data := #[] }] 41))) ∧ Hid (Below w.heap.size w (w6.alloc (.cells #[.slice a m c, .string bx] 41))) ∧ Hid (RrI w (w6.alloc (.cells #[.slice a m c, .string bx] 41)) (.slice oo k oc) k P w6.heap.size a m c bx p) := by
  rw [List.nil_append] at H
  have b6 := H.bel
  have bw := hw.trans (b6.mono hw.size)
  have ba (o : Obj) : Below w.heap.size w (w6.alloc o) := bw.trans ((bel_alloc w6 o).mono bw.size)
  have br (o : Obj) : Below wr.heap.size wr (w6.alloc o) := b6.trans ((bel_alloc w6 o).mono b6.size)
  exact ⟨bw, ba _, ba _, rr_made h (br _) (heap_alloc_new w6 _) (H.own.alloc _) hm b6.size⟩
theorem rr_B {w wr wX w6 : World} {oo : Option Addr} {k oc b e : Nat} {P : List Gr} {a : Option Addr} {m c : Nat} (bx : ByteArray) {p : List Str} (hw : Below w.heap.size w wr) (h : RedI w wr (.slice oo k oc) k P) (hz : wX.heap[b]? = some (.cells #[.slice none 0 0, .string { data := #[] }] 41 (0, 0))) (hg : wX.grownBy w6 (some e)) (hne : b ≠ e) (hge : wr.heap.size ≤ b) (H : Ow 9 wr.heap.size wr w6 (.slice a m c) ([] ++ ss p)) (hm : m = p.length) :
    Hid (Below w.heap.size w w6) ∧ ((w6.cell? ⟨b, 0, none⟩ = some (.slice none 0 0) ∧ w6.cell? ⟨b, 1, none⟩ = some (.string { data := #[] })) ∧ (w6.frozen? ⟨b, 0, none⟩ = false ∧ w6.frozen? ⟨b, 1, none⟩ = false)) ∧ Hid (Below w.heap.size w ((w6.setCell ⟨b, 0, none⟩ (.slice a m c)).setCell ⟨b, 1, none⟩ (.string bx))) ∧
      Hid (RrI w ((w6.setCell ⟨b, 0, none⟩ (.slice a m c)).setCell ⟨b, 1, none⟩ (.string bx)) (.slice oo k oc) k P b a m c bx p) := by
  rw [List.nil_append] at H
  have b6 := H.bel
  have bw := hw.trans (b6.mono hw.size)
  have h1 : w6.heap[b]? = some (.cells [.slice none 0 0, .string { data := #[] }].toArray 41 (0, 0)) := (hg.block b (lt_of_block hz) (fun x => hne (by cases x; rfl))).trans hz
  have ho : ∀ g, g ≠ b → ((w6.setCell ⟨b, 0, none⟩ (.slice a m c)).setCell ⟨b, 1, none⟩ (.string bx)).heap[g]? = w6.heap[g]? := fun g hg => (set_other hg).trans (set_other hg)
  have br : Below wr.heap.size wr ((w6.setCell ⟨b, 0, none⟩ (.slice a m c)).setCell ⟨b, 1, none⟩ (.string bx)) := ⟨b6.os, b6.tape, b6.output, by simpa using b6.size, fun k hk => (ho k (by omega)).trans (b6.block k hk)⟩
  exact ⟨bw, ⟨⟨blk_cell h1 (j := 0) rfl, blk_cell h1 (j := 1) rfl⟩, blk_free h1 0, blk_free h1 1⟩, hw.trans (br.mono hw.size), rr_made h br (blk_setCell (k := 1) (u := .string bx) (blk_setCell (k := 0) (u := .slice a m c) h1)) (own_same H.own fun g hg2 => ho g (own_ne H.own hg2 h1 (by decide))) hm hge⟩
theorem rr_ne {d t : List Str} {x y : Str} {j : Nat} (h : SS (d ++ x :: t)) (hj : j < d.length) (hy : (d ++ x :: t)[j]? = some y) : y ≠ x := by
  rw [List.getElem?_append_left hj] at hy
  have h1 := (List.pairwise_append.1 h).2.2 y (List.mem_of_getElem? hy) x List.mem_cons_self
  rintro rfl
  exact str_irr _ h1
theorem rr_ss {U d t : List Str} {x : Str} (h : SS (d ++ x :: t) ∧ ∀ y ∈ d ++ x :: t, y ∈ U) : SS (d ++ t) ∧ ∀ y ∈ d ++ t, y ∈ U := by
  have hs : List.Sublist (d ++ t) (d ++ x :: t) := List.Sublist.append (List.Sublist.refl _) (List.sublist_cons_self _ _)
  exact ⟨ss_sub h.1 hs, fun y hy => h.2 y (hs.subset hy)⟩
theorem rred_any (uo : Option Addr) (un uc : Nat) (U : List Str) (ro : Option Addr) (rn rc : Nat) (rs : List Gr) (w : World) (h : InU w uo un uc U ro rn rc rs) (h0 : chkE U rs = 0) :
    Calls Try.prog 35 #[.slice uo un uc, .slice ro rn rc] w fun e w' => ∃ ao m cap, e = .returned (.slice ao m cap) ∧ RuR w' (.slice ao m cap) (redS U rs) ∧ Below w.heap.size w w' := by
  have hrl := h.rlen
  have hun := h.un
  have hrn := h.rn
  have HRow : Hid (∀ i, i < rn → ∃ g o a1 n1 d1 bx r, ro = some ⟨g, o, none⟩ ∧ rs[i]? = some r ∧ bx = ba r.2 ∧ n1 = r.1.length ∧ n1 ≤ d1 ∧ n1 ≤ 1000000 ∧ Hid (∀ W, Below w.heap.size w W → W.cell? ⟨g, o + i * 2, none⟩ = some (.slice a1 n1 d1) ∧ W.cell? ⟨g, o + i * 2 + 1, none⟩ = some (.string bx)) ∧ Hid (∀ W, Below w.heap.size w W → Rd W (.slice a1 n1 d1) (ss r.1)) ∧
      Hid (∀ k x, r.1[k]? = some x → ∃ gp op, a1 = some ⟨gp, op, none⟩ ∧ Hid (∀ W, Below w.heap.size w W → W.cell? ⟨gp, op + k, none⟩ = some (.string (ba x))))) := hid_of (fun i hi => by
    obtain ⟨g, o, a, c, r, e, hr, c0, c1, rr⟩ := h.rr.cel hi
    obtain ⟨_, q1, q2, q3⟩ := rds_open rr
    refine ⟨g, o, a, _, c, _, r, e, hr, rfl, rfl, q1, h.rl r (List.mem_of_getElem? hr), hid_of fun W hW => ⟨(hW.cell (p := ⟨g, o + i * 2, none⟩) (World.block_lt_of_cell? _ _ c0)).trans c0, (hW.cell (p := ⟨g, o + i * 2 + 1, none⟩) (World.block_lt_of_cell? _ _ c1)).trans c1⟩, hid_of fun W hW => rr.at hW, hid_of fun k x hx => ?_⟩
    obtain ⟨gp, op, e2, hg, hc⟩ := q3.resolve_left (fun e => by rw [e] at hx; simp at hx)
    exact ⟨gp, op, e2, hid_of fun W hW => (hW.cell (p := ⟨gp, op + k, none⟩) hg).trans (hc k x hx)⟩)
  have HOK := hid_of (chk_ok h0)
  have HRU := hid_of (chk_rules h0)
  have HRL := hid_of hrl
  have HI := hid_of h
  have H0 := hid_of h0
  obtain ⟨P, hP⟩ : ∃ P, P = rs.map (prS U rs) := ⟨_, rfl⟩
  have HP := hid_of hP
  have hrn2 : rn ≤ 9223372036854775807 := by omega
  clear h h0 hrl hP
  go_enter Try.func35, Try.ntmps35
  go_wp2
  go_loopw [5, 6, 7, 8, 9, 10] (fun ov iv v7 v8 v9 v10 wz => ∃ (k : Nat) (oo : Option Addr) (oc : Nat) (x7 x8 x9 x10 : Value), ov = .slice oo k oc ∧ iv = .int .i64 k ∧ v7 = x7 ∧ v8 = x8 ∧ v9 = x9 ∧ v10 = x10 ∧ k ≤ rn ∧ Hid (RedI w wz (.slice oo k oc) k P)) (fun _ iv _ _ _ _ _ => rn - (intOf iv).toNat)
  case atStart => exact ⟨0, _, _, _, _, _, _, rfl, rfl, rfl, rfl, rfl, rfl, Nat.zero_le _, hid_of ⟨[], op_empty 41 w, rfl, fun i t r ht => (by simp at ht)⟩⟩
  case round =>
    obtain ⟨k, oo, oc, x7, x8, x9, x10, rfl, rfl, rfl, rfl, rfl, rfl, hk, hri⟩ := hrel
    by_cases hlt : k < rn
    · have hd : decide (k < rn) = true := by simp; omega
      obtain ⟨g, o, a1, n1, d1, bx, r, rfl, hr, hbx, hn1, hd1, hn16, HCR, HRD, HPX⟩ := HRow.out k hlt
      have HR := hid_of hr
      have HBX := hid_of hbx
      have HN1 := hid_of hn1
      have HB0 : Hid (Below w.heap.size w wr) := hid_of (by obtain ⟨l, h1, _⟩ := hri.out.ex; exact h1.bel)
      clear hr hbx hn1
      have b0 : (0 : Int) ≤ (k : Int) := by omega
      have b1 : (k : Int) < (rn : Int) := by omega
      obtain ⟨c0, c1⟩ := HCR.out wr HB0.out
      go_wp2
      go_cut [7] from 14 to 80 (fun rv wx => ∃ bt a m c, rv = .pointer (some ⟨bt, 0, none⟩) ∧ Hid (RrI w wx (.slice oo k oc) k P bt a m c bx r.1))
      case first =>
        have K0 : Hid (Below w.heap.size w wr.drew) := hid_of HB0.out.drew
        have KA : Hid (Below w.heap.size w (wr.alloc (.cells #[] 9)).drew) := hid_of (HB0.out.trans ((bel_alloc wr _).mono HB0.out.size)).drew
        have KB : Hid (Below w.heap.size w ((wr.alloc (.cells #[] 9)).alloc (.cells #[.slice none 0 0, .string { data := #[] }] 41)).drew) := hid_of ((HB0.out.trans ((bel_alloc wr _).mono HB0.out.size)).alloc (by have := HB0.out.size; simp; omega) _).drew
        have KZ : Hid (Below w.heap.size w (wr.alloc (.cells #[.slice none 0 0, .string { data := #[] }] 41)).drew) := hid_of (HB0.out.trans ((bel_alloc wr _).mono HB0.out.size)).drew
        have KC : Hid (Below w.heap.size w ((wr.alloc (.cells #[.slice none 0 0, .string { data := #[] }] 41)).alloc (.cells #[] 9)).drew) := hid_of ((HB0.out.trans ((bel_alloc wr _).mono HB0.out.size)).alloc (by have := HB0.out.size; simp; omega) _).drew
        have OA := hid_of (ow_empty 9 wr).drew
        have OB := hid_of ((ow_empty 9 wr).alloc (.cells #[.slice none 0 0, .string { data := #[] }] 41)).drew
        have OC : Hid (Ow 9 wr.heap.size wr ((wr.alloc (.cells #[.slice none 0 0, .string { data := #[] }] 41)).alloc (.cells #[] 9)).drew (.slice (some ⟨wr.heap.size + 1, 0, none⟩) 0 0) []) := hid_of (by rw [show wr.heap.size + 1 = (wr.alloc (.cells #[.slice none 0 0, .string { data := #[] }] 41)).heap.size by simp]; exact ((ow_empty 9 (wr.alloc (.cells #[.slice none 0 0, .string { data := #[] }] 41))).start (Nat.le_refl wr.heap.size) (bel_alloc wr _) (by simp)).drew)
        have ZB : Hid (((wr.alloc (.cells #[] 9)).alloc (.cells #[.slice none 0 0, .string { data := #[] }] 41)).drew.heap[wr.heap.size + 1]? = some (.cells #[.slice none 0 0, .string { data := #[] }] 41 (0, 0))) := hid_of (by have := heap_alloc_new (wr.alloc (.cells #[] 9)) (.cells #[.slice none 0 0, .string { data := #[] }] 41); rw [show (wr.alloc (.cells #[] 9)).heap.size = wr.heap.size + 1 by simp] at this; exact this)
        have ZC : Hid (((wr.alloc (.cells #[.slice none 0 0, .string { data := #[] }] 41)).alloc (.cells #[] 9)).drew.heap[wr.heap.size]? = some (.cells #[.slice none 0 0, .string { data := #[] }] 41 (0, 0))) := hid_of (((bel_alloc (wr.alloc (.cells #[.slice none 0 0, .string { data := #[] }] 41)) (.cells #[] 9)).block wr.heap.size (by simp)).trans (heap_alloc_new wr _))
        go_region_held3 (fun X => X.cell? ⟨g, o + k * 2, none⟩ = some (.slice a1 n1 d1) ∧ X.cell? ⟨g, o + k * 2 + 1, none⟩ = some (.string bx)) (exact HCR.out _ (Hid.out (by with_reducible assumption))) (first
          | (refine step_app3 strsE (by rfl) (.tmp 20) (.tmp 25) (by rfl) (v := .slice (some ⟨wr.heap.size, 0, none⟩) 0 0) (l := []) (by kernel_rfl) OA.out (vx := .slice a1 n1 d1) (m := ss r.1) (by kernel_rfl) (HRD.out _ KA.out) (strs_one _) (by simp [ss]; rw [← HN1.out]; omega) (by simp [ss]; rw [← HN1.out]; omega) ?_; intro ao6 n6 cap6 w6 e1 e2 e3; obtain ⟨K1, K2, K3, K9⟩ := rr_A bx HB0.out hri.out e2 (by rw [e1]; simp [ss]); clear e1 e2 e3)
          | (refine step_app3 strsE (by rfl) (.tmp 20) (.tmp 25) (by rfl) (v := .slice (some ⟨wr.heap.size, 0, none⟩) 0 0) (l := []) (by kernel_rfl) OB.out (vx := .slice a1 n1 d1) (m := ss r.1) (by kernel_rfl) (HRD.out _ KB.out) (strs_one _) (by simp [ss]; rw [← HN1.out]; omega) (by simp [ss]; rw [← HN1.out]; omega) ?_; intro ao6 n6 cap6 w6 e1 e2 e3; obtain ⟨K1, ⟨⟨s0, s1⟩, s2, s3⟩, K3, K9⟩ := rr_B bx HB0.out hri.out ZB.out e3 (by simp) (by omega) e2 (by rw [e1]; simp [ss]); clear e1 e2 e3)
          | (refine step_app3 strsE (by rfl) (.tmp 20) (.tmp 25) (by rfl) (v := .slice (some ⟨wr.heap.size + 1, 0, none⟩) 0 0) (l := []) (by kernel_rfl) OC.out (vx := .slice a1 n1 d1) (m := ss r.1) (by kernel_rfl) (HRD.out _ KC.out) (strs_one _) (by simp [ss]; rw [← HN1.out]; omega) (by simp [ss]; rw [← HN1.out]; omega) ?_; intro ao6 n6 cap6 w6 e1 e2 e3; obtain ⟨K1, ⟨⟨s0, s1⟩, s2, s3⟩, K3, K9⟩ := rr_B bx HB0.out hri.out ZC.out e3 (by simp) (by omega) e2 (by rw [e1]; simp [ss]); clear e1 e2 e3))
        all_goals go_wp2_with fail
        all_goals go_meet
        all_goals exact ⟨_, _, _, _, rfl, K9⟩
      case rest =>
        obtain ⟨bt, a0, m0, cc0, rfl, hr0⟩ := hcut
        obtain ⟨F, hF⟩ : ∃ F, F = prH U rs r.2 [] r.1 := ⟨_, rfl⟩
        have HF := hid_of hF
        clear hF HB0 hri
        go_wp2
        go_loopw [8, 9, 10] (fun kv jv lv wq => ∃ (d : List Str) (k2 : Nat) (a : Option Addr) (m c : Nat) (x9 x10 : Value), kv = .int .i64 k2 ∧ jv = x9 ∧ lv = x10 ∧ k2 ≤ n1 ∧ Hid (prH U rs r.2 d (r.1.drop k2) = F) ∧ Hid (SS (d ++ r.1.drop k2) ∧ ∀ x ∈ d ++ r.1.drop k2, x ∈ U) ∧ Hid (d.length ≤ k2) ∧ Hid (RrI w wq (.slice oo k oc) k P bt a m c bx (d ++ r.1.drop k2))) (fun kv _ _ _ => n1 - (intOf kv).toNat)
        case atStart => exact ⟨[], 0, a0, m0, cc0, _, _, rfl, rfl, rfl, Nat.zero_le _, hid_of HF.out.symm, hid_of ⟨(HOK.out.2 r (List.mem_of_getElem? HR.out)).1, (HOK.out.2 r (List.mem_of_getElem? HR.out)).2.1⟩, hid_of (Nat.le_refl _), hr0⟩
        case round =>
          obtain ⟨d, k2, a, m, c, x9, x10, rfl, rfl, rfl, hk2, hpr, hsu, hdk, hrr⟩ := hrel
          by_cases hlt2 : k2 < n1
          · have hd2 : decide (k2 < n1) = true := by simp; omega
            obtain ⟨c0, c1⟩ := HCR.out _ hrr.out.bel
            obtain ⟨x, hx⟩ : ∃ x, r.1[k2]? = some x := ⟨_, List.getElem?_eq_getElem (by have := HN1.out; omega)⟩
            obtain ⟨t, ht⟩ : ∃ t, t = r.1.drop (k2 + 1) := ⟨_, rfl⟩
            have HT := hid_of ht
            have HX := hid_of hx
            have HDC : Hid (r.1.drop k2 = x :: t) := hid_of (by rw [ht]; exact drop_cons hx)
            rw [HDC.out] at hpr hsu hrr
            have HLM : Hid (d.length + t.length + 1 = m) := hid_of (by have := hrr.out.len; rw [List.length_append, List.length_cons] at this; omega)
            have HM6 : Hid (m ≤ 1000000) := hid_of (by
              have h1 := hrr.out.len
              rw [List.length_append, ← HDC.out, List.length_drop, ← HN1.out] at h1
              have := hdk.out
              omega)
            obtain ⟨ga, rfl⟩ := hrr.out.el (by rw [List.length_append, List.length_cons]; omega)
            obtain ⟨gp, op, rfl, HXC⟩ := HPX.out k2 x hx
            clear hx ht
            obtain ⟨dl, hdl⟩ : ∃ dl, dl = d.length := ⟨_, rfl⟩
            have HDL := hid_of hdl
            have hm6 := HM6.out
            have hlm : dl < m := by have := HLM.out; omega
            clear hdl
            have b2 : (0 : Int) ≤ (k2 : Int) := by omega
            have b3 : (k2 : Int) < (n1 : Int) := by omega
            go_wp2
            go_loopw [9, 10] (fun jv lv wz => ∃ (j : Nat) (x10 : Value), jv = .int .i64 j ∧ lv = x10 ∧ j ≤ dl ∧ Hid (RrI w wz (.slice oo k oc) k P bt (some ⟨ga, 0, none⟩) m c bx (d ++ x :: t))) (fun jv _ _ => m - (intOf jv).toNat)
            case atStart => exact ⟨0, _, rfl, rfl, Nat.zero_le _, hrr⟩
            case round =>
              obtain ⟨j, x10, rfl, rfl, hj, hrz⟩ := hrel
              have hd3 : decide (j < m) = true := by simp; omega
              obtain ⟨y, hy⟩ : ∃ y, (d ++ x :: t)[j]? = some y := ⟨_, List.getElem?_eq_getElem (by rw [List.length_append, List.length_cons]; have := HDL.out; omega)⟩
              have HK := hrz.out.cel hy
              obtain ⟨⟨e0, e1⟩, f0⟩ := hrz.out.cells
              have HK2 : Hid (∀ X, Below wr.heap.size wr X → X.cell? ⟨bt, 0, none⟩ = some (.slice (some ⟨ga, 0, none⟩) m c) ∧ X.cell? ⟨ga, j, none⟩ = some (.string (ba y)) ∧ X.cell? ⟨g, o + k * 2, none⟩ = some (.slice (some ⟨gp, op, none⟩) n1 d1) ∧ X.cell? ⟨gp, op + k2, none⟩ = some (.string (ba x))) := hid_of (fun X hX => by
                have hb := hrz.out.bel.trans (hX.mono hrz.out.bel.size)
                exact ⟨(HK.out X hX).1, (HK.out X hX).2, (HCR.out X hb).1, HXC.out X hb⟩)
              have K0 : Hid (Below wr.heap.size wr wr.drew) := hid_of (Below.refl _ _).drew
              obtain ⟨b1, hb1⟩ : ∃ b1, b1 = ba y := ⟨_, rfl⟩
              obtain ⟨b2, hb2⟩ : ∃ b2, b2 = ba x := ⟨_, rfl⟩
              rw [← hb1, ← hb2] at HK2
              have b4 : (0 : Int) ≤ (j : Int) := by omega
              have b5 : (j : Int) < (m : Int) := by omega
              by_cases hjd : j < dl
              · have hne : (b1.toList == b2.toList) = false := eq_f hb1 hb2 (rr_ne hsu.out.1 (by rw [← HDL.out]; exact hjd) hy)
                have HRN : Hid (RrI w wr.drew (.slice oo k oc) k P bt (some ⟨ga, 0, none⟩) m c bx (d ++ x :: t)) := hid_of (hrz.out.at K0.out)
                clear hy hb1 hb2 HK
                go_wp2
                go_region_held3 (fun X => X.cell? ⟨bt, 0, none⟩ = some (.slice (some ⟨ga, 0, none⟩) m c) ∧ X.cell? ⟨ga, j, none⟩ = some (.string b1) ∧ X.cell? ⟨g, o + k * 2, none⟩ = some (.slice (some ⟨gp, op, none⟩) n1 d1) ∧ X.cell? ⟨gp, op + k2, none⟩ = some (.string b2)) (exact HK2.out _ (Hid.out (by with_reducible assumption))) (fail)
                go_wp2
                go_roundw
                case rel => exact ⟨j + 1, _, by go_num, rfl, by omega, HRN⟩
                case measure => simp [intOf]; omega
              · have hjd2 : j = dl := by omega
                have hyx : y = x := by
                  rw [hjd2, HDL.out, List.getElem?_append_right (Nat.le_refl _), Nat.sub_self] at hy
                  simpa using hy.symm
                have heq : (b1.toList == b2.toList) = true := eq_t hb1 hb2 hyx
                have HCL := rr_call (j := j) (q := d ++ t) (y := r.2) HI.out (hrz.out.at K0.out) (by omega) hm6 HBX.out (by rw [hjd2, HDL.out, List.eraseIdx_append_of_length_le (Nat.le_refl _), Nat.sub_self]; rfl)
                obtain ⟨b, hb⟩ : ∃ b, b = entB U rs (d ++ t, r.2) := ⟨_, rfl⟩
                rw [← hb] at HCL
                have HB := hid_of hb
                clear hy hb1 hb2 HK hyx hb hjd2
                cases b
                · have HNX : Hid (prH U rs r.2 (d ++ [x]) t = F) := hid_of (by rw [← hpr.out, prH_no HB.out.symm])
                  go_wp2
                  go_region_held3 (fun X => X.cell? ⟨bt, 0, none⟩ = some (.slice (some ⟨ga, 0, none⟩) m c) ∧ X.cell? ⟨ga, j, none⟩ = some (.string b1) ∧ X.cell? ⟨g, o + k * 2, none⟩ = some (.slice (some ⟨gp, op, none⟩) n1 d1) ∧ X.cell? ⟨gp, op + k2, none⟩ = some (.string b2)) (exact HK2.out _ (Hid.out (by with_reducible assumption))) (fail)
                  obtain ⟨k0, k1, _, _⟩ := HK2.out _ K0.out
                  go_wp2_with (first
                    | (go_at_call 59; ((with_reducible refine (HCL.out).mono ?_); (rintro ee w2 ⟨bo, k3, bc, rfl, e2, HE⟩)))
                    | (go_at_call 29; ((with_reducible refine (HE.out).mono ?_); (rintro ee w3 ⟨rfl, ⟨m0, m1⟩, J3, J4⟩))))
                  go_roundw
                  case rel => exact ⟨d ++ [x], k2 + 1, some ⟨ga, 0, none⟩, m, c, _, _, by go_num, rfl, rfl, by omega, by rw [← HT.out]; exact HNX, by rw [← HT.out, List.append_assoc]; exact hsu, hid_of (by rw [List.length_append, List.length_singleton]; have := hdk.out; omega), by rw [← HT.out, List.append_assoc]; exact J3⟩
                  case measure => simp [intOf]; omega
                · have HNX : Hid (prH U rs r.2 d t = F) := hid_of (by rw [← hpr.out, prH_yes HB.out.symm])
                  go_wp2
                  go_region_held3 (fun X => X.cell? ⟨bt, 0, none⟩ = some (.slice (some ⟨ga, 0, none⟩) m c) ∧ X.cell? ⟨ga, j, none⟩ = some (.string b1) ∧ X.cell? ⟨g, o + k * 2, none⟩ = some (.slice (some ⟨gp, op, none⟩) n1 d1) ∧ X.cell? ⟨gp, op + k2, none⟩ = some (.string b2)) (exact HK2.out _ (Hid.out (by with_reducible assumption))) (fail)
                  obtain ⟨k0, k1, _, _⟩ := HK2.out _ K0.out
                  go_wp2_with (first
                    | (go_at_call 59; ((with_reducible refine (HCL.out).mono ?_); (rintro ee w2 ⟨bo, k3, bc, rfl, e2, HE⟩)))
                    | (go_at_call 29; ((with_reducible refine (HE.out).mono ?_); (rintro ee w3 ⟨rfl, ⟨m0, m1⟩, J3, J4⟩))))
                  go_roundw
                  case rel => exact ⟨d, k2 + 1, bo, k3, bc, _, _, by go_num, rfl, rfl, by omega, by rw [← HT.out]; exact HNX, by rw [← HT.out]; exact hid_of (rr_ss hsu.out), hid_of (by have := hdk.out; omega), by rw [← HT.out]; exact J4⟩
                  case measure => simp [intOf]; omega
          · have hd2 : decide (k2 < n1) = false := by simp; omega
            obtain ⟨c0, c1⟩ := HCR.out _ hrr.out.bel
            have HDN : Hid (r.1.drop k2 = []) := hid_of (List.drop_of_length_le (by have := HN1.out; omega))
            rw [HDN.out, List.append_nil] at hrr
            have HDF : Hid (d = F) := hid_of (by have := hpr.out; rw [HDN.out, prH] at this; exact this)
            have HPK : Hid (P[k]? = some (prS U rs r)) := hid_of (by rw [HP.out, List.getElem?_map, HR.out]; rfl)
            have HPD : Hid ((prS U rs r).1 = d) := hid_of (by rw [HDF.out, HF.out]; rfl)
            obtain ⟨⟨e0, e1⟩, f0⟩ := hrr.out.cells
            obtain ⟨l, hl1, hl2, hl3⟩ := hrr.out.red.ex
            have HL1 := hid_of hl1
            have HL2 := hid_of hl2
            have HL3 := hid_of hl3
            clear hl1 hl2 hl3
            go_wp2_with (at_builtin; (refine wpList_pr ruE2 rfl (.tmp 77) (.tmp 79) rfl (v := .slice oo k oc) (l := l) rfl (HL1.out.later (bel_alloc _ _)) (vx := .slice (some ⟨wr.heap.size, 0, none⟩) 1 1) (m := [(.slice a m c, .string bx)]) rfl prd_new (by intro u hu; simp [prs] at hu; rcases hu with rfl | rfl <;> rfl) (by rw [HL2.out]; simp only [List.length_singleton]; omega) (by rw [HL2.out]; simp only [List.length_singleton]; omega) ?_); intro ao2 n3 cap2 w5 q1 q2 q3; have HN3 : Hid (n3 = k + 1) := hid_of (by rw [HL2.out] at q1; simpa using q1); have R5 := hid_of (hrr.out.app HL1.out HL2.out HL3.out HPK.out HPD.out HBX.out q2 q3); clear q1 q2 q3)
            have EN := HN3.out
            subst EN
            go_roundw
            case rel => exact ⟨k + 1, ao2, cap2, _, _, _, _, rfl, by go_num, rfl, rfl, rfl, rfl, by omega, R5⟩
            case measure => simp [intOf]; omega
    · have hd : decide (k < rn) = false := by simp; omega
      obtain rfl : rn = k := by omega
      have HPL : Hid (P.length = rn) := hid_of (by rw [HP.out, List.length_map, HRL.out])
      have HR0 := hid_of (hri.out.ru HPL.out.symm)
      have HPS : Hid (∀ r ∈ P, r.1.length ≤ 1000000) := hid_of (fun q hq => by
        rw [HP.out] at hq
        obtain ⟨r, hr, rfl⟩ := List.mem_map.1 hq
        exact Nat.le_trans (prS_sub U rs r).length_le (HI.out.rl r hr))
      go_wp2
      go_loopw [5, 11, 12] (fun ov iv rv wz => ∃ (t i n : Nat) (oo : Option Addr) (oc : Nat) (x12 : Value), ov = .slice oo n oc ∧ iv = .int .i64 i ∧ rv = x12 ∧ t ≤ rn ∧ i ≤ n ∧ n ≤ rn ∧ Hid (i = (rmS U P t).length ∧ n = i + (rn - t)) ∧ Hid (RuR wz (.slice oo n oc) (rmS U P t ++ P.drop t)) ∧ Hid (Below w.heap.size w wz)) (fun ov iv _ _ => sliceLen (some ov) - (intOf iv).toNat)
      case atStart => exact ⟨0, 0, rn, oo, oc, _, rfl, rfl, rfl, Nat.zero_le _, Nat.zero_le _, Nat.le_refl _, hid_of ⟨rfl, by omega⟩, hid_of HR0.out.1, hid_of HR0.out.2⟩
      case round =>
        obtain ⟨t, i, n, oo, oc, x12, rfl, rfl, rfl, ht, hin, hnr, hil, hru, hbw⟩ := hrel
        by_cases hlt2 : i < n
        · have hd2 : decide (i < n) = true := by simp; omega
          have htr : t < rn := by have := hil.out; omega
          obtain ⟨q, hq⟩ : ∃ q, P[t]? = some q := ⟨_, List.getElem?_eq_getElem (by have := HPL.out; omega)⟩
          have HQ := hid_of hq
          have HZI : Hid ((rmS U P t ++ P.drop t)[i]? = some q) := hid_of (by rw [List.getElem?_append_right (by have := hil.out; omega), hil.out.1, Nat.sub_self, drop_cons hq]; rfl)
          have HZE : Hid ((rmS U P t ++ P.drop t).eraseIdx i = rmS U P t ++ P.drop (t + 1)) := hid_of (by rw [hil.out.1, List.eraseIdx_append_of_length_le (Nat.le_refl _), Nat.sub_self, drop_cons hq]; rfl)
          obtain ⟨g, o, l, A2, rfl, hll, hnc, hoc, HU, HF, HT1, HT2, H1C, HRU2⟩ := rr_parts hru.out hlt2
          obtain ⟨a, m, c, bx, c0, c1, HEN⟩ := rr_ent (Y := rmS U P t ++ P.drop (t + 1)) HI.out hbw.out hru.out HZI.out (HPS.out q (List.mem_of_getElem? hq))
          clear hq
          have U1 := HU.out
          have F2 := HF.out
          obtain ⟨q2, hq2⟩ : ∃ q2, q2 = n - (i + 1) := ⟨_, rfl⟩
          obtain ⟨c2, hc2⟩ : ∃ c2, c2 = oc - (i + 1) := ⟨_, rfl⟩
          rw [← hq2, ← hc2] at F2 HT2
          have hq3 : q2 + i + 1 = n := by omega
          have hqx : q2 + i + 1 ≤ n := by omega
          have hqy : n ≤ q2 + i + 1 := by omega
          have HLT : Hid ((l.take i).length = i) := hid_of (by rw [List.length_take]; omega)
          have HLD : Hid ((l.drop (i + 1)).length = q2) := hid_of (by rw [List.length_drop]; omega)
          have b0 : (0 : Int) ≤ (i : Int) := by omega
          have s2 : IntKind.i64.wrap ((i : Int) + 1) = (i : Int) + 1 := IntWalk.i64_in _ (by omega)
          have s3 : IntKind.i64.wrap ((i : Int) - 1) = (i : Int) - 1 := IntWalk.i64_in _ (by omega)
          have HCC : Hid (∀ W, Below wr.heap.size wr W → W.cell? ⟨g, o + i * 2, none⟩ = some (.slice a m c) ∧ W.cell? ⟨g, o + i * 2 + 1, none⟩ = some (.string bx)) := hid_of (fun W hW => ⟨(hW.cell (p := ⟨g, o + i * 2, none⟩) (World.block_lt_of_cell? _ _ c0)).trans c0, (hW.cell (p := ⟨g, o + i * 2 + 1, none⟩) (World.block_lt_of_cell? _ _ c1)).trans c1⟩)
          clear hq2 hc2 hq3 hll HU HF
          go_wp2
          go_cut [12] from 81 to 106 (fun rv wx => ∃ ao3 cap3, rv = .slice ao3 (n - 1) cap3 ∧ Hid (Below wr.heap.size wr wx) ∧ Hid (RuR wx (.slice ao3 (n - 1) cap3) (rmS U P t ++ P.drop (t + 1))))
          case first =>
            go_region_law (first
              | (refine step_pr ruE2 (by kernel_rfl) (.tmp 87) (.tmp 90) (by kernel_rfl) (v := .slice (some ⟨wr.heap.size, 0, none⟩) 0 0) (l := []) (by kernel_rfl) (op_drew (op_empty 41 wr)) (vx := .slice (some ⟨g, o, none⟩) i oc) (m := l.take i) (by kernel_rfl) (HT1.out _ (bel_alloc wr _).drew) (prs_one_sub H1C.out fun u hu => List.mem_of_mem_take hu) (by rw [HLT.out]; simp; omega) (by rw [HLT.out]; simp; omega) ?_; intro ao1 n1 cap1 w1 e1 h5 _; have HN1 : Hid (n1 = i) := hid_of (by rw [HLT.out] at e1; simpa using e1); have O1 := hid_of h5; clear e1 h5)
              | (refine step_pr ruE2 (by kernel_rfl) (.tmp 91) (.tmp 95) (by kernel_rfl) (v := .slice ao1 n1 cap1) (l := [] ++ l.take i) (by kernel_rfl) O1.out (vx := .slice A2 q2 c2) (m := l.drop (i + 1)) (by kernel_rfl) (HT2.out _ O1.out.bel) (prs_one_sub H1C.out fun u hu => List.mem_of_mem_drop hu) (by rw [List.nil_append, HLT.out, HLD.out]; omega) (by rw [List.nil_append, HLT.out, HLD.out]; omega) ?_; intro ao3 n3 cap3 w3 e1 h5 _; have HN3 : Hid (n3 = n - 1) := hid_of (by rw [List.nil_append, HLT.out, HLD.out] at e1; omega); have O3 := hid_of h5; clear e1 h5))
            all_goals go_wp2_with fail
            all_goals go_meet
            all_goals exact ⟨ao3, cap3, by rw [HN3.out], hid_of O3.out.bel, hid_of (by
              rw [← HZE.out, ← HN3.out]
              exact HRU2.out _ _ _ _ O3.out.bel (by have := O3.out.prd; simpa using this))⟩
          case rest =>
            obtain ⟨ao3, cap3, rfl, HB3, HR3⟩ := hcut
            obtain ⟨k0, k1⟩ := HCC.out _ HB3.out
            obtain ⟨_, HE⟩ := HEN.out _ _ _ _ HB3.out HR3.out (by omega)
            obtain ⟨b, hb⟩ : ∃ b, b = entB U (rmS U P t ++ P.drop (t + 1)) q := ⟨_, rfl⟩
            rw [← hb] at HE
            have HB := hid_of hb
            clear hb
            cases b
            · have HNX : Hid (rmS U P (t + 1) = rmS U P t ++ [q]) := hid_of (rmS_no HQ.out HB.out.symm)
              go_wp2_with (go_at_call 29; ((with_reducible refine (HE.out).mono ?_); (rintro ee w4 ⟨rfl, q4⟩)); have B4 := hid_of q4; clear q4)
              go_roundw
              case rel => exact ⟨t + 1, i + 1, n, some ⟨g, o, none⟩, oc, _, rfl, by go_num, rfl, by omega, by omega, hnr, hid_of (by rw [HNX.out, List.length_append, List.length_singleton, ← hil.out.1]; have := hil.out.2; omega), hid_of (by rw [HNX.out, List.append_assoc, List.singleton_append, ← drop_cons HQ.out]; exact (hru.out.at HB3.out).at B4.out), hid_of (hbw.out.trans (Below.mono (HB3.out.trans (B4.out.mono HB3.out.size)) hbw.out.size))⟩
              case measure => simp [intOf, sliceLen]; omega
            · have HNX : Hid (rmS U P (t + 1) = rmS U P t) := hid_of (rmS_yes HQ.out HB.out.symm)
              go_wp2_with (go_at_call 29; ((with_reducible refine (HE.out).mono ?_); (rintro ee w4 ⟨rfl, q4⟩)); have B4 := hid_of q4; clear q4)
              go_roundw
              case rel => exact ⟨t + 1, i, n - 1, ao3, cap3, _, rfl, by go_num, rfl, by omega, by omega, by omega, hid_of (by rw [HNX.out, ← hil.out.1]; have := hil.out.2; omega), hid_of (by rw [HNX.out]; exact HR3.out.at B4.out), hid_of (hbw.out.trans (Below.mono (HB3.out.trans (B4.out.mono HB3.out.size)) hbw.out.size))⟩
              case measure => simp [intOf, sliceLen]; omega
        · have hd2 : decide (i < n) = false := by simp; omega
          have htr : t = rn := by have := hil.out; omega
          have HFI : Hid (RuR wr (.slice oo n oc) (redS U rs) ∧ Below w.heap.size w wr) := hid_of ⟨by
            have h1 := hru.out
            rw [htr, List.drop_of_length_le (by have := HPL.out; omega), List.append_nil, HP.out, HRL.out] at h1
            exact h1, hbw.out⟩
          clear htr
          go_wp2
          go_ret
          exact ⟨oo, n, oc, rfl, HFI.out⟩
end Go.Proofs.Ytedohggbpmcehaa

/- The reference's Name, Set, Rule, Check. Bounds on sizes alone. -/
namespace Go.Proofs.Ytedohggbpmcehaa
open Go.RowKit

set_option maxRecDepth 100000 in
theorem rname_any (s : ByteArray) (w : World) (hs : s.size ≤ maxLen) : Calls Try.prog 42 #[.string s] w fun e w' => e = .returned (.bool (isName (strBytes s))) ∧ w' = w := by
  unfold maxLen at hs
  obtain ⟨r, hr⟩ : ∃ r, r = isName (strBytes s) := ⟨_, rfl⟩
  rw [← hr]
  have HR := hid_of hr
  clear hr
  by_cases h0 : s.size = 0
  · have RF : Hid (r = false) := hid_of (by
      rw [HR.out, Bool.eq_false_iff]; intro h; have := ((isName_iff _).1 h).1; rw [strBytes_length] at this; omega)
    have d0 : decide ((s.size : Int) < 1) = true := decide_eq_true (by omega)
    go_enter Try.func42, Try.ntmps42
    go_wp2
    go_ret
    exact ⟨by rw [RF.out] <;> rfl, rfl⟩
  by_cases h16 : 16 < s.size
  · have RF : Hid (r = false) := hid_of (by
      rw [HR.out, Bool.eq_false_iff]; intro h; have := ((isName_iff _).1 h).2.1; rw [strBytes_length] at this; omega)
    have d0 : decide ((s.size : Int) < 1) = false := decide_eq_false (by omega)
    have d1 : decide ((s.size : Int) > 16) = true := decide_eq_true (by omega)
    go_enter Try.func42, Try.ntmps42
    go_wp2
    go_ret
    exact ⟨by rw [RF.out] <;> rfl, rfl⟩
  have d0 : decide ((s.size : Int) < 1) = false := decide_eq_false (by omega)
  have d1 : decide ((s.size : Int) > 16) = false := decide_eq_false (by omega)
  have hp : 0 < s.size := by omega
  obtain ⟨y, hy⟩ : ∃ y : Int, y = ((s[0]).toNat : Int) := ⟨_, rfl⟩
  have HY : Hid ((strBytes s)[0]? = some y) := hid_of (by rw [strBytes_at s 0 hp, hy])
  have hys : ((s[0]).toNat : Int) = y := hy.symm
  clear hy
  have HP := hid_of hp
  have H16 := hid_of h16
  obtain ⟨q, hq⟩ : ∃ q, q = isl y := ⟨_, rfl⟩
  have HQ := hid_of hq
  have hsp : (q = true ∧ 97 ≤ y ∧ y ≤ 122) ∨ (q = false ∧ y < 97) ∨ (q = false ∧ 97 ≤ y ∧ 122 < y) := by
    rw [hq]
    by_cases h1 : 97 ≤ y
    · by_cases h2 : y ≤ 122
      · exact .inl ⟨by simp [isl]; omega, h1, h2⟩
      · exact .inr (.inr ⟨by simp [isl]; omega, h1, by omega⟩)
    · exact .inr (.inl ⟨by simp [isl]; omega, by omega⟩)
  clear hq
  rcases hsp with ⟨rfl, e1, e2⟩ | ⟨rfl, e1⟩ | ⟨rfl, e1, e2⟩
  rotate_left
  · have RF : Hid (r = false) := hid_of (by
      rw [HR.out, Bool.eq_false_iff]; intro h; have := ((isName_iff _).1 h).2.2.1 y HY.out; rw [← HQ.out] at this; exact absurd this (by simp))
    have dA : decide (y < 97) = true := decide_eq_true (by omega)
    go_enter Try.func42, Try.ntmps42
    go_wp2
    go_ret
    exact ⟨by rw [RF.out] <;> rfl, rfl⟩
  · have RF : Hid (r = false) := hid_of (by
      rw [HR.out, Bool.eq_false_iff]; intro h; have := ((isName_iff _).1 h).2.2.1 y HY.out; rw [← HQ.out] at this; exact absurd this (by simp))
    have dA : decide (y < 97) = false := decide_eq_false (by omega)
    have dB : decide (y > 122) = true := decide_eq_true (by omega)
    go_enter Try.func42, Try.ntmps42
    go_wp2
    go_ret
    exact ⟨by rw [RF.out] <;> rfl, rfl⟩
  have dA : decide (y < 97) = false := decide_eq_false (by omega)
  have dB : decide (y > 122) = false := decide_eq_false (by omega)
  go_enter Try.func42, Try.ntmps42
  go_wp2
  clear hys
  go_loopw [3] (fun iv wr => ∃ (i : Nat), i ≤ s.size ∧ iv = .int .i64 i ∧ wr = w ∧ Hid (∀ (j : Nat) (c : Int), j < i → (strBytes s)[j]? = some c → inw c = true)) (fun iv _ => s.size - (intOf iv).toNat)
  case atStart => exact ⟨0, Nat.zero_le _, rfl, rfl, hid_of (fun j c hj => by omega)⟩
  case round =>
    obtain ⟨i, hi, rfl, rfl, hall⟩ := hrel
    have HALL := hid_of hall.out
    clear hall
    by_cases hlt : i < s.size
    · obtain ⟨x, hx⟩ : ∃ x : Int, x = ((s[i]).toNat : Int) := ⟨_, rfl⟩
      have HX : Hid ((strBytes s)[i]? = some x) := hid_of (by rw [strBytes_at s i hlt, hx])
      have hxs : ((s[i]).toNat : Int) = x := hx.symm
      clear hx
      have HLT := hid_of hlt
      have hcs : (97 ≤ x ∧ x ≤ 122) ∨ (48 ≤ x ∧ x ≤ 57) ∨ (x = 45) ∨ (x < 48 ∧ x ≠ 45) ∨ (57 < x ∧ x < 97) ∨ (122 < x) := by omega
      rcases hcs with hcs | hcs | hcs | hcs | hcs | hcs
      · have HI : Hid (inw x = true) := hid_of (by unfold inw isl; simp; omega)
        have ta : decide (x < 97) = false := by simp; omega
        have tb : decide (x > 122) = false := by simp; omega
        clear hcs
        go_wp2
        go_roundw
        case rel => have := HLT.out; exact ⟨i + 1, by omega, by go_num, trivial, hid_of (fun j c hj hc => by
          by_cases e : j = i
          · subst e; rw [HX.out] at hc; cases hc; exact HI.out
          · exact HALL.out j c (by omega) hc)⟩
        case measure => have := HLT.out; simp [intOf]; omega
      · have HI : Hid (inw x = true) := hid_of (by unfold inw isl; simp; omega)
        have ta : decide (x < 97) = true := by simp; omega
        have tc : decide (x < 48) = false := by simp; omega
        have td : decide (x > 57) = false := by simp; omega
        clear hcs
        go_wp2
        go_roundw
        case rel => have := HLT.out; exact ⟨i + 1, by omega, by go_num, trivial, hid_of (fun j c hj hc => by
          by_cases e : j = i
          · subst e; rw [HX.out] at hc; cases hc; exact HI.out
          · exact HALL.out j c (by omega) hc)⟩
        case measure => have := HLT.out; simp [intOf]; omega
      · have HI : Hid (inw x = true) := hid_of (by unfold inw isl; simp; omega)
        have ta : decide (x < 97) = true := by simp; omega
        have tc : decide (x < 48) = true := by simp; omega
        have te : (x != 45) = false := by simp; omega
        clear hcs
        go_wp2
        go_roundw
        case rel => have := HLT.out; exact ⟨i + 1, by omega, by go_num, trivial, hid_of (fun j c hj hc => by
          by_cases e : j = i
          · subst e; rw [HX.out] at hc; cases hc; exact HI.out
          · exact HALL.out j c (by omega) hc)⟩
        case measure => have := HLT.out; simp [intOf]; omega
      · have HI : Hid (inw x = false) := hid_of (by unfold inw isl; simp; omega)
        have ta : decide (x < 97) = true := by simp; omega
        have tc : decide (x < 48) = true := by simp; omega
        have te : (x != 45) = true := by simp; omega
        clear hcs
        have RF : Hid (r = false) := hid_of (by
          rw [HR.out, Bool.eq_false_iff]; intro h; have := ((isName_iff _).1 h).2.2.2 i x HX.out; rw [HI.out] at this; exact absurd this (by simp))
        go_wp2
        go_ret
        exact ⟨by rw [RF.out] <;> rfl, rfl⟩
      · have HI : Hid (inw x = false) := hid_of (by unfold inw isl; simp; omega)
        have ta : decide (x < 97) = true := by simp; omega
        have tc : decide (x < 48) = false := by simp; omega
        have td : decide (x > 57) = true := by simp; omega
        have te : (x != 45) = true := by simp; omega
        clear hcs
        have RF : Hid (r = false) := hid_of (by
          rw [HR.out, Bool.eq_false_iff]; intro h; have := ((isName_iff _).1 h).2.2.2 i x HX.out; rw [HI.out] at this; exact absurd this (by simp))
        go_wp2
        go_ret
        exact ⟨by rw [RF.out] <;> rfl, rfl⟩
      · have HI : Hid (inw x = false) := hid_of (by unfold inw isl; simp; omega)
        have ta : decide (x < 97) = false := by simp; omega
        have tb : decide (x > 122) = true := by simp; omega
        have tc : decide (x < 48) = false := by simp; omega
        have td : decide (x > 57) = true := by simp; omega
        have te : (x != 45) = true := by simp; omega
        clear hcs
        have RF : Hid (r = false) := hid_of (by
          rw [HR.out, Bool.eq_false_iff]; intro h; have := ((isName_iff _).1 h).2.2.2 i x HX.out; rw [HI.out] at this; exact absurd this (by simp))
        go_wp2
        go_ret
        exact ⟨by rw [RF.out] <;> rfl, rfl⟩
    · obtain rfl : s.size = i := by omega
      have RT : Hid (r = true) := hid_of (by
        rw [HR.out, isName_iff, strBytes_length]
        exact ⟨HP.out, by have := H16.out; omega, fun c hc => by rw [HY.out] at hc; cases hc; exact HQ.out.symm, fun j c hc => HALL.out j c (by have := (List.getElem?_eq_some_iff.1 hc).1; rw [strBytes_length] at this; exact this) hc⟩)
      go_wp2
      go_ret
      exact ⟨by rw [RT.out] <;> rfl, rfl⟩

set_option maxRecDepth 100000 in
theorem rset_any (uo : Option Addr) (un uc : Nat) (U : List Str) (so : Option Addr) (sn sc : Nat) (s : List Str) (w : World) (hU : Rd w (.slice uo un uc) (ss U)) (hS : Rd w (.slice so sn sc) (ss s)) :
    Calls Try.prog 19 #[.slice uo un uc, .slice so sn sc] w fun e w' => e = .returned (.int .i64 (setE U s : Nat)) ∧ Below w.heap.size w w' := by
  obtain ⟨b, hb⟩ : ∃ b, b = ssB s := ⟨_, rfl⟩
  obtain ⟨c, hc⟩ : ∃ c, c = subB s U := ⟨_, rfl⟩
  have HA : Hid (Calls Try.prog 43 #[.slice so sn sc] w fun e w' => e = .returned (.bool b) ∧ Below w.heap.size w w') := hid_of (by rw [hb]; exact rsorted_any so sn sc s w hS)
  have HB : Hid (∀ W, Below w.heap.size w W → Calls Try.prog 25 #[.slice so sn sc, .slice uo un uc] W fun e w' => e = .returned (.bool c) ∧ W = w') := hid_of (fun W h => by rw [hc]; exact rsub_any so sn sc s uo un uc U W (hS.at h) (hU.at h))
  obtain ⟨q, hq⟩ : ∃ q, q = setE U s := ⟨_, rfl⟩
  rw [← hq]
  have HQ : Hid (q = if b = true then (if c = true then 0 else 3) else 1) := hid_of (by
    rw [hq, hb, hc]
    unfold setE ssB
    by_cases h1 : SS s
    · rw [if_neg (by simpa using h1)]
      by_cases h2 : ∀ x ∈ s, x ∈ U
      · rw [if_neg (by simpa using h2), decide_eq_true h1, subB_iff.2 h2]; rfl
      · rw [if_pos h2, decide_eq_true h1]
        have : subB s U = false := by rw [Bool.eq_false_iff]; intro h; exact h2 (subB_iff.1 h)
        rw [this]; rfl
    · rw [if_pos h1, decide_eq_false h1]; rfl)
  clear hU hS hb hc hq
  cases b <;> cases c
  all_goals
    go_enter Try.func19, Try.ntmps19
    go_wp2_with (first
      | (go_at_call 43; ((with_reducible refine (HA.out).mono ?_); (rintro ee w1 ⟨rfl, q1⟩)); have B1 := hid_of q1; clear q1)
      | (go_at_call 25; ((with_reducible refine (HB.out w1 B1.out).mono ?_); (rintro ee w' ⟨rfl, rfl⟩))))
    go_ret
    exact ⟨by rw [HQ.out]; rfl, B1.out⟩

set_option maxRecDepth 100000 in
theorem rrule_any (uo : Option Addr) (un uc : Nat) (U : List Str) (po : Option Addr) (pn pc : Nat) (p : List Str) (x : Str) (w : World) (hU : Rd w (.slice uo un uc) (ss U)) (hp : Rd w (.slice po pn pc) (ss p)) :
    Calls Try.prog 27 #[.slice uo un uc, .agg #[.slice po pn pc, .string (ba x)]] w fun e w' => e = .returned (.int .i64 (ruE U (p, x) : Nat)) ∧ Below w.heap.size w w' := by
  obtain ⟨bx, ebx⟩ : ∃ bx, bx = ba x := ⟨_, rfl⟩
  have B := bel_alloc w (.cells #[.slice po pn pc, .string (ba x)] 41)
  have e0 := heap_alloc_new w (.cells #[.slice po pn pc, .string (ba x)] 41)
  obtain ⟨s, hs⟩ : ∃ s, s = setE U p := ⟨_, rfl⟩
  obtain ⟨b, hb⟩ : ∃ b, b = decide (x ∈ U) := ⟨_, rfl⟩
  obtain ⟨q, hq⟩ : ∃ q, q = ruE U (p, x) := ⟨_, rfl⟩
  rw [← hq]
  have HQ : Hid (q = if s = 0 then (if b = true then 0 else 3) else s) := hid_of (by
    rw [hq, hs, hb]
    unfold ruE setE
    show (if ¬ SS p then 1 else if ¬ (∀ y ∈ p, y ∈ U) then 3 else if x ∉ U then 3 else 0) = _
    by_cases h1 : SS p
    · by_cases h2 : ∀ y ∈ p, y ∈ U
      · by_cases h3 : x ∈ U <;> simp [h1, h2, h3]
      · simp [h1, h2]
    · simp [h1])
  have HS : Hid (Calls Try.prog 19 #[.slice uo un uc, .slice po pn pc] (w.alloc (.cells #[.slice po pn pc, .string bx] 41)) fun e w1 => e = .returned (.int .i64 s) ∧ (w1.cell? ⟨w.heap.size, 1, none⟩ = some (.string bx)) ∧ Below w.heap.size w w1 ∧
      Hid (Calls Try.prog 26 #[.slice uo un uc, .string bx] w1 fun e w' => e = .returned (.bool b) ∧ w1 = w')) := hid_of (by
    rw [ebx, hs]
    refine (rset_any uo un uc U po pn pc p _ (hU.at B) (hp.at B)).mono fun e w1 ⟨h1, h2⟩ => ⟨h1, ?_, B.trans (h2.mono B.size), hid_of (by rw [hb]; exact rhas_any uo un uc U x w1 ((hU.at B).at h2))⟩
    exact blk_cell (cs := [.slice po pn pc, .string (ba x)]) ((h2.block _ (lt_of_block e0)).trans e0) (j := 1) rfl)
  rw [← ebx]
  have k0 := blk_cell (cs := [.slice po pn pc, .string (ba x)]) e0 (j := 0) rfl
  rw [← ebx] at k0
  clear hU hp B e0 ebx hs hb hq
  have u : s = 0 ∨ s ≠ 0 := by omega
  rcases u with rfl | u
  · cases b
    all_goals
      go_enter Try.func27, Try.ntmps27
      go_wp2_with (first
        | (go_at_call 19; ((with_reducible refine (HS.out).mono ?_); (rintro ee w1 ⟨rfl, k1, q1, H2⟩)); have B1 := hid_of q1; clear q1)
        | (go_at_call 26; ((with_reducible refine (H2.out).mono ?_); (rintro ee w' ⟨rfl, rfl⟩))))
      go_ret
      exact ⟨by rw [HQ.out]; rfl, B1.out⟩
  · have t1 : ((s : Int) == 0) = false := by simp; omega
    have HQ2 : Hid (q = s) := hid_of (by rw [HQ.out, if_neg u])
    clear u HQ
    go_enter Try.func27, Try.ntmps27
    go_wp2_with (first
      | (go_at_call 19; ((with_reducible refine (HS.out).mono ?_); (rintro ee w1 ⟨rfl, k1, q1, H2⟩)); have B1 := hid_of q1; clear q1))
    go_ret
    exact ⟨by rw [HQ2.out]; rfl, B1.out⟩
end Go.Proofs.Ytedohggbpmcehaa

/- The reference's Check and Closed. Bounds on sizes alone. -/
namespace Go.Proofs.Ytedohggbpmcehaa
open Go.RowKit

theorem rus_first {U : List Str} : ∀ {rs : List Gr} {k : Nat} {r : Gr}, (∀ q ∈ rs.take k, ruE U q = 0) → rs[k]? = some r → ruE U r ≠ 0 → rusE U rs = ruE U r
  | [], k, r, _, h, _ => by simp at h
  | a :: rs, 0, r, _, h, h2 => by
    simp only [List.getElem?_cons_zero, Option.some.injEq] at h
    subst h
    rw [rusE, if_neg h2]
  | a :: rs, k + 1, r, h1, h, h2 => by
    rw [rusE, if_pos (h1 a (by simp))]
    exact rus_first (fun q hq => h1 q (by rw [List.take_succ_cons]; exact List.mem_cons_of_mem _ hq)) (by simpa using h) h2
theorem rus_zero {U : List Str} {rs : List Gr} (h : ∀ r ∈ rs, ruE U r = 0) : rusE U rs = 0 := rusE_zero h

set_option maxRecDepth 100000 in
set_option maxHeartbeats 1600000 in
theorem rcheck_any (uo : Option Addr) (un uc : Nat) (U : List Str) (ro : Option Addr) (rn rc : Nat) (rs : List Gr) (w : World) (hU : Rd w (.slice uo un uc) (ss U)) (hz : ∀ x ∈ U, x.length ≤ 9223372036854775807) (hR : RuR w (.slice ro rn rc) rs) :
    Calls Try.prog 17 #[.slice uo un uc, .slice ro rn rc] w fun e w' => e = .returned (.int .i64 (chkE U rs : Nat)) ∧ Below w.heap.size w w' := by
  obtain ⟨hn, h1, h2, h3⟩ := rds_open hU
  obtain ⟨hm, h4⟩ := hR.len
  obtain ⟨q, hq⟩ : ∃ q, q = chkE U rs := ⟨_, rfl⟩
  rw [← hq]
  have HQ := hid_of hq
  have HN := hid_of hn
  have HM := hid_of hm
  have HNA : Hid (∀ bx x, bx = ba x → x ∈ U → Calls Try.prog 42 #[.string bx] w fun e w' => e = .returned (.bool (nameB x)) ∧ w = w') := hid_of (fun bx x e hx => by rw [e]; exact (rname_any (ba x) w (by show x.toArray.size ≤ _; unfold maxLen; simpa using hz x hx)).mono fun _ _ h => ⟨h.1, h.2.symm⟩)
  obtain ⟨sb, hsb⟩ : ∃ sb, sb = ssB U := ⟨_, rfl⟩
  have HAS : Hid (Calls Try.prog 43 #[.slice uo un uc] w fun e w' => e = .returned (.bool sb) ∧ Below w.heap.size w w') := hid_of (by rw [hsb]; exact rsorted_any uo un uc U w hU)
  have HSB := hid_of hsb
  have HCE : Hid (∀ k, k < un → ∃ g o x, uo = some ⟨g, o, none⟩ ∧ U[k]? = some x ∧ w.cell? ⟨g, o + k, none⟩ = some (.string (ba x))) := hid_of (fun k hk => by
    obtain ⟨x, hx⟩ : ∃ x, U[k]? = some x := ⟨_, List.getElem?_eq_getElem (by omega)⟩
    rcases h3 with h3 | ⟨g, o, e2, _, q2⟩
    · rw [h3] at hx; simp at hx
    · exact ⟨g, o, x, e2, hx, q2 k x hx⟩)
  have HRU : Hid (∀ wx k, Below w.heap.size w wx → k < rn → ∃ g o a c bx r, ro = some ⟨g, o, none⟩ ∧ rs[k]? = some r ∧ wx.cell? ⟨g, o + k * 2, none⟩ = some (.slice a r.1.length c) ∧ wx.cell? ⟨g, o + k * 2 + 1, none⟩ = some (.string bx) ∧ Hid (Calls Try.prog 27 #[.slice uo un uc, .agg #[.slice a r.1.length c, .string bx]] wx fun e w' => e = .returned (.int .i64 (ruE U r : Nat)) ∧ Below w.heap.size w w')) := hid_of (fun wx k hb hk => by
    obtain ⟨r, hr⟩ : ∃ r, rs[k]? = some r := ⟨_, List.getElem?_eq_getElem (by omega)⟩
    obtain ⟨g, o, a, c, e, c0, c1, rr⟩ := (hR.at hb).get hr
    exact ⟨g, o, a, c, _, r, e, hr, c0, c1, hid_of ((rrule_any uo un uc U a _ c r.1 r.2 wx (hU.at hb) rr).mono fun e w' ⟨g1, g2⟩ => ⟨g1, hb.trans (g2.mono hb.size)⟩)⟩)
  have hun : un ≤ 9223372036854775807 := by omega
  clear hq hn hm hU hz hR hsb h1 h2 h3
  go_enter Try.func17, Try.ntmps17
  go_wp2
  go_loopw [5] (fun iv wr => ∃ k : Nat, k ≤ un ∧ iv = .int .i64 k ∧ w = wr ∧ Hid (∀ x ∈ U.take k, nameB x = true)) (fun iv _ => un - (intOf iv).toNat)
  case atStart => exact ⟨0, Nat.zero_le _, rfl, rfl, hid_of (by simp)⟩
  case round =>
    obtain ⟨k, hk, rfl, rfl, hx⟩ := hrel
    have HX := hid_of hx.out
    clear hx
    by_cases hlt : k < un
    · have hd : decide (k < un) = true := by simp; omega
      obtain ⟨g, o, x, rfl, e1, c1⟩ := HCE.out k hlt
      obtain ⟨bx, hbx⟩ : ∃ bx, bx = ba x := ⟨_, rfl⟩
      rw [← hbx] at c1
      obtain ⟨nb, hnb⟩ : ∃ nb, nb = nameB x := ⟨_, rfl⟩
      have HC := HNA.out bx x hbx (List.mem_of_getElem? e1)
      rw [← hnb] at HC
      have HCC := hid_of HC
      have E1 := hid_of e1
      have HNB := hid_of hnb
      clear HC e1 hbx hnb
      cases nb
      · have RF : Hid (q = 3) := hid_of (by
          rw [HQ.out]; unfold chkE
          have : U.all nameB = false := by
            rw [Bool.eq_false_iff]; intro h
            have := List.all_eq_true.1 h x (List.mem_of_getElem? E1.out)
            rw [← HNB.out] at this; cases this
          rw [if_pos this])
        go_wp2_with (go_at_call 42; ((with_reducible refine (HCC.out).mono ?_); (rintro ee w' ⟨rfl, rfl⟩)))
        go_ret
        exact ⟨by rw [RF.out]; rfl, Below.refl _ _⟩
      · go_wp2_with (go_at_call 42; ((with_reducible refine (HCC.out).mono ?_); (rintro ee w' ⟨rfl, rfl⟩)))
        go_roundw
        case rel => exact ⟨k + 1, by omega, by go_num, trivial, hid_of (fun y hy => by
          rw [take_snoc_get E1.out, List.mem_append, List.mem_singleton] at hy
          rcases hy with hy | rfl
          · exact HX.out y hy
          · exact HNB.out.symm)⟩
        case measure => simp [intOf]; omega
    · have hd : decide (k < un) = false := by simp; omega
      obtain rfl : un = k := by omega
      have HALL : Hid (U.all nameB = true) := hid_of (by
        have h := HX.out
        rw [List.take_of_length_le (by have := HN.out; omega)] at h
        exact List.all_eq_true.2 h)
      cases sb
      · have RF : Hid (q = 1) := hid_of (by
          rw [HQ.out]; unfold chkE
          rw [if_neg (by rw [HALL.out]; simp), if_pos]
          have h := HSB.out
          unfold ssB at h
          exact of_decide_eq_false h.symm)
        go_wp2_with (go_at_call 43; ((with_reducible refine (HAS.out).mono ?_); (rintro ee w1 ⟨rfl, q1⟩)); have B1 := hid_of q1; clear q1)
        go_ret
        exact ⟨by rw [RF.out]; rfl, B1.out⟩
      · have HQ2 : Hid (q = rusE U rs) := hid_of (by
          rw [HQ.out]; unfold chkE
          have h := HSB.out
          unfold ssB at h
          rw [if_neg (by rw [HALL.out]; simp), if_neg (by simpa using of_decide_eq_true h.symm)])
        go_wp2_with (go_at_call 43; ((with_reducible refine (HAS.out).mono ?_); (rintro ee w1 ⟨rfl, q1⟩)); have B1 := hid_of q1; clear q1)
        go_loopw [6, 7] (fun iv ev wr => ∃ (j : Nat) (v : Value), j ≤ rn ∧ iv = .int .i64 j ∧ ev = v ∧ Hid (∀ r ∈ rs.take j, ruE U r = 0) ∧ Hid (Below w.heap.size w wr)) (fun iv _ _ => rn - (intOf iv).toNat)
        case atStart => exact ⟨0, _, Nat.zero_le _, rfl, rfl, hid_of (by simp), B1⟩
        case round =>
          obtain ⟨j, v, hj, rfl, rfl, hall, hb⟩ := hrel
          by_cases hlt2 : j < rn
          · have hd2 : decide (j < rn) = true := by simp; omega
            obtain ⟨g, o, a, c, bx, r, rfl, e1, c0, c1, HC⟩ := HRU.out wr j hb.out hlt2
            obtain ⟨m, hm⟩ : ∃ m, m = ruE U r := ⟨_, rfl⟩
            obtain ⟨pl, hpl⟩ : ∃ pl, pl = r.1.length := ⟨_, rfl⟩
            rw [← hm, ← hpl] at HC
            rw [← hpl] at c0
            have E1 := hid_of e1
            have HMM := hid_of hm
            clear e1 hm hpl
            have u : m = 0 ∨ m ≠ 0 := by omega
            rcases u with rfl | u
            · go_wp2_with (go_at_call 27; ((with_reducible refine (HC.out).mono ?_); (rintro ee w2 ⟨rfl, q1⟩)); have B2 := hid_of q1; clear q1)
              go_roundw
              case rel => exact ⟨j + 1, _, by omega, by go_num, rfl, hid_of (fun y hy => by
                rw [take_snoc_get E1.out, List.mem_append, List.mem_singleton] at hy
                rcases hy with hy | rfl
                · exact hall.out y hy
                · exact HMM.out.symm), B2⟩
              case measure => simp [intOf]; omega
            · have t1 : ((m : Int) != 0) = true := by simp; omega
              have RF : Hid (q = m) := hid_of (by rw [HQ2.out, HMM.out]; exact rus_first hall.out E1.out (by rw [← HMM.out]; exact u))
              clear u
              go_wp2_with (go_at_call 27; ((with_reducible refine (HC.out).mono ?_); (rintro ee w2 ⟨rfl, q1⟩)); have B2 := hid_of q1; clear q1)
              go_ret
              exact ⟨by rw [RF.out]; rfl, B2.out⟩
          · have hd2 : decide (j < rn) = false := by simp; omega
            have RF : Hid (q = 0) := hid_of (by
              rw [HQ2.out]; refine rus_zero ?_
              have h := hall.out
              rw [List.take_of_length_le (by have := HM.out; omega)] at h; exact h)
            go_wp2
            go_ret
            exact ⟨by rw [RF.out]; rfl, hb.out⟩
end Go.Proofs.Ytedohggbpmcehaa

/- ClosureReduces. Bounds on sizes alone. -/
namespace Go.Proofs.Ytedohggbpmcehaa
open Go.RowKit

set_option maxRecDepth 100000 in
set_option maxHeartbeats 1600000 in
theorem rsr_any (ao : Option Addr) (an ac : Nat) (bo : Option Addr) (bn bc : Nat) (A : List Gr) (w : World) (hA : RuR w (.slice ao an ac) A) (hB : RuR w (.slice bo bn bc) A) (han : an ≤ 1000000) :
    Calls Try.prog 34 #[.slice ao an ac, .slice bo bn bc] w fun e w' => e = .returned (.bool true) ∧ Below w.heap.size w w' := by
  obtain ⟨hl1, _⟩ := hA.len
  obtain ⟨hl2, _⟩ := hB.len
  obtain rfl : an = bn := by omega
  have HRow : Hid (∀ i, i < an → ∃ g o a n c g2 o2 a2 c2 bx, ao = some ⟨g, o, none⟩ ∧ bo = some ⟨g2, o2, none⟩ ∧ Hid (∀ W, Below w.heap.size w W → W.cell? ⟨g, o + i * 2, none⟩ = some (.slice a n c) ∧ W.cell? ⟨g, o + i * 2 + 1, none⟩ = some (.string bx) ∧ W.cell? ⟨g2, o2 + i * 2, none⟩ = some (.slice a2 n c2) ∧ W.cell? ⟨g2, o2 + i * 2 + 1, none⟩ = some (.string bx)) ∧
      Hid (∀ W, Below w.heap.size w W → Calls Try.prog 22 #[.slice a n c, .slice a2 n c2] W fun e w' => e = .returned (.bool true) ∧ Below w.heap.size w w')) := hid_of (fun i hi => by
    obtain ⟨g, o, a, c, r, e, hr, c0, c1, rr⟩ := hA.cel hi
    obtain ⟨g2, o2, a2, c2, r2, e2, hr2, d0, d1, rr2⟩ := hB.cel hi
    rw [hr] at hr2
    cases hr2
    refine ⟨g, o, a, _, c, g2, o2, a2, c2, _, e, e2, hid_of fun W hW => ⟨(hW.cell (p := ⟨g, o + i * 2, none⟩) (World.block_lt_of_cell? _ _ c0)).trans c0, (hW.cell (p := ⟨g, o + i * 2 + 1, none⟩) (World.block_lt_of_cell? _ _ c1)).trans c1, (hW.cell (p := ⟨g2, o2 + i * 2, none⟩) (World.block_lt_of_cell? _ _ d0)).trans d0, (hW.cell (p := ⟨g2, o2 + i * 2 + 1, none⟩) (World.block_lt_of_cell? _ _ d1)).trans d1⟩, hid_of fun W hW => ?_⟩
    refine (rsame_any a _ c a2 _ c2 r.1 r.1 W (rr.at hW) (rr2.at hW)).mono ?_
    rintro e w' ⟨rfl, h4⟩
    exact ⟨by rw [decide_eq_true rfl], hW.trans (Below.mono h4 hW.size)⟩)
  have hn9 : an ≤ 9223372036854775807 := by omega
  clear hA hB hl1 hl2
  go_enter Try.func34, Try.ntmps34
  go_wp2
  go_loopw [5] (fun iv wz => ∃ i : Nat, i ≤ an ∧ iv = .int .i64 i ∧ Hid (Below w.heap.size w wz)) (fun iv _ => an - (intOf iv).toNat)
  case atStart => exact ⟨0, Nat.zero_le _, rfl, hid_of (Below.refl _ _)⟩
  case round =>
    obtain ⟨i, hi, rfl, hb⟩ := hrel
    by_cases hlt : i < an
    · have hd : decide (i < an) = true := by simp; omega
      obtain ⟨g, o, a, n, c, g2, o2, a2, c2, bx, rfl, rfl, HC, HS⟩ := HRow.out i hlt
      have b0 : (0 : Int) ≤ (i : Int) := by omega
      have b1 : (i : Int) < (an : Int) := by omega
      have heq : (bx.toList == bx.toList) = true := by simp
      have hne : (bx.toList != bx.toList) = false := by simp
      have K0 : Hid (Below w.heap.size w wr.drew) := hid_of hb.out.drew
      go_wp2
      go_region_held3 (fun X => X.cell? ⟨g, o + i * 2, none⟩ = some (.slice a n c) ∧ X.cell? ⟨g, o + i * 2 + 1, none⟩ = some (.string bx) ∧ X.cell? ⟨g2, o2 + i * 2, none⟩ = some (.slice a2 n c2) ∧ X.cell? ⟨g2, o2 + i * 2 + 1, none⟩ = some (.string bx)) (exact HC.out _ (Hid.out (by with_reducible assumption))) (first
        | (go_at_call 22; ((with_reducible refine (HS.out wr.drew K0.out).mono ?_); (rintro ee w2 ⟨rfl, q1⟩)); have K1 := hid_of q1; clear q1))
      go_wp2
      go_roundw
      case rel => exact ⟨i + 1, by omega, by go_num, K1⟩
      case measure => simp [intOf]; omega
    · have hd : decide (i < an) = false := by simp; omega
      go_wp2
      go_ret
      exact ⟨rfl, hb.out⟩
set_option maxRecDepth 100000 in
set_option maxHeartbeats 1600000 in
theorem redl_heavy (uo : Option Addr) (un uc : Nat) (U : List Str) (ro : Option Addr) (rn rc : Nat) (rs : List Gr) (w : World) (hU : Rd w (.slice uo un uc) (ss U)) (hz : ∀ y ∈ U, y.length ≤ 9223372036854775807) (hR : RuR w (.slice ro rn rc) rs) (hh : hvB U rs = true) :
    Calls Try.prog 8 #[.slice uo un uc, .slice ro rn rc] w fun e w' => e = .returned (.bool true) ∧ Below w.heap.size w w' := by
  have AW : Hid (Calls Try.prog 15 #[] w fun e w' => e = .returned (.bool true) ∧ Below w.heap.size w w') := hid_of (awake_any w)
  obtain ⟨hv, ehv⟩ : ∃ hv, hv = hvB U rs := ⟨_, rfl⟩
  have HV : Hid (∀ W, Below w.heap.size w W → Calls Try.prog 16 #[.slice uo un uc, .slice ro rn rc] W fun e w' => e = .returned (.bool hv) ∧ W = w') := hid_of (fun W hb => by rw [ehv]; exact heavy_any uo un uc U ro rn rc rs W (hU.at hb) (hR.at hb))
  rw [hh] at ehv
  subst ehv
  clear hU hz hR hh
  go_enter Try.func8, Try.ntmps8
  go_wp2_with (first
    | (go_at_call 15; ((with_reducible refine (AW.out).mono ?_); (rintro ee w1 ⟨rfl, q1⟩)); have B1 := hid_of q1; clear q1)
    | (go_at_call 16; ((with_reducible refine (HV.out w1 B1.out).mono ?_); (rintro ee w' ⟨rfl, rfl⟩))))
  go_ret
  exact ⟨rfl, B1.out⟩
set_option maxRecDepth 100000 in
set_option maxHeartbeats 1600000 in
theorem redl_bad (uo : Option Addr) (un uc : Nat) (U : List Str) (ro : Option Addr) (rn rc : Nat) (rs : List Gr) (w : World) (hU : Rd w (.slice uo un uc) (ss U)) (hz : ∀ y ∈ U, y.length ≤ 9223372036854775807) (hR : RuR w (.slice ro rn rc) rs) (hh : hvB U rs = false) (q : Nat) (hq : chkE U rs = q) (hq0 : q ≠ 0) :
    Calls Try.prog 8 #[.slice uo un uc, .slice ro rn rc] w fun e w' => e = .returned (.bool true) ∧ Below w.heap.size w w' := by
  have AW : Hid (Calls Try.prog 15 #[] w fun e w' => e = .returned (.bool true) ∧ Below w.heap.size w w') := hid_of (awake_any w)
  obtain ⟨hv, ehv⟩ : ∃ hv, hv = hvB U rs := ⟨_, rfl⟩
  have HV : Hid (∀ W, Below w.heap.size w W → Calls Try.prog 16 #[.slice uo un uc, .slice ro rn rc] W fun e w' => e = .returned (.bool hv) ∧ W = w') := hid_of (fun W hb => by rw [ehv]; exact heavy_any uo un uc U ro rn rc rs W (hU.at hb) (hR.at hb))
  obtain ⟨e1, e2, e3⟩ := hvB_no hh
  have hul := (rds_open hU).1
  have hrl := hR.len.1
  have IU : InU w uo un uc U ro rn rc rs := ⟨hU, hR, hz, by omega, by omega, fun r hr => by have := e3 r hr; omega⟩
  rw [hh] at ehv
  subst ehv
  have RK : Hid (∀ W, Below w.heap.size w W → Calls Try.prog 17 #[.slice uo un uc, .slice ro rn rc] W fun e w' => e = .returned (.int .i64 q) ∧ Below w.heap.size w w') := hid_of (fun W hb => by
    have h := rcheck_any uo un uc U ro rn rc rs W (hU.at hb) hz (hR.at hb)
    rw [hq] at h
    exact h.mono fun e w' ⟨h1, h2⟩ => ⟨h1, hb.trans (h2.mono hb.size)⟩)
  have CE : Hid (∀ W, Below w.heap.size w W → Calls Try.prog 33 #[.slice uo un uc, .slice ro rn rc] W fun e w' => e = .returned (.tuple #[.slice none 0 0, .int .i64 (q : Int)]) ∧ Below w.heap.size w w') := hid_of (fun W hb => by
    exact (red_err uo un uc U ro rn rc rs W (IU.at hb) q hq hq0).mono fun e w' ⟨h1, h2⟩ => ⟨h1, hb.trans (h2.mono hb.size)⟩)
  have t1 : ((q : Int) != 0) = true := by simp; omega
  have t2 : ((q : Int) == 0) = false := by simp; omega
  clear hU hz hR hh IU e1 e2 e3 hul hrl hq hq0
  go_enter Try.func8, Try.ntmps8
  go_wp2_with (first
    | (go_at_call 15; ((with_reducible refine (AW.out).mono ?_); (rintro ee w1 ⟨rfl, q1⟩)); have B1 := hid_of q1; clear q1)
    | (go_at_call 16; ((with_reducible refine (HV.out w1 B1.out).mono ?_); (rintro ee w' ⟨rfl, rfl⟩)))
    | (go_at_call 17; ((with_reducible refine (RK.out w1 B1.out).mono ?_); (rintro ee w2 ⟨rfl, q1⟩)); have B2 := hid_of q1; clear q1)
    | (go_at_call 33; ((with_reducible refine (CE.out w2 B2.out).mono ?_); (rintro ee w3 ⟨rfl, q1⟩)); have B3 := hid_of q1; clear q1))
  go_ret
  exact ⟨by first | rfl | simp, B3.out⟩
set_option maxRecDepth 100000 in
set_option maxHeartbeats 1600000 in
theorem redl_main (uo : Option Addr) (un uc : Nat) (U : List Str) (ro : Option Addr) (rn rc : Nat) (rs : List Gr) (w : World) (hU : Rd w (.slice uo un uc) (ss U)) (hz : ∀ y ∈ U, y.length ≤ 9223372036854775807) (hR : RuR w (.slice ro rn rc) rs) (hh : hvB U rs = false) (hq : chkE U rs = 0) :
    Calls Try.prog 8 #[.slice uo un uc, .slice ro rn rc] w fun e w' => e = .returned (.bool true) ∧ Below w.heap.size w w' := by
  have AW : Hid (Calls Try.prog 15 #[] w fun e w' => e = .returned (.bool true) ∧ Below w.heap.size w w') := hid_of (awake_any w)
  obtain ⟨hv, ehv⟩ : ∃ hv, hv = hvB U rs := ⟨_, rfl⟩
  have HV : Hid (∀ W, Below w.heap.size w W → Calls Try.prog 16 #[.slice uo un uc, .slice ro rn rc] W fun e w' => e = .returned (.bool hv) ∧ W = w') := hid_of (fun W hb => by rw [ehv]; exact heavy_any uo un uc U ro rn rc rs W (hU.at hb) (hR.at hb))
  obtain ⟨e1, e2, e3⟩ := hvB_no hh
  have hul := (rds_open hU).1
  have hrl := hR.len.1
  have IU : InU w uo un uc U ro rn rc rs := ⟨hU, hR, hz, by omega, by omega, fun r hr => by have := e3 r hr; omega⟩
  rw [hh] at ehv
  subst ehv
  have RK : Hid (∀ W, Below w.heap.size w W → Calls Try.prog 17 #[.slice uo un uc, .slice ro rn rc] W fun e w' => e = .returned (.int .i64 0) ∧ Below w.heap.size w w') := hid_of (fun W hb => by
    have h := rcheck_any uo un uc U ro rn rc rs W (hU.at hb) hz (hR.at hb)
    rw [hq] at h
    exact h.mono fun e w' ⟨h1, h2⟩ => ⟨h1, hb.trans (h2.mono hb.size)⟩)
  have CE : Hid (∀ W, Below w.heap.size w W → Calls Try.prog 33 #[.slice uo un uc, .slice ro rn rc] W fun e w' => ∃ ao m cap, e = .returned (.tuple #[.slice ao m cap, .int .i64 0]) ∧ m ≤ 1000000 ∧ Hid (RuR w' (.slice ao m cap) (redS U rs)) ∧ Below w.heap.size w w') := hid_of (fun W hb => (red_good uo un uc U ro rn rc rs W (IU.at hb) hq).mono (by
    rintro e w' ⟨ao, m, cap, rfl, h1, h2, h3⟩
    have := red_len U rs
    exact ⟨ao, m, cap, rfl, by omega, hid_of h2, hb.trans (h3.mono hb.size)⟩))
  have RR : Hid (∀ W, Below w.heap.size w W → Calls Try.prog 35 #[.slice uo un uc, .slice ro rn rc] W fun e w' => ∃ ao m cap, e = .returned (.slice ao m cap) ∧ Hid (RuR w' (.slice ao m cap) (redS U rs)) ∧ Below w.heap.size w w' ∧ Below W.heap.size W w') := hid_of (fun W hb => (rred_any uo un uc U ro rn rc rs W (IU.at hb) hq).mono (by
    rintro e w' ⟨ao, m, cap, rfl, h2, h3⟩
    exact ⟨ao, m, cap, rfl, hid_of h2, hb.trans (h3.mono hb.size), h3⟩))
  obtain ⟨G, hG⟩ : ∃ G, G = redS U rs := ⟨_, rfl⟩
  rw [← hG] at CE RR
  clear hU hz hR hh IU e1 e2 e3 hul hrl hq hG
  go_enter Try.func8, Try.ntmps8
  go_wp2_with (first
    | (go_at_call 15; ((with_reducible refine (AW.out).mono ?_); (rintro ee w1 ⟨rfl, q1⟩)); have B1 := hid_of q1; clear q1)
    | (go_at_call 16; ((with_reducible refine (HV.out w1 B1.out).mono ?_); (rintro ee w' ⟨rfl, rfl⟩)))
    | (go_at_call 17; ((with_reducible refine (RK.out w1 B1.out).mono ?_); (rintro ee w2 ⟨rfl, q1⟩)); have B2 := hid_of q1; clear q1)
    | (go_at_call 33; ((with_reducible refine (CE.out w2 B2.out).mono ?_); (rintro ee w3 ⟨ao, m, cap, rfl, hm, R3, q1⟩)); have B3 := hid_of q1; clear q1)
    | (go_at_call 35; ((with_reducible refine (RR.out w3 B3.out).mono ?_); (rintro ee w4 ⟨bo, n, cap2, rfl, S4, q1, q2⟩)); have B4 := hid_of q1; have R4 := hid_of (R3.out.at q2); clear q1 q2)
    | (go_at_call 34; ((with_reducible refine (rsr_any ao m cap bo n cap2 G w4 R4.out S4.out hm).mono ?_); (rintro ee w5 ⟨rfl, q1⟩)); have B5 := hid_of (B4.out.trans (q1.mono B4.out.size)); clear q1))
  go_ret
  exact ⟨by first | rfl | simp, B5.out⟩
theorem reduces_law (uo : Option Addr) (un uc : Nat) (U : List Str) (ro : Option Addr) (rn rc : Nat) (rs : List Gr) (w : World) (hU : Rd w (.slice uo un uc) (ss U)) (hz : ∀ y ∈ U, y.length ≤ 9223372036854775807) (hR : RuR w (.slice ro rn rc) rs) :
    Calls Try.prog 8 #[.slice uo un uc, .slice ro rn rc] w fun e w' => e = .returned (.bool true) ∧ Below w.heap.size w w' := by
  cases hh : hvB U rs with
  | true => exact redl_heavy uo un uc U ro rn rc rs w hU hz hR hh
  | false =>
    by_cases hc : chkE U rs = 0
    · exact redl_main uo un uc U ro rn rc rs w hU hz hR hh hc
    · exact redl_bad uo un uc U ro rn rc rs w hU hz hR hh _ rfl hc
end Go.Proofs.Ytedohggbpmcehaa
