/- The gathering visit of All. Bounds on sizes alone. -/
import Derived.Test.YtjponegeidiheaaClsAll1
import Derived.Test.YtjponegeidiheaaClsTop
namespace Go.Proofs.Ytjponegeidiheaa
open Go.RowKit

theorem setsE : Elem Try.prog 45 22 (.slice none 0 0) 24 := ⟨Try.underlying45, by kernel_rfl, rfl⟩
theorem own_up {W : World} {B e s n : Nat} {v : Value} {xs : List Value} (h : W.ownsRow 0 e s v n xs) (hB : ∀ g, v.ownBlock = some g → B ≤ g) : W.ownsRow B e s v n xs := by
  obtain ⟨h1, h2⟩ := h
  refine ⟨h1, ?_⟩
  rcases h2 with h2 | ⟨g, cap, cur, hv, _, r⟩
  · exact .inl h2
  · exact .inr ⟨g, cap, cur, hv, hB g (by rw [hv]; rfl), r⟩
/-- What the gathering visit holds. -/
structure J2 (w0 : World) (sb ub xb c : Nat) (uo : Option Addr) (un uc : Nat) (U : List Str) (d : List (List Nat)) (ao : Option Addr) (cap : Nat) (vals : List Value) (JS : Nat → Prop) (w : World) : Prop where
  js : ∀ b, JS b ↔ b < w0.heap.size ∨ b = sb ∨ b = ub ∨ b = xb ∨ (Value.slice ao d.length cap).ownBlock = some b ∨ ∃ v ∈ vals, v.ownBlock = some b
  old : ∀ b, b < w0.heap.size → w.heap[b]? = w0.heap[b]?
  s : w.heap[sb]? = some (.cells #[.slice ao d.length cap] 45 (0, 0))
  u : w.heap[ub]? = some (.cells #[.slice uo un uc] 22 (0, 0))
  x : w.heap[xb]? = some (.cells #[.pointer (some ⟨c, 0, none⟩)] 76 (0, 0))
  row : w.ownsRow w0.heap.size 22 1 (.slice ao d.length cap) d.length vals
  len : vals.length = d.length
  each : ∀ (i : Nat) (v : Value) (L : List Nat), vals[i]? = some v → d[i]? = some L → w.ownsRow w0.heap.size 9 1 v L.length (ss (nmF U L))
  ru : ∀ g, (Value.slice ao d.length cap).ownBlock = some g → g ≠ ub
  lo : w0.heap.size ≤ sb ∧ w0.heap.size ≤ w.heap.size
def J2E (w0 : World) (sb ub xb c : Nat) (uo : Option Addr) (un uc : Nat) (U : List Str) (d : List (List Nat)) (JS : Nat → Prop) (w : World) : Prop := ∃ ao cap vals, J2 w0 sb ub xb c uo un uc U d ao cap vals JS w
section
variable {w0 w : World} {sb ub xb c : Nat} {uo : Option Addr} {un uc : Nat} {U : List Str} {d : List (List Nat)} {ao : Option Addr} {cap : Nat} {vals : List Value} {JS : Nat → Prop}
theorem J2.same (h : J2 w0 sb ub xb c uo un uc U d ao cap vals JS w) {w' : World} (hs : ∀ b, JS b → w'.heap[b]? = w.heap[b]?) (hz : w.heap.size ≤ w'.heap.size) : J2 w0 sb ub xb c uo un uc U d ao cap vals JS w' :=
  ⟨h.js, fun b hb => (hs b ((h.js b).2 (.inl hb))).trans (h.old b hb), (hs sb ((h.js _).2 (.inr (.inl rfl)))).trans h.s, (hs ub ((h.js _).2 (.inr (.inr (.inl rfl))))).trans h.u, (hs xb ((h.js _).2 (.inr (.inr (.inr (.inl rfl)))))).trans h.x,
   own_same h.row fun g hg => hs g ((h.js g).2 (.inr (.inr (.inr (.inr (.inl hg)))))), h.len, fun i v L hv hL => own_same (h.each i v L hv hL) fun g hg => hs g ((h.js g).2 (.inr (.inr (.inr (.inr (.inr ⟨v, List.mem_of_getElem? hv, hg⟩)))))), h.ru, h.lo.1, Nat.le_trans h.lo.2 hz⟩
theorem J2E.stable : ∀ d JS w w', J2E w0 sb ub xb c uo un uc U d JS w → (∀ b, JS b → w'.heap[b]? = w.heap[b]?) → w.heap.size ≤ w'.heap.size → J2E w0 sb ub xb c uo un uc U d JS w' := fun _ _ _ _ ⟨ao, cap, vals, h⟩ hs hz => ⟨ao, cap, vals, h.same hs hz⟩
theorem J2.lt (h : J2 w0 sb ub xb c uo un uc U d ao cap vals JS w) : ∀ b, JS b → b < w.heap.size := fun b hb => by
  rcases (h.js b).1 hb with hb | rfl | rfl | rfl | hb | ⟨v, hv, hb⟩
  · have := h.lo.2; omega
  · exact lt_of_block h.s
  · exact lt_of_block h.u
  · exact lt_of_block h.x
  · exact own_lt h.row hb
  · obtain ⟨i, hi⟩ := List.getElem?_of_mem hv
    have hid : i < d.length := by rw [← h.len]; exact (List.getElem?_eq_some_iff.1 hi).1
    exact own_lt (h.each i v d[i] hi (List.getElem?_eq_getElem hid)) hb
/-- One set more. -/
theorem J2.app (h : J2 w0 sb ub xb c uo un uc U d ao cap vals JS w) {L : List Nat} {xo a2 : Option Addr} {xc c2 n2 : Nat} {W2 W3 : World} (hb : Below w.heap.size w W2) (hx : W2.ownsRow w.heap.size 9 1 (.slice xo L.length xc) L.length (ss (nmF U L)))
    (hn : n2 = d.length + 1) (ho : W3.ownsRow 0 22 1 (.slice a2 n2 c2) n2 (vals ++ [.slice xo L.length xc])) (hg : W2.grownBy W3 (Value.slice ao d.length cap).ownBlock) (hf : (Value.slice a2 n2 c2).ownBlock = (Value.slice ao d.length cap).ownBlock ∨ (Value.slice a2 n2 c2).ownBlock = some W2.heap.size) :
    (W3.cell? ⟨sb, 0, none⟩ = some (.slice ao d.length cap) ∧ W3.cell? ⟨ub, 0, none⟩ = some (.slice uo un uc) ∧ W3.cell? ⟨xb, 0, none⟩ = some (.pointer (some ⟨c, 0, none⟩)) ∧ W3.frozen? ⟨sb, 0, none⟩ = false) ∧
    ∃ JS', J2E w0 sb ub xb c uo un uc U (d ++ [L]) JS' (W3.setCell ⟨sb, 0, none⟩ (.slice a2 n2 c2)) ∧ Chg JS JS' w (W3.setCell ⟨sb, 0, none⟩ (.slice a2 n2 c2)) ∧ ∀ b, JS' b → b < (W3.setCell ⟨sb, 0, none⟩ (.slice a2 n2 c2)).heap.size := by
  subst hn
  have h2 := h.same (w' := W2) (fun b hj => hb.block b (h.lt b hj)) hb.size
  have hlt := h.lt
  have z1 := hb.size
  have z2 := hg.size
  have l1 := h.lo
  have ls := lt_of_block h2.s
  have lu := lt_of_block h2.u
  have lx := lt_of_block h2.x
  have e1 : W3.heap[sb]? = some (.cells #[.slice ao d.length cap] 45 (0, 0)) := (hg.block sb ls (fun e => own_ne h2.row e.symm h2.s (by decide) rfl)).trans h2.s
  have e2 : W3.heap[ub]? = some (.cells #[.slice uo un uc] 22 (0, 0)) := (hg.block ub lu (fun e => h.ru _ e.symm rfl)).trans h2.u
  have e3 : W3.heap[xb]? = some (.cells #[.pointer (some ⟨c, 0, none⟩)] 76 (0, 0)) := (hg.block xb lx (fun e => own_ne h2.row e.symm h2.x (by decide) rfl)).trans h2.x
  refine ⟨⟨blk_cell (cs := [.slice ao d.length cap]) e1 rfl, blk_cell (cs := [.slice uo un uc]) e2 rfl, blk_cell (cs := [.pointer (some ⟨c, 0, none⟩)]) e3 rfl, blk_free (cs := [.slice ao d.length cap]) e1 0⟩, ?_⟩
  obtain ⟨wf, hwf⟩ : ∃ wf, wf = W3.setCell ⟨sb, 0, none⟩ (.slice a2 (d.length + 1) c2) := ⟨_, rfl⟩
  rw [← hwf]
  have hset : ∀ k, k ≠ sb → wf.heap[k]? = W3.heap[k]? := fun k hk => by rw [hwf]; exact set_other hk
  have zf : wf.heap.size = W3.heap.size := by rw [hwf]; simp
  have eos : wf.os = W3.os ∧ wf.tape = W3.tape ∧ wf.output = W3.output := by rw [hwf]; exact ⟨rfl, rfl, rfl⟩
  have esb : wf.heap[sb]? = some (.cells #[.slice a2 (d.length + 1) c2] 45 (0, 0)) := by rw [hwf]; exact blk_setCell (cur := [.slice ao d.length cap]) (k := 0) e1
  have nus : ub ≠ sb := fun e => blk_ne h2.u h2.s (by decide) e
  have nxs : xb ≠ sb := fun e => blk_ne h2.x h2.s (by decide) e
  have hown2 : ∀ g, (Value.slice a2 (d.length + 1) c2).ownBlock = some g → (Value.slice ao d.length cap).ownBlock = some g ∨ g = W2.heap.size := fun g hgg => by
    rcases hf with hf | hf
    · exact .inl (hf ▸ hgg)
    · rw [hf] at hgg; cases hgg; exact .inr rfl
  have hstr : ∀ (B n : Nat) (v : Value) (xs : List Value), W2.ownsRow B 9 1 v n xs → wf.ownsRow B 9 1 v n xs := fun B n v xs hv => own_same hv fun k hk => by
    rw [hset k (own_ne hv hk h2.s (by decide)), hg.block k (own_lt hv hk) (fun e => own_type hv hk h2.row (by decide) e.symm)]
  have hrow : wf.ownsRow w0.heap.size 22 1 (.slice a2 (d.length + 1) c2) (d.length + 1) (vals ++ [.slice xo L.length xc]) := by
    refine own_up (own_same ho fun k hk => hset k (own_ne ho hk e1 (by decide))) fun g hgg => ?_
    rcases hown2 g hgg with h5 | h5
    · exact (h2.row.lt g h5).1
    · omega
  have hd : (d ++ [L]).length = d.length + 1 := by simp
  have hJ : J2 w0 sb ub xb c uo un uc U (d ++ [L]) a2 c2 (vals ++ [.slice xo L.length xc]) (fun b => b < w0.heap.size ∨ b = sb ∨ b = ub ∨ b = xb ∨ (Value.slice a2 (d ++ [L]).length c2).ownBlock = some b ∨ ∃ v ∈ vals ++ [.slice xo L.length xc], v.ownBlock = some b) wf := by
    refine ⟨fun b => Iff.rfl, fun b hb0 => ?_, by rw [hd]; exact esb, (hset ub nus).trans e2, (hset xb nxs).trans e3, by rw [hd]; exact hrow, by simp [h.len], fun i v L' hv hL => ?_, fun g hgg => ?_, l1.1, by omega⟩
    · rw [hset b (by omega), hg.block b (by omega) (fun e => by have := (h2.row.lt b e.symm).1; omega), hb.block b (by omega)]
      exact h.old b hb0
    · by_cases hi : i < d.length
      · rw [List.getElem?_append_left (by rw [h.len]; exact hi)] at hv
        rw [List.getElem?_append_left hi] at hL
        exact hstr _ _ _ _ (h2.each i v L' hv hL)
      · have e : i = d.length := by have := (List.getElem?_eq_some_iff.1 hL).1; simp at this; omega
        subst e
        rw [List.getElem?_append_right (Nat.le_refl _)] at hL
        rw [List.getElem?_append_right (by rw [h.len]; exact Nat.le_refl _)] at hv
        simp [h.len] at hv hL
        subst hv hL
        exact hstr _ _ _ _ (own_weak hx l1.2)
    · rw [hd] at hgg
      rcases hown2 g hgg with h5 | h5
      · exact h.ru g h5
      · omega
  refine ⟨_, ⟨a2, c2, _, hJ⟩, ⟨⟨by rw [eos.1]; exact hg.os.trans hb.os, by rw [eos.2.1]; exact hg.tape.trans hb.tape, by rw [eos.2.2]; exact hg.output.trans hb.output, by omega, fun k hk hs => ?_⟩, fun k hk => ?_⟩, hJ.lt⟩
  · rw [hset k (fun e => hs ((h.js k).2 (.inr (.inl e)))), hg.block k (by omega) (fun e => hs ((h.js k).2 (.inr (.inr (.inr (.inr (.inl e.symm))))))), hb.block k hk]
  · rcases hk with hk | hk | hk | hk | hk | ⟨v, hv, hk⟩
    · exact .inl ((h.js k).2 (.inl hk))
    · exact .inl ((h.js k).2 (.inr (.inl hk)))
    · exact .inl ((h.js k).2 (.inr (.inr (.inl hk))))
    · exact .inl ((h.js k).2 (.inr (.inr (.inr (.inl hk)))))
    · rw [hd] at hk
      rcases hown2 k hk with h5 | h5
      · exact .inl ((h.js k).2 (.inr (.inr (.inr (.inr (.inl h5))))))
      · exact .inr (by omega)
    · rcases List.mem_append.1 hv with hv | hv
      · exact .inl ((h.js k).2 (.inr (.inr (.inr (.inr (.inr ⟨v, hv, hk⟩))))))
      · rw [List.mem_singleton.1 hv] at hk
        exact .inr (hx.lt k hk).1
end
theorem rd_old {w0 w : World} {v : Value} {xs : List Value} (hr : Rd w0 v xs) (hs : ∀ b, b < w0.heap.size → w.heap[b]? = w0.heap[b]?) (hz : w0.heap.size ≤ w.heap.size) : Rd w v xs := by
  obtain ⟨ao, cap, rfl, h2, h3, h4⟩ := hr
  refine ⟨ao, cap, rfl, h2, h3, fun h0 => ?_⟩
  obtain ⟨g, o, rfl, q2, q3⟩ := h4 h0
  refine ⟨g, o, rfl, Nat.lt_of_lt_of_le q2 hz, fun j u hu => ?_⟩
  have := q3 j u hu
  unfold World.cell? at this ⊢
  rw [hs g q2]
  exact this

set_option maxRecDepth 100000 in
set_option maxHeartbeats 1600000 in
theorem all2_any (w0 : World) (sb ub xb c n N : Nat) (uo : Option Addr) (un uc : Nat) (U : List Str) (R : List Hrl) (hn : n ≤ 1000000) (hNN : N ≤ 1000000) (hun : U.length = n) (RU : Rd w0 (.slice uo un uc) (ss U)) (vb cb bb gv : Nat) (lbs : Array Value) (d : List (List Nat)) (T : List Nat) (V : CV) (US JS : Nat → Prop) (w : World) (hd : d.length < N) (h : St c n R vb cb bb gv lbs (J2E w0 sb ub xb c uo un uc U) d T V US JS w) :
    Calls Try.prog 55 #[.pointer (some ⟨sb, 0, none⟩), .pointer (some ⟨ub, 0, none⟩), .pointer (some ⟨xb, 0, none⟩)] w fun e w' => e = .returned (.tuple #[.slice none 0 0, .bool true]) ∧ ∃ JS', J2E w0 sb ub xb c uo un uc U (d ++ [mems T n]) JS' w' ∧ Chg JS JS' w w' ∧ ∀ b, JS' b → b < w'.heap.size := by
  obtain ⟨ao, cap, vals, hj⟩ := h.j
  have HJ := hid_of hj
  have ru := rd_old RU hj.old hj.lo.2
  have hml : (mems T n).length = T.length := mems_len h.ch.nd h.ch.tn
  have hTn := h.ch.len
  obtain ⟨m, hm⟩ : ∃ m, m = (mems T n).length := ⟨_, rfl⟩
  obtain ⟨q, hq⟩ : ∃ q, q = d.length := ⟨_, rfl⟩
  have B0 : Hid (Below w.heap.size w w.drew) := hid_of (Below.refl _ _).drew
  have CC : Hid (∀ W, Below w.heap.size w W → W.cell? ⟨sb, 0, none⟩ = some (.slice ao q cap) ∧ W.cell? ⟨ub, 0, none⟩ = some (.slice uo un uc) ∧ W.cell? ⟨xb, 0, none⟩ = some (.pointer (some ⟨c, 0, none⟩))) := hid_of (fun W hb => by
    have h2 := hj.same (w' := W) (fun b hb2 => hb.block b (hj.lt b hb2)) hb.size
    rw [hq]
    exact ⟨blk_cell (cs := [.slice ao d.length cap]) h2.s rfl, blk_cell (cs := [.slice uo un uc]) h2.u rfl, blk_cell (cs := [.pointer (some ⟨c, 0, none⟩)]) h2.x rfl⟩)
  have HME : Hid (∀ W, Below w.heap.size w W → Calls Try.prog 49 #[.pointer (some ⟨c, 0, none⟩)] W fun e w' => ∃ ao cap, e = .returned (.slice ao m cap) ∧ Rd w' (.slice ao m cap) (ints (mems T n)) ∧ Below w.heap.size w w') := hid_of (fun W hb => (mem_any c n T.length R _ T V US W (h.ch.at hb) hn).mono fun e w' ⟨ao, cap, h1, h2⟩ => ⟨ao, cap, by rw [hm]; exact h1, by rw [hm]; exact own_rd h2.own, hb.trans (h2.bel.mono hb.size)⟩)
  have HNM : Hid (∀ W ao cap, Below w.heap.size w W → Rd W (.slice ao m cap) (ints (mems T n)) → Calls Try.prog 48 #[.slice uo un uc, .slice ao m cap] W fun e w' => ∃ ro rc, e = .returned (.slice ro m rc) ∧ w'.ownsRow w.heap.size 9 1 (.slice ro m rc) m (ss (nmF U (mems T n))) ∧ Below w.heap.size w w') := hid_of (fun W ao cap hb hr => (nmd_any uo un uc U ao m cap (mems T n) W (ru.at hb) hr (fun i hi => by rw [hun]; exact (mem_mems.1 hi).1) (by omega)).mono fun e w' ⟨ro, rc, h1, h2⟩ => ⟨ro, rc, h1, by
      have := own_weak h2.own hb.size
      rw [ss_length, nmF_length, ← hm] at this; exact this, hb.trans (h2.bel.mono hb.size)⟩)
  have HROW : Hid (∀ W, Below w.heap.size w W → W.ownsRow 0 22 1 (.slice ao q cap) q vals) := hid_of (fun W hb => by
    have h2 := hj.same (w' := W) (fun b hb2 => hb.block b (hj.lt b hb2)) hb.size
    rw [hq]; exact own_base h2.row)
  have HAPP : Hid (∀ (W2 W3 : World) (xo a2 : Option Addr) (xc c2 n2 : Nat), Below w.heap.size w W2 → W2.ownsRow w.heap.size 9 1 (.slice xo m xc) m (ss (nmF U (mems T n))) → n2 = q + 1 → W3.ownsRow 0 22 1 (.slice a2 n2 c2) n2 (vals ++ [.slice xo m xc]) → W2.grownBy W3 (Value.slice ao q cap).ownBlock → ((Value.slice a2 n2 c2).ownBlock = (Value.slice ao q cap).ownBlock ∨ (Value.slice a2 n2 c2).ownBlock = some W2.heap.size) →
      (W3.cell? ⟨sb, 0, none⟩ = some (.slice ao q cap) ∧ W3.cell? ⟨ub, 0, none⟩ = some (.slice uo un uc) ∧ W3.cell? ⟨xb, 0, none⟩ = some (.pointer (some ⟨c, 0, none⟩)) ∧ W3.frozen? ⟨sb, 0, none⟩ = false) ∧
      ∃ JS', J2E w0 sb ub xb c uo un uc U (d ++ [mems T n]) JS' (W3.setCell ⟨sb, 0, none⟩ (.slice a2 n2 c2)) ∧ Chg JS JS' w (W3.setCell ⟨sb, 0, none⟩ (.slice a2 n2 c2)) ∧ ∀ b, JS' b → b < (W3.setCell ⟨sb, 0, none⟩ (.slice a2 n2 c2)).heap.size) := hid_of (fun W2 W3 xo a2 xc c2 n2 h1 h2 h3 h4 h5 h6 => by
    rw [hm] at h2 h4
    rw [hq] at h3 h5 h6 ⊢
    exact hj.app h1 h2 h3 h4 h5 h6)
  have HQ : Hid (q ≤ 1000000) := hid_of (by omega)
  obtain ⟨k1, k2, k3⟩ := CC.out _ B0.out
  clear h hj hml hTn hm hq hd RU ru
  go_enter Try.func55, Try.ntmps55
  go_wp2
  refine wp_region_any (by kernel_rfl) ?_
  change wpAny _ _ _ _ _ _ _ (World.drew _)
  refine wpAny_ready (rs := [0, 1, 2]) (by kernel_rfl) (by simp) ?_
  refine AllReady.cons rfl (fun K hK => ?_) (AllReady.cons rfl (fun K hK => ?_) (AllReady.cons rfl (fun K hK => ?_) AllReady.nil))
  · go_simp
    refine hK _ _ ?_
    clear hK K
    refine wpAny_ready (rs := [1, 2]) (by kernel_rfl) (by simp) ?_
    refine AllReady.cons rfl (fun K hK => ?_) (AllReady.cons rfl (fun K hK => ?_) AllReady.nil)
    · go_simp
      refine hK _ _ ?_
      clear hK K
      refine wpAny_ready (rs := [2]) (by kernel_rfl) (by simp) ?_
      refine AllReady.cons rfl (fun K hK => ?_) AllReady.nil
      go_simp
      refine hK _ _ ?_
      clear hK K
      refine wpAny_ready (rs := [3]) (by kernel_rfl) (by simp) ?_
      refine AllReady.cons rfl (fun K hK => ?_) AllReady.nil
      go_simp
      with_reducible refine (HME.out _ B0.out).mono ?_
      rintro ee w1 ⟨mo, mc, rfl, h1, h2⟩
      have R1 := hid_of h1
      have B1 := hid_of h2
      obtain ⟨m1, m2, m3⟩ := CC.out _ h2
      clear h1 h2
      refine hK _ _ ?_
      clear hK K
      refine wpAny_ready (rs := [4]) (by kernel_rfl) (by simp) ?_
      refine AllReady.cons rfl (fun K hK => ?_) AllReady.nil
      go_simp
      with_reducible refine (HNM.out w1 mo mc B1.out R1.out).mono ?_
      rintro ee w2 ⟨xo, xc, rfl, h1, h2⟩
      have O2 := hid_of h1
      have B2 := hid_of h2
      have B3 : Hid (Below w.heap.size w (w2.alloc (.cells #[.slice xo m xc] 22))) := hid_of (h2.trans ((bel_alloc w2 _).mono h2.size))
      obtain ⟨n1, n2, n3⟩ := CC.out _ h2
      obtain ⟨p1, p2, p3⟩ := CC.out _ B3.out
      clear h1 h2
      refine hK _ _ ?_
      clear hK K
      refine wpAny_ready (rs := [5]) (by kernel_rfl) (by simp) ?_
      refine AllReady.cons rfl (fun K hK => ?_) AllReady.nil
      go_simp
      refine hK _ _ ?_
      clear hK K
      refine wpAny_ready (rs := [6]) (by kernel_rfl) (by simp) ?_
      refine AllReady.cons rfl (fun K hK => ?_) AllReady.nil
      refine step_own setsE (by rfl) _ _ (by rfl) (.slice ao q cap) q vals (by rfl) (HROW.out _ B3.out) w2.heap.size (.slice xo m xc) (by rfl) (cell_new _ _ _) rfl (by have := HQ.out; omega) (by have := HQ.out; omega) ?_
      intro a2 c2 nz w4 e1 e2 e3 e4
      have PP := hid_of (HAPP.out _ w4 xo a2 xc c2 nz B3.out (own_same O2.out fun k hk => (bel_alloc w2 _).block k (own_lt O2.out hk)) e1 e2 e3 e4)
      clear e1 e2 e3 e4
      have q1 := PP.out.1.1
      have f1 := PP.out.1.2.2.2
      refine hK _ _ ?_
      clear hK K
      refine wpAny_ready (rs := [7]) (by kernel_rfl) (by simp) ?_
      refine AllReady.cons rfl (fun K hK => ?_) AllReady.nil
      go_simp
      refine hK _ _ ?_
      clear hK K
      refine wpAny_done (by kernel_rfl) ?_ _
      go_wp2
      go_ret2
      exact ⟨rfl, PP.out.2⟩
    · go_simp
      refine hK _ _ ?_
      clear hK K
      refine wpAny_ready (rs := [1, 3]) (by kernel_rfl) (by simp) ?_
      refine AllReady.cons rfl (fun K hK => ?_) (AllReady.cons rfl (fun K hK => ?_) AllReady.nil)
      · go_simp
        refine hK _ _ ?_
        clear hK K
        refine wpAny_ready (rs := [3]) (by kernel_rfl) (by simp) ?_
        refine AllReady.cons rfl (fun K hK => ?_) AllReady.nil
        go_simp
        with_reducible refine (HME.out _ B0.out).mono ?_
        rintro ee w1 ⟨mo, mc, rfl, h1, h2⟩
        have R1 := hid_of h1
        have B1 := hid_of h2
        obtain ⟨m1, m2, m3⟩ := CC.out _ h2
        clear h1 h2
        refine hK _ _ ?_
        clear hK K
        refine wpAny_ready (rs := [4]) (by kernel_rfl) (by simp) ?_
        refine AllReady.cons rfl (fun K hK => ?_) AllReady.nil
        go_simp
        with_reducible refine (HNM.out w1 mo mc B1.out R1.out).mono ?_
        rintro ee w2 ⟨xo, xc, rfl, h1, h2⟩
        have O2 := hid_of h1
        have B2 := hid_of h2
        have B3 : Hid (Below w.heap.size w (w2.alloc (.cells #[.slice xo m xc] 22))) := hid_of (h2.trans ((bel_alloc w2 _).mono h2.size))
        obtain ⟨n1, n2, n3⟩ := CC.out _ h2
        obtain ⟨p1, p2, p3⟩ := CC.out _ B3.out
        clear h1 h2
        refine hK _ _ ?_
        clear hK K
        refine wpAny_ready (rs := [5]) (by kernel_rfl) (by simp) ?_
        refine AllReady.cons rfl (fun K hK => ?_) AllReady.nil
        go_simp
        refine hK _ _ ?_
        clear hK K
        refine wpAny_ready (rs := [6]) (by kernel_rfl) (by simp) ?_
        refine AllReady.cons rfl (fun K hK => ?_) AllReady.nil
        refine step_own setsE (by rfl) _ _ (by rfl) (.slice ao q cap) q vals (by rfl) (HROW.out _ B3.out) w2.heap.size (.slice xo m xc) (by rfl) (cell_new _ _ _) rfl (by have := HQ.out; omega) (by have := HQ.out; omega) ?_
        intro a2 c2 nz w4 e1 e2 e3 e4
        have PP := hid_of (HAPP.out _ w4 xo a2 xc c2 nz B3.out (own_same O2.out fun k hk => (bel_alloc w2 _).block k (own_lt O2.out hk)) e1 e2 e3 e4)
        clear e1 e2 e3 e4
        have q1 := PP.out.1.1
        have f1 := PP.out.1.2.2.2
        refine hK _ _ ?_
        clear hK K
        refine wpAny_ready (rs := [7]) (by kernel_rfl) (by simp) ?_
        refine AllReady.cons rfl (fun K hK => ?_) AllReady.nil
        go_simp
        refine hK _ _ ?_
        clear hK K
        refine wpAny_done (by kernel_rfl) ?_ _
        go_wp2
        go_ret2
        exact ⟨rfl, PP.out.2⟩
      · go_simp
        with_reducible refine (HME.out _ B0.out).mono ?_
        rintro ee w1 ⟨mo, mc, rfl, h1, h2⟩
        have R1 := hid_of h1
        have B1 := hid_of h2
        obtain ⟨m1, m2, m3⟩ := CC.out _ h2
        clear h1 h2
        refine hK _ _ ?_
        clear hK K
        refine wpAny_ready (rs := [1]) (by kernel_rfl) (by simp) ?_
        refine AllReady.cons rfl (fun K hK => ?_) AllReady.nil
        go_simp
        refine hK _ _ ?_
        clear hK K
        refine wpAny_ready (rs := [4]) (by kernel_rfl) (by simp) ?_
        refine AllReady.cons rfl (fun K hK => ?_) AllReady.nil
        go_simp
        with_reducible refine (HNM.out w1 mo mc B1.out R1.out).mono ?_
        rintro ee w2 ⟨xo, xc, rfl, h1, h2⟩
        have O2 := hid_of h1
        have B2 := hid_of h2
        have B3 : Hid (Below w.heap.size w (w2.alloc (.cells #[.slice xo m xc] 22))) := hid_of (h2.trans ((bel_alloc w2 _).mono h2.size))
        obtain ⟨n1, n2, n3⟩ := CC.out _ h2
        obtain ⟨p1, p2, p3⟩ := CC.out _ B3.out
        clear h1 h2
        refine hK _ _ ?_
        clear hK K
        refine wpAny_ready (rs := [5]) (by kernel_rfl) (by simp) ?_
        refine AllReady.cons rfl (fun K hK => ?_) AllReady.nil
        go_simp
        refine hK _ _ ?_
        clear hK K
        refine wpAny_ready (rs := [6]) (by kernel_rfl) (by simp) ?_
        refine AllReady.cons rfl (fun K hK => ?_) AllReady.nil
        refine step_own setsE (by rfl) _ _ (by rfl) (.slice ao q cap) q vals (by rfl) (HROW.out _ B3.out) w2.heap.size (.slice xo m xc) (by rfl) (cell_new _ _ _) rfl (by have := HQ.out; omega) (by have := HQ.out; omega) ?_
        intro a2 c2 nz w4 e1 e2 e3 e4
        have PP := hid_of (HAPP.out _ w4 xo a2 xc c2 nz B3.out (own_same O2.out fun k hk => (bel_alloc w2 _).block k (own_lt O2.out hk)) e1 e2 e3 e4)
        clear e1 e2 e3 e4
        have q1 := PP.out.1.1
        have f1 := PP.out.1.2.2.2
        refine hK _ _ ?_
        clear hK K
        refine wpAny_ready (rs := [7]) (by kernel_rfl) (by simp) ?_
        refine AllReady.cons rfl (fun K hK => ?_) AllReady.nil
        go_simp
        refine hK _ _ ?_
        clear hK K
        refine wpAny_done (by kernel_rfl) ?_ _
        go_wp2
        go_ret2
        exact ⟨rfl, PP.out.2⟩
  · go_simp
    refine hK _ _ ?_
    clear hK K
    refine wpAny_ready (rs := [0, 2]) (by kernel_rfl) (by simp) ?_
    refine AllReady.cons rfl (fun K hK => ?_) (AllReady.cons rfl (fun K hK => ?_) AllReady.nil)
    · go_simp
      refine hK _ _ ?_
      clear hK K
      refine wpAny_ready (rs := [2]) (by kernel_rfl) (by simp) ?_
      refine AllReady.cons rfl (fun K hK => ?_) AllReady.nil
      go_simp
      refine hK _ _ ?_
      clear hK K
      refine wpAny_ready (rs := [3]) (by kernel_rfl) (by simp) ?_
      refine AllReady.cons rfl (fun K hK => ?_) AllReady.nil
      go_simp
      with_reducible refine (HME.out _ B0.out).mono ?_
      rintro ee w1 ⟨mo, mc, rfl, h1, h2⟩
      have R1 := hid_of h1
      have B1 := hid_of h2
      obtain ⟨m1, m2, m3⟩ := CC.out _ h2
      clear h1 h2
      refine hK _ _ ?_
      clear hK K
      refine wpAny_ready (rs := [4]) (by kernel_rfl) (by simp) ?_
      refine AllReady.cons rfl (fun K hK => ?_) AllReady.nil
      go_simp
      with_reducible refine (HNM.out w1 mo mc B1.out R1.out).mono ?_
      rintro ee w2 ⟨xo, xc, rfl, h1, h2⟩
      have O2 := hid_of h1
      have B2 := hid_of h2
      have B3 : Hid (Below w.heap.size w (w2.alloc (.cells #[.slice xo m xc] 22))) := hid_of (h2.trans ((bel_alloc w2 _).mono h2.size))
      obtain ⟨n1, n2, n3⟩ := CC.out _ h2
      obtain ⟨p1, p2, p3⟩ := CC.out _ B3.out
      clear h1 h2
      refine hK _ _ ?_
      clear hK K
      refine wpAny_ready (rs := [5]) (by kernel_rfl) (by simp) ?_
      refine AllReady.cons rfl (fun K hK => ?_) AllReady.nil
      go_simp
      refine hK _ _ ?_
      clear hK K
      refine wpAny_ready (rs := [6]) (by kernel_rfl) (by simp) ?_
      refine AllReady.cons rfl (fun K hK => ?_) AllReady.nil
      refine step_own setsE (by rfl) _ _ (by rfl) (.slice ao q cap) q vals (by rfl) (HROW.out _ B3.out) w2.heap.size (.slice xo m xc) (by rfl) (cell_new _ _ _) rfl (by have := HQ.out; omega) (by have := HQ.out; omega) ?_
      intro a2 c2 nz w4 e1 e2 e3 e4
      have PP := hid_of (HAPP.out _ w4 xo a2 xc c2 nz B3.out (own_same O2.out fun k hk => (bel_alloc w2 _).block k (own_lt O2.out hk)) e1 e2 e3 e4)
      clear e1 e2 e3 e4
      have q1 := PP.out.1.1
      have f1 := PP.out.1.2.2.2
      refine hK _ _ ?_
      clear hK K
      refine wpAny_ready (rs := [7]) (by kernel_rfl) (by simp) ?_
      refine AllReady.cons rfl (fun K hK => ?_) AllReady.nil
      go_simp
      refine hK _ _ ?_
      clear hK K
      refine wpAny_done (by kernel_rfl) ?_ _
      go_wp2
      go_ret2
      exact ⟨rfl, PP.out.2⟩
    · go_simp
      refine hK _ _ ?_
      clear hK K
      refine wpAny_ready (rs := [0, 3]) (by kernel_rfl) (by simp) ?_
      refine AllReady.cons rfl (fun K hK => ?_) (AllReady.cons rfl (fun K hK => ?_) AllReady.nil)
      · go_simp
        refine hK _ _ ?_
        clear hK K
        refine wpAny_ready (rs := [3]) (by kernel_rfl) (by simp) ?_
        refine AllReady.cons rfl (fun K hK => ?_) AllReady.nil
        go_simp
        with_reducible refine (HME.out _ B0.out).mono ?_
        rintro ee w1 ⟨mo, mc, rfl, h1, h2⟩
        have R1 := hid_of h1
        have B1 := hid_of h2
        obtain ⟨m1, m2, m3⟩ := CC.out _ h2
        clear h1 h2
        refine hK _ _ ?_
        clear hK K
        refine wpAny_ready (rs := [4]) (by kernel_rfl) (by simp) ?_
        refine AllReady.cons rfl (fun K hK => ?_) AllReady.nil
        go_simp
        with_reducible refine (HNM.out w1 mo mc B1.out R1.out).mono ?_
        rintro ee w2 ⟨xo, xc, rfl, h1, h2⟩
        have O2 := hid_of h1
        have B2 := hid_of h2
        have B3 : Hid (Below w.heap.size w (w2.alloc (.cells #[.slice xo m xc] 22))) := hid_of (h2.trans ((bel_alloc w2 _).mono h2.size))
        obtain ⟨n1, n2, n3⟩ := CC.out _ h2
        obtain ⟨p1, p2, p3⟩ := CC.out _ B3.out
        clear h1 h2
        refine hK _ _ ?_
        clear hK K
        refine wpAny_ready (rs := [5]) (by kernel_rfl) (by simp) ?_
        refine AllReady.cons rfl (fun K hK => ?_) AllReady.nil
        go_simp
        refine hK _ _ ?_
        clear hK K
        refine wpAny_ready (rs := [6]) (by kernel_rfl) (by simp) ?_
        refine AllReady.cons rfl (fun K hK => ?_) AllReady.nil
        refine step_own setsE (by rfl) _ _ (by rfl) (.slice ao q cap) q vals (by rfl) (HROW.out _ B3.out) w2.heap.size (.slice xo m xc) (by rfl) (cell_new _ _ _) rfl (by have := HQ.out; omega) (by have := HQ.out; omega) ?_
        intro a2 c2 nz w4 e1 e2 e3 e4
        have PP := hid_of (HAPP.out _ w4 xo a2 xc c2 nz B3.out (own_same O2.out fun k hk => (bel_alloc w2 _).block k (own_lt O2.out hk)) e1 e2 e3 e4)
        clear e1 e2 e3 e4
        have q1 := PP.out.1.1
        have f1 := PP.out.1.2.2.2
        refine hK _ _ ?_
        clear hK K
        refine wpAny_ready (rs := [7]) (by kernel_rfl) (by simp) ?_
        refine AllReady.cons rfl (fun K hK => ?_) AllReady.nil
        go_simp
        refine hK _ _ ?_
        clear hK K
        refine wpAny_done (by kernel_rfl) ?_ _
        go_wp2
        go_ret2
        exact ⟨rfl, PP.out.2⟩
      · go_simp
        with_reducible refine (HME.out _ B0.out).mono ?_
        rintro ee w1 ⟨mo, mc, rfl, h1, h2⟩
        have R1 := hid_of h1
        have B1 := hid_of h2
        obtain ⟨m1, m2, m3⟩ := CC.out _ h2
        clear h1 h2
        refine hK _ _ ?_
        clear hK K
        refine wpAny_ready (rs := [0, 4]) (by kernel_rfl) (by simp) ?_
        refine AllReady.cons rfl (fun K hK => ?_) (AllReady.cons rfl (fun K hK => ?_) AllReady.nil)
        · go_simp
          refine hK _ _ ?_
          clear hK K
          refine wpAny_ready (rs := [4]) (by kernel_rfl) (by simp) ?_
          refine AllReady.cons rfl (fun K hK => ?_) AllReady.nil
          go_simp
          with_reducible refine (HNM.out w1 mo mc B1.out R1.out).mono ?_
          rintro ee w2 ⟨xo, xc, rfl, h1, h2⟩
          have O2 := hid_of h1
          have B2 := hid_of h2
          have B3 : Hid (Below w.heap.size w (w2.alloc (.cells #[.slice xo m xc] 22))) := hid_of (h2.trans ((bel_alloc w2 _).mono h2.size))
          obtain ⟨n1, n2, n3⟩ := CC.out _ h2
          obtain ⟨p1, p2, p3⟩ := CC.out _ B3.out
          clear h1 h2
          refine hK _ _ ?_
          clear hK K
          refine wpAny_ready (rs := [5]) (by kernel_rfl) (by simp) ?_
          refine AllReady.cons rfl (fun K hK => ?_) AllReady.nil
          go_simp
          refine hK _ _ ?_
          clear hK K
          refine wpAny_ready (rs := [6]) (by kernel_rfl) (by simp) ?_
          refine AllReady.cons rfl (fun K hK => ?_) AllReady.nil
          refine step_own setsE (by rfl) _ _ (by rfl) (.slice ao q cap) q vals (by rfl) (HROW.out _ B3.out) w2.heap.size (.slice xo m xc) (by rfl) (cell_new _ _ _) rfl (by have := HQ.out; omega) (by have := HQ.out; omega) ?_
          intro a2 c2 nz w4 e1 e2 e3 e4
          have PP := hid_of (HAPP.out _ w4 xo a2 xc c2 nz B3.out (own_same O2.out fun k hk => (bel_alloc w2 _).block k (own_lt O2.out hk)) e1 e2 e3 e4)
          clear e1 e2 e3 e4
          have q1 := PP.out.1.1
          have f1 := PP.out.1.2.2.2
          refine hK _ _ ?_
          clear hK K
          refine wpAny_ready (rs := [7]) (by kernel_rfl) (by simp) ?_
          refine AllReady.cons rfl (fun K hK => ?_) AllReady.nil
          go_simp
          refine hK _ _ ?_
          clear hK K
          refine wpAny_done (by kernel_rfl) ?_ _
          go_wp2
          go_ret2
          exact ⟨rfl, PP.out.2⟩
        · go_simp
          with_reducible refine (HNM.out w1 mo mc B1.out R1.out).mono ?_
          rintro ee w2 ⟨xo, xc, rfl, h1, h2⟩
          have O2 := hid_of h1
          have B2 := hid_of h2
          have B3 : Hid (Below w.heap.size w (w2.alloc (.cells #[.slice xo m xc] 22))) := hid_of (h2.trans ((bel_alloc w2 _).mono h2.size))
          obtain ⟨n1, n2, n3⟩ := CC.out _ h2
          obtain ⟨p1, p2, p3⟩ := CC.out _ B3.out
          clear h1 h2
          refine hK _ _ ?_
          clear hK K
          refine wpAny_ready (rs := [0, 5]) (by kernel_rfl) (by simp) ?_
          refine AllReady.cons rfl (fun K hK => ?_) (AllReady.cons rfl (fun K hK => ?_) AllReady.nil)
          · go_simp
            refine hK _ _ ?_
            clear hK K
            refine wpAny_ready (rs := [5]) (by kernel_rfl) (by simp) ?_
            refine AllReady.cons rfl (fun K hK => ?_) AllReady.nil
            go_simp
            refine hK _ _ ?_
            clear hK K
            refine wpAny_ready (rs := [6]) (by kernel_rfl) (by simp) ?_
            refine AllReady.cons rfl (fun K hK => ?_) AllReady.nil
            refine step_own setsE (by rfl) _ _ (by rfl) (.slice ao q cap) q vals (by rfl) (HROW.out _ B3.out) w2.heap.size (.slice xo m xc) (by rfl) (cell_new _ _ _) rfl (by have := HQ.out; omega) (by have := HQ.out; omega) ?_
            intro a2 c2 nz w4 e1 e2 e3 e4
            have PP := hid_of (HAPP.out _ w4 xo a2 xc c2 nz B3.out (own_same O2.out fun k hk => (bel_alloc w2 _).block k (own_lt O2.out hk)) e1 e2 e3 e4)
            clear e1 e2 e3 e4
            have q1 := PP.out.1.1
            have f1 := PP.out.1.2.2.2
            refine hK _ _ ?_
            clear hK K
            refine wpAny_ready (rs := [7]) (by kernel_rfl) (by simp) ?_
            refine AllReady.cons rfl (fun K hK => ?_) AllReady.nil
            go_simp
            refine hK _ _ ?_
            clear hK K
            refine wpAny_done (by kernel_rfl) ?_ _
            go_wp2
            go_ret2
            exact ⟨rfl, PP.out.2⟩
          · go_simp
            refine hK _ _ ?_
            clear hK K
            refine wpAny_ready (rs := [0]) (by kernel_rfl) (by simp) ?_
            refine AllReady.cons rfl (fun K hK => ?_) AllReady.nil
            go_simp
            refine hK _ _ ?_
            clear hK K
            refine wpAny_ready (rs := [6]) (by kernel_rfl) (by simp) ?_
            refine AllReady.cons rfl (fun K hK => ?_) AllReady.nil
            refine step_own setsE (by rfl) _ _ (by rfl) (.slice ao q cap) q vals (by rfl) (HROW.out _ B3.out) w2.heap.size (.slice xo m xc) (by rfl) (cell_new _ _ _) rfl (by have := HQ.out; omega) (by have := HQ.out; omega) ?_
            intro a2 c2 nz w4 e1 e2 e3 e4
            have PP := hid_of (HAPP.out _ w4 xo a2 xc c2 nz B3.out (own_same O2.out fun k hk => (bel_alloc w2 _).block k (own_lt O2.out hk)) e1 e2 e3 e4)
            clear e1 e2 e3 e4
            have q1 := PP.out.1.1
            have f1 := PP.out.1.2.2.2
            refine hK _ _ ?_
            clear hK K
            refine wpAny_ready (rs := [7]) (by kernel_rfl) (by simp) ?_
            refine AllReady.cons rfl (fun K hK => ?_) AllReady.nil
            go_simp
            refine hK _ _ ?_
            clear hK K
            refine wpAny_done (by kernel_rfl) ?_ _
            go_wp2
            go_ret2
            exact ⟨rfl, PP.out.2⟩
  · go_simp
    refine hK _ _ ?_
    clear hK K
    refine wpAny_ready (rs := [0, 1, 3]) (by kernel_rfl) (by simp) ?_
    refine AllReady.cons rfl (fun K hK => ?_) (AllReady.cons rfl (fun K hK => ?_) (AllReady.cons rfl (fun K hK => ?_) AllReady.nil))
    · go_simp
      refine hK _ _ ?_
      clear hK K
      refine wpAny_ready (rs := [1, 3]) (by kernel_rfl) (by simp) ?_
      refine AllReady.cons rfl (fun K hK => ?_) (AllReady.cons rfl (fun K hK => ?_) AllReady.nil)
      · go_simp
        refine hK _ _ ?_
        clear hK K
        refine wpAny_ready (rs := [3]) (by kernel_rfl) (by simp) ?_
        refine AllReady.cons rfl (fun K hK => ?_) AllReady.nil
        go_simp
        with_reducible refine (HME.out _ B0.out).mono ?_
        rintro ee w1 ⟨mo, mc, rfl, h1, h2⟩
        have R1 := hid_of h1
        have B1 := hid_of h2
        obtain ⟨m1, m2, m3⟩ := CC.out _ h2
        clear h1 h2
        refine hK _ _ ?_
        clear hK K
        refine wpAny_ready (rs := [4]) (by kernel_rfl) (by simp) ?_
        refine AllReady.cons rfl (fun K hK => ?_) AllReady.nil
        go_simp
        with_reducible refine (HNM.out w1 mo mc B1.out R1.out).mono ?_
        rintro ee w2 ⟨xo, xc, rfl, h1, h2⟩
        have O2 := hid_of h1
        have B2 := hid_of h2
        have B3 : Hid (Below w.heap.size w (w2.alloc (.cells #[.slice xo m xc] 22))) := hid_of (h2.trans ((bel_alloc w2 _).mono h2.size))
        obtain ⟨n1, n2, n3⟩ := CC.out _ h2
        obtain ⟨p1, p2, p3⟩ := CC.out _ B3.out
        clear h1 h2
        refine hK _ _ ?_
        clear hK K
        refine wpAny_ready (rs := [5]) (by kernel_rfl) (by simp) ?_
        refine AllReady.cons rfl (fun K hK => ?_) AllReady.nil
        go_simp
        refine hK _ _ ?_
        clear hK K
        refine wpAny_ready (rs := [6]) (by kernel_rfl) (by simp) ?_
        refine AllReady.cons rfl (fun K hK => ?_) AllReady.nil
        refine step_own setsE (by rfl) _ _ (by rfl) (.slice ao q cap) q vals (by rfl) (HROW.out _ B3.out) w2.heap.size (.slice xo m xc) (by rfl) (cell_new _ _ _) rfl (by have := HQ.out; omega) (by have := HQ.out; omega) ?_
        intro a2 c2 nz w4 e1 e2 e3 e4
        have PP := hid_of (HAPP.out _ w4 xo a2 xc c2 nz B3.out (own_same O2.out fun k hk => (bel_alloc w2 _).block k (own_lt O2.out hk)) e1 e2 e3 e4)
        clear e1 e2 e3 e4
        have q1 := PP.out.1.1
        have f1 := PP.out.1.2.2.2
        refine hK _ _ ?_
        clear hK K
        refine wpAny_ready (rs := [7]) (by kernel_rfl) (by simp) ?_
        refine AllReady.cons rfl (fun K hK => ?_) AllReady.nil
        go_simp
        refine hK _ _ ?_
        clear hK K
        refine wpAny_done (by kernel_rfl) ?_ _
        go_wp2
        go_ret2
        exact ⟨rfl, PP.out.2⟩
      · go_simp
        with_reducible refine (HME.out _ B0.out).mono ?_
        rintro ee w1 ⟨mo, mc, rfl, h1, h2⟩
        have R1 := hid_of h1
        have B1 := hid_of h2
        obtain ⟨m1, m2, m3⟩ := CC.out _ h2
        clear h1 h2
        refine hK _ _ ?_
        clear hK K
        refine wpAny_ready (rs := [1]) (by kernel_rfl) (by simp) ?_
        refine AllReady.cons rfl (fun K hK => ?_) AllReady.nil
        go_simp
        refine hK _ _ ?_
        clear hK K
        refine wpAny_ready (rs := [4]) (by kernel_rfl) (by simp) ?_
        refine AllReady.cons rfl (fun K hK => ?_) AllReady.nil
        go_simp
        with_reducible refine (HNM.out w1 mo mc B1.out R1.out).mono ?_
        rintro ee w2 ⟨xo, xc, rfl, h1, h2⟩
        have O2 := hid_of h1
        have B2 := hid_of h2
        have B3 : Hid (Below w.heap.size w (w2.alloc (.cells #[.slice xo m xc] 22))) := hid_of (h2.trans ((bel_alloc w2 _).mono h2.size))
        obtain ⟨n1, n2, n3⟩ := CC.out _ h2
        obtain ⟨p1, p2, p3⟩ := CC.out _ B3.out
        clear h1 h2
        refine hK _ _ ?_
        clear hK K
        refine wpAny_ready (rs := [5]) (by kernel_rfl) (by simp) ?_
        refine AllReady.cons rfl (fun K hK => ?_) AllReady.nil
        go_simp
        refine hK _ _ ?_
        clear hK K
        refine wpAny_ready (rs := [6]) (by kernel_rfl) (by simp) ?_
        refine AllReady.cons rfl (fun K hK => ?_) AllReady.nil
        refine step_own setsE (by rfl) _ _ (by rfl) (.slice ao q cap) q vals (by rfl) (HROW.out _ B3.out) w2.heap.size (.slice xo m xc) (by rfl) (cell_new _ _ _) rfl (by have := HQ.out; omega) (by have := HQ.out; omega) ?_
        intro a2 c2 nz w4 e1 e2 e3 e4
        have PP := hid_of (HAPP.out _ w4 xo a2 xc c2 nz B3.out (own_same O2.out fun k hk => (bel_alloc w2 _).block k (own_lt O2.out hk)) e1 e2 e3 e4)
        clear e1 e2 e3 e4
        have q1 := PP.out.1.1
        have f1 := PP.out.1.2.2.2
        refine hK _ _ ?_
        clear hK K
        refine wpAny_ready (rs := [7]) (by kernel_rfl) (by simp) ?_
        refine AllReady.cons rfl (fun K hK => ?_) AllReady.nil
        go_simp
        refine hK _ _ ?_
        clear hK K
        refine wpAny_done (by kernel_rfl) ?_ _
        go_wp2
        go_ret2
        exact ⟨rfl, PP.out.2⟩
    · go_simp
      refine hK _ _ ?_
      clear hK K
      refine wpAny_ready (rs := [0, 3]) (by kernel_rfl) (by simp) ?_
      refine AllReady.cons rfl (fun K hK => ?_) (AllReady.cons rfl (fun K hK => ?_) AllReady.nil)
      · go_simp
        refine hK _ _ ?_
        clear hK K
        refine wpAny_ready (rs := [3]) (by kernel_rfl) (by simp) ?_
        refine AllReady.cons rfl (fun K hK => ?_) AllReady.nil
        go_simp
        with_reducible refine (HME.out _ B0.out).mono ?_
        rintro ee w1 ⟨mo, mc, rfl, h1, h2⟩
        have R1 := hid_of h1
        have B1 := hid_of h2
        obtain ⟨m1, m2, m3⟩ := CC.out _ h2
        clear h1 h2
        refine hK _ _ ?_
        clear hK K
        refine wpAny_ready (rs := [4]) (by kernel_rfl) (by simp) ?_
        refine AllReady.cons rfl (fun K hK => ?_) AllReady.nil
        go_simp
        with_reducible refine (HNM.out w1 mo mc B1.out R1.out).mono ?_
        rintro ee w2 ⟨xo, xc, rfl, h1, h2⟩
        have O2 := hid_of h1
        have B2 := hid_of h2
        have B3 : Hid (Below w.heap.size w (w2.alloc (.cells #[.slice xo m xc] 22))) := hid_of (h2.trans ((bel_alloc w2 _).mono h2.size))
        obtain ⟨n1, n2, n3⟩ := CC.out _ h2
        obtain ⟨p1, p2, p3⟩ := CC.out _ B3.out
        clear h1 h2
        refine hK _ _ ?_
        clear hK K
        refine wpAny_ready (rs := [5]) (by kernel_rfl) (by simp) ?_
        refine AllReady.cons rfl (fun K hK => ?_) AllReady.nil
        go_simp
        refine hK _ _ ?_
        clear hK K
        refine wpAny_ready (rs := [6]) (by kernel_rfl) (by simp) ?_
        refine AllReady.cons rfl (fun K hK => ?_) AllReady.nil
        refine step_own setsE (by rfl) _ _ (by rfl) (.slice ao q cap) q vals (by rfl) (HROW.out _ B3.out) w2.heap.size (.slice xo m xc) (by rfl) (cell_new _ _ _) rfl (by have := HQ.out; omega) (by have := HQ.out; omega) ?_
        intro a2 c2 nz w4 e1 e2 e3 e4
        have PP := hid_of (HAPP.out _ w4 xo a2 xc c2 nz B3.out (own_same O2.out fun k hk => (bel_alloc w2 _).block k (own_lt O2.out hk)) e1 e2 e3 e4)
        clear e1 e2 e3 e4
        have q1 := PP.out.1.1
        have f1 := PP.out.1.2.2.2
        refine hK _ _ ?_
        clear hK K
        refine wpAny_ready (rs := [7]) (by kernel_rfl) (by simp) ?_
        refine AllReady.cons rfl (fun K hK => ?_) AllReady.nil
        go_simp
        refine hK _ _ ?_
        clear hK K
        refine wpAny_done (by kernel_rfl) ?_ _
        go_wp2
        go_ret2
        exact ⟨rfl, PP.out.2⟩
      · go_simp
        with_reducible refine (HME.out _ B0.out).mono ?_
        rintro ee w1 ⟨mo, mc, rfl, h1, h2⟩
        have R1 := hid_of h1
        have B1 := hid_of h2
        obtain ⟨m1, m2, m3⟩ := CC.out _ h2
        clear h1 h2
        refine hK _ _ ?_
        clear hK K
        refine wpAny_ready (rs := [0, 4]) (by kernel_rfl) (by simp) ?_
        refine AllReady.cons rfl (fun K hK => ?_) (AllReady.cons rfl (fun K hK => ?_) AllReady.nil)
        · go_simp
          refine hK _ _ ?_
          clear hK K
          refine wpAny_ready (rs := [4]) (by kernel_rfl) (by simp) ?_
          refine AllReady.cons rfl (fun K hK => ?_) AllReady.nil
          go_simp
          with_reducible refine (HNM.out w1 mo mc B1.out R1.out).mono ?_
          rintro ee w2 ⟨xo, xc, rfl, h1, h2⟩
          have O2 := hid_of h1
          have B2 := hid_of h2
          have B3 : Hid (Below w.heap.size w (w2.alloc (.cells #[.slice xo m xc] 22))) := hid_of (h2.trans ((bel_alloc w2 _).mono h2.size))
          obtain ⟨n1, n2, n3⟩ := CC.out _ h2
          obtain ⟨p1, p2, p3⟩ := CC.out _ B3.out
          clear h1 h2
          refine hK _ _ ?_
          clear hK K
          refine wpAny_ready (rs := [5]) (by kernel_rfl) (by simp) ?_
          refine AllReady.cons rfl (fun K hK => ?_) AllReady.nil
          go_simp
          refine hK _ _ ?_
          clear hK K
          refine wpAny_ready (rs := [6]) (by kernel_rfl) (by simp) ?_
          refine AllReady.cons rfl (fun K hK => ?_) AllReady.nil
          refine step_own setsE (by rfl) _ _ (by rfl) (.slice ao q cap) q vals (by rfl) (HROW.out _ B3.out) w2.heap.size (.slice xo m xc) (by rfl) (cell_new _ _ _) rfl (by have := HQ.out; omega) (by have := HQ.out; omega) ?_
          intro a2 c2 nz w4 e1 e2 e3 e4
          have PP := hid_of (HAPP.out _ w4 xo a2 xc c2 nz B3.out (own_same O2.out fun k hk => (bel_alloc w2 _).block k (own_lt O2.out hk)) e1 e2 e3 e4)
          clear e1 e2 e3 e4
          have q1 := PP.out.1.1
          have f1 := PP.out.1.2.2.2
          refine hK _ _ ?_
          clear hK K
          refine wpAny_ready (rs := [7]) (by kernel_rfl) (by simp) ?_
          refine AllReady.cons rfl (fun K hK => ?_) AllReady.nil
          go_simp
          refine hK _ _ ?_
          clear hK K
          refine wpAny_done (by kernel_rfl) ?_ _
          go_wp2
          go_ret2
          exact ⟨rfl, PP.out.2⟩
        · go_simp
          with_reducible refine (HNM.out w1 mo mc B1.out R1.out).mono ?_
          rintro ee w2 ⟨xo, xc, rfl, h1, h2⟩
          have O2 := hid_of h1
          have B2 := hid_of h2
          have B3 : Hid (Below w.heap.size w (w2.alloc (.cells #[.slice xo m xc] 22))) := hid_of (h2.trans ((bel_alloc w2 _).mono h2.size))
          obtain ⟨n1, n2, n3⟩ := CC.out _ h2
          obtain ⟨p1, p2, p3⟩ := CC.out _ B3.out
          clear h1 h2
          refine hK _ _ ?_
          clear hK K
          refine wpAny_ready (rs := [0, 5]) (by kernel_rfl) (by simp) ?_
          refine AllReady.cons rfl (fun K hK => ?_) (AllReady.cons rfl (fun K hK => ?_) AllReady.nil)
          · go_simp
            refine hK _ _ ?_
            clear hK K
            refine wpAny_ready (rs := [5]) (by kernel_rfl) (by simp) ?_
            refine AllReady.cons rfl (fun K hK => ?_) AllReady.nil
            go_simp
            refine hK _ _ ?_
            clear hK K
            refine wpAny_ready (rs := [6]) (by kernel_rfl) (by simp) ?_
            refine AllReady.cons rfl (fun K hK => ?_) AllReady.nil
            refine step_own setsE (by rfl) _ _ (by rfl) (.slice ao q cap) q vals (by rfl) (HROW.out _ B3.out) w2.heap.size (.slice xo m xc) (by rfl) (cell_new _ _ _) rfl (by have := HQ.out; omega) (by have := HQ.out; omega) ?_
            intro a2 c2 nz w4 e1 e2 e3 e4
            have PP := hid_of (HAPP.out _ w4 xo a2 xc c2 nz B3.out (own_same O2.out fun k hk => (bel_alloc w2 _).block k (own_lt O2.out hk)) e1 e2 e3 e4)
            clear e1 e2 e3 e4
            have q1 := PP.out.1.1
            have f1 := PP.out.1.2.2.2
            refine hK _ _ ?_
            clear hK K
            refine wpAny_ready (rs := [7]) (by kernel_rfl) (by simp) ?_
            refine AllReady.cons rfl (fun K hK => ?_) AllReady.nil
            go_simp
            refine hK _ _ ?_
            clear hK K
            refine wpAny_done (by kernel_rfl) ?_ _
            go_wp2
            go_ret2
            exact ⟨rfl, PP.out.2⟩
          · go_simp
            refine hK _ _ ?_
            clear hK K
            refine wpAny_ready (rs := [0]) (by kernel_rfl) (by simp) ?_
            refine AllReady.cons rfl (fun K hK => ?_) AllReady.nil
            go_simp
            refine hK _ _ ?_
            clear hK K
            refine wpAny_ready (rs := [6]) (by kernel_rfl) (by simp) ?_
            refine AllReady.cons rfl (fun K hK => ?_) AllReady.nil
            refine step_own setsE (by rfl) _ _ (by rfl) (.slice ao q cap) q vals (by rfl) (HROW.out _ B3.out) w2.heap.size (.slice xo m xc) (by rfl) (cell_new _ _ _) rfl (by have := HQ.out; omega) (by have := HQ.out; omega) ?_
            intro a2 c2 nz w4 e1 e2 e3 e4
            have PP := hid_of (HAPP.out _ w4 xo a2 xc c2 nz B3.out (own_same O2.out fun k hk => (bel_alloc w2 _).block k (own_lt O2.out hk)) e1 e2 e3 e4)
            clear e1 e2 e3 e4
            have q1 := PP.out.1.1
            have f1 := PP.out.1.2.2.2
            refine hK _ _ ?_
            clear hK K
            refine wpAny_ready (rs := [7]) (by kernel_rfl) (by simp) ?_
            refine AllReady.cons rfl (fun K hK => ?_) AllReady.nil
            go_simp
            refine hK _ _ ?_
            clear hK K
            refine wpAny_done (by kernel_rfl) ?_ _
            go_wp2
            go_ret2
            exact ⟨rfl, PP.out.2⟩
    · go_simp
      with_reducible refine (HME.out _ B0.out).mono ?_
      rintro ee w1 ⟨mo, mc, rfl, h1, h2⟩
      have R1 := hid_of h1
      have B1 := hid_of h2
      obtain ⟨m1, m2, m3⟩ := CC.out _ h2
      clear h1 h2
      refine hK _ _ ?_
      clear hK K
      refine wpAny_ready (rs := [0, 1]) (by kernel_rfl) (by simp) ?_
      refine AllReady.cons rfl (fun K hK => ?_) (AllReady.cons rfl (fun K hK => ?_) AllReady.nil)
      · go_simp
        refine hK _ _ ?_
        clear hK K
        refine wpAny_ready (rs := [1]) (by kernel_rfl) (by simp) ?_
        refine AllReady.cons rfl (fun K hK => ?_) AllReady.nil
        go_simp
        refine hK _ _ ?_
        clear hK K
        refine wpAny_ready (rs := [4]) (by kernel_rfl) (by simp) ?_
        refine AllReady.cons rfl (fun K hK => ?_) AllReady.nil
        go_simp
        with_reducible refine (HNM.out w1 mo mc B1.out R1.out).mono ?_
        rintro ee w2 ⟨xo, xc, rfl, h1, h2⟩
        have O2 := hid_of h1
        have B2 := hid_of h2
        have B3 : Hid (Below w.heap.size w (w2.alloc (.cells #[.slice xo m xc] 22))) := hid_of (h2.trans ((bel_alloc w2 _).mono h2.size))
        obtain ⟨n1, n2, n3⟩ := CC.out _ h2
        obtain ⟨p1, p2, p3⟩ := CC.out _ B3.out
        clear h1 h2
        refine hK _ _ ?_
        clear hK K
        refine wpAny_ready (rs := [5]) (by kernel_rfl) (by simp) ?_
        refine AllReady.cons rfl (fun K hK => ?_) AllReady.nil
        go_simp
        refine hK _ _ ?_
        clear hK K
        refine wpAny_ready (rs := [6]) (by kernel_rfl) (by simp) ?_
        refine AllReady.cons rfl (fun K hK => ?_) AllReady.nil
        refine step_own setsE (by rfl) _ _ (by rfl) (.slice ao q cap) q vals (by rfl) (HROW.out _ B3.out) w2.heap.size (.slice xo m xc) (by rfl) (cell_new _ _ _) rfl (by have := HQ.out; omega) (by have := HQ.out; omega) ?_
        intro a2 c2 nz w4 e1 e2 e3 e4
        have PP := hid_of (HAPP.out _ w4 xo a2 xc c2 nz B3.out (own_same O2.out fun k hk => (bel_alloc w2 _).block k (own_lt O2.out hk)) e1 e2 e3 e4)
        clear e1 e2 e3 e4
        have q1 := PP.out.1.1
        have f1 := PP.out.1.2.2.2
        refine hK _ _ ?_
        clear hK K
        refine wpAny_ready (rs := [7]) (by kernel_rfl) (by simp) ?_
        refine AllReady.cons rfl (fun K hK => ?_) AllReady.nil
        go_simp
        refine hK _ _ ?_
        clear hK K
        refine wpAny_done (by kernel_rfl) ?_ _
        go_wp2
        go_ret2
        exact ⟨rfl, PP.out.2⟩
      · go_simp
        refine hK _ _ ?_
        clear hK K
        refine wpAny_ready (rs := [0, 4]) (by kernel_rfl) (by simp) ?_
        refine AllReady.cons rfl (fun K hK => ?_) (AllReady.cons rfl (fun K hK => ?_) AllReady.nil)
        · go_simp
          refine hK _ _ ?_
          clear hK K
          refine wpAny_ready (rs := [4]) (by kernel_rfl) (by simp) ?_
          refine AllReady.cons rfl (fun K hK => ?_) AllReady.nil
          go_simp
          with_reducible refine (HNM.out w1 mo mc B1.out R1.out).mono ?_
          rintro ee w2 ⟨xo, xc, rfl, h1, h2⟩
          have O2 := hid_of h1
          have B2 := hid_of h2
          have B3 : Hid (Below w.heap.size w (w2.alloc (.cells #[.slice xo m xc] 22))) := hid_of (h2.trans ((bel_alloc w2 _).mono h2.size))
          obtain ⟨n1, n2, n3⟩ := CC.out _ h2
          obtain ⟨p1, p2, p3⟩ := CC.out _ B3.out
          clear h1 h2
          refine hK _ _ ?_
          clear hK K
          refine wpAny_ready (rs := [5]) (by kernel_rfl) (by simp) ?_
          refine AllReady.cons rfl (fun K hK => ?_) AllReady.nil
          go_simp
          refine hK _ _ ?_
          clear hK K
          refine wpAny_ready (rs := [6]) (by kernel_rfl) (by simp) ?_
          refine AllReady.cons rfl (fun K hK => ?_) AllReady.nil
          refine step_own setsE (by rfl) _ _ (by rfl) (.slice ao q cap) q vals (by rfl) (HROW.out _ B3.out) w2.heap.size (.slice xo m xc) (by rfl) (cell_new _ _ _) rfl (by have := HQ.out; omega) (by have := HQ.out; omega) ?_
          intro a2 c2 nz w4 e1 e2 e3 e4
          have PP := hid_of (HAPP.out _ w4 xo a2 xc c2 nz B3.out (own_same O2.out fun k hk => (bel_alloc w2 _).block k (own_lt O2.out hk)) e1 e2 e3 e4)
          clear e1 e2 e3 e4
          have q1 := PP.out.1.1
          have f1 := PP.out.1.2.2.2
          refine hK _ _ ?_
          clear hK K
          refine wpAny_ready (rs := [7]) (by kernel_rfl) (by simp) ?_
          refine AllReady.cons rfl (fun K hK => ?_) AllReady.nil
          go_simp
          refine hK _ _ ?_
          clear hK K
          refine wpAny_done (by kernel_rfl) ?_ _
          go_wp2
          go_ret2
          exact ⟨rfl, PP.out.2⟩
        · go_simp
          with_reducible refine (HNM.out w1 mo mc B1.out R1.out).mono ?_
          rintro ee w2 ⟨xo, xc, rfl, h1, h2⟩
          have O2 := hid_of h1
          have B2 := hid_of h2
          have B3 : Hid (Below w.heap.size w (w2.alloc (.cells #[.slice xo m xc] 22))) := hid_of (h2.trans ((bel_alloc w2 _).mono h2.size))
          obtain ⟨n1, n2, n3⟩ := CC.out _ h2
          obtain ⟨p1, p2, p3⟩ := CC.out _ B3.out
          clear h1 h2
          refine hK _ _ ?_
          clear hK K
          refine wpAny_ready (rs := [0, 5]) (by kernel_rfl) (by simp) ?_
          refine AllReady.cons rfl (fun K hK => ?_) (AllReady.cons rfl (fun K hK => ?_) AllReady.nil)
          · go_simp
            refine hK _ _ ?_
            clear hK K
            refine wpAny_ready (rs := [5]) (by kernel_rfl) (by simp) ?_
            refine AllReady.cons rfl (fun K hK => ?_) AllReady.nil
            go_simp
            refine hK _ _ ?_
            clear hK K
            refine wpAny_ready (rs := [6]) (by kernel_rfl) (by simp) ?_
            refine AllReady.cons rfl (fun K hK => ?_) AllReady.nil
            refine step_own setsE (by rfl) _ _ (by rfl) (.slice ao q cap) q vals (by rfl) (HROW.out _ B3.out) w2.heap.size (.slice xo m xc) (by rfl) (cell_new _ _ _) rfl (by have := HQ.out; omega) (by have := HQ.out; omega) ?_
            intro a2 c2 nz w4 e1 e2 e3 e4
            have PP := hid_of (HAPP.out _ w4 xo a2 xc c2 nz B3.out (own_same O2.out fun k hk => (bel_alloc w2 _).block k (own_lt O2.out hk)) e1 e2 e3 e4)
            clear e1 e2 e3 e4
            have q1 := PP.out.1.1
            have f1 := PP.out.1.2.2.2
            refine hK _ _ ?_
            clear hK K
            refine wpAny_ready (rs := [7]) (by kernel_rfl) (by simp) ?_
            refine AllReady.cons rfl (fun K hK => ?_) AllReady.nil
            go_simp
            refine hK _ _ ?_
            clear hK K
            refine wpAny_done (by kernel_rfl) ?_ _
            go_wp2
            go_ret2
            exact ⟨rfl, PP.out.2⟩
          · go_simp
            refine hK _ _ ?_
            clear hK K
            refine wpAny_ready (rs := [0]) (by kernel_rfl) (by simp) ?_
            refine AllReady.cons rfl (fun K hK => ?_) AllReady.nil
            go_simp
            refine hK _ _ ?_
            clear hK K
            refine wpAny_ready (rs := [6]) (by kernel_rfl) (by simp) ?_
            refine AllReady.cons rfl (fun K hK => ?_) AllReady.nil
            refine step_own setsE (by rfl) _ _ (by rfl) (.slice ao q cap) q vals (by rfl) (HROW.out _ B3.out) w2.heap.size (.slice xo m xc) (by rfl) (cell_new _ _ _) rfl (by have := HQ.out; omega) (by have := HQ.out; omega) ?_
            intro a2 c2 nz w4 e1 e2 e3 e4
            have PP := hid_of (HAPP.out _ w4 xo a2 xc c2 nz B3.out (own_same O2.out fun k hk => (bel_alloc w2 _).block k (own_lt O2.out hk)) e1 e2 e3 e4)
            clear e1 e2 e3 e4
            have q1 := PP.out.1.1
            have f1 := PP.out.1.2.2.2
            refine hK _ _ ?_
            clear hK K
            refine wpAny_ready (rs := [7]) (by kernel_rfl) (by simp) ?_
            refine AllReady.cons rfl (fun K hK => ?_) AllReady.nil
            go_simp
            refine hK _ _ ?_
            clear hK K
            refine wpAny_done (by kernel_rfl) ?_ _
            go_wp2
            go_ret2
            exact ⟨rfl, PP.out.2⟩
end Go.Proofs.Ytjponegeidiheaa
