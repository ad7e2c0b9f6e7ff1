/- Texts in one: ClsAll2, ClsAllM, ClsAll, ClsAwk, ClsOp, ClsRch2. -/
import Derived.Test.YtedohggbpmcehaaMgRE
/- The gathering visit of All. Bounds on sizes alone. -/
namespace Go.Proofs.Ytedohggbpmcehaa
open Go.RowKit

theorem setsE : Elem Try.prog 45 22 (.slice none 0 0) 24 := ⟨Try.underlying45, by kernel_rfl, rfl⟩
theorem own_up {W : World} {B e s n : Nat} {v : Value} {xs : List Value} (h : W.ownsRow 0 e s v n xs) (hB : ∀ g, v.ownBlock = some g → B ≤ g) : W.ownsRow B e s v n xs := by
  obtain ⟨h1, h2⟩ := h
  refine ⟨h1, ?_⟩
  rcases h2 with h2 | ⟨g, cap, cur, hv, _, r⟩
  · exact .inl h2
  · exact .inr ⟨g, cap, cur, hv, hB g (by rw [hv]; rfl), r⟩
/-- What the gathering visit holds. -/
structure J2 (w0 : World) (sb ub xb c : Nat) (uo : Option Addr) (un uc : Nat) (U : List Str) (d : List (List Nat)) (ao : Option Addr) (cap : Nat) (vals : List Value) (JS : Nat → Prop) (w : World) : Prop where
  js : ∀ b, JS b ↔ b < w0.heap.size ∨ b = sb ∨ b = ub ∨ b = xb ∨ (Value.slice ao d.length cap).ownBlock = some b ∨ ∃ v ∈ vals, v.ownBlock = some b
  old : ∀ b, b < w0.heap.size → w.heap[b]? = w0.heap[b]?
  s : w.heap[sb]? = some (.cells #[.slice ao d.length cap] 45 (0, 0))
  u : w.heap[ub]? = some (.cells #[.slice uo un uc] 22 (0, 0))
  x : w.heap[xb]? = some (.cells #[.pointer (some ⟨c, 0, none⟩)] 76 (0, 0))
  row : w.ownsRow w0.heap.size 22 1 (.slice ao d.length cap) d.length vals
  len : vals.length = d.length
  each : ∀ (i : Nat) (v : Value) (L : List Nat), vals[i]? = some v → d[i]? = some L → w.ownsRow w0.heap.size 9 1 v L.length (ss (nmF U L))
  ru : ∀ g, (Value.slice ao d.length cap).ownBlock = some g → g ≠ ub
  lo : w0.heap.size ≤ sb ∧ w0.heap.size ≤ w.heap.size
def J2E (w0 : World) (sb ub xb c : Nat) (uo : Option Addr) (un uc : Nat) (U : List Str) (d : List (List Nat)) (JS : Nat → Prop) (w : World) : Prop := ∃ ao cap vals, J2 w0 sb ub xb c uo un uc U d ao cap vals JS w
section
variable {w0 w : World} {sb ub xb c : Nat} {uo : Option Addr} {un uc : Nat} {U : List Str} {d : List (List Nat)} {ao : Option Addr} {cap : Nat} {vals : List Value} {JS : Nat → Prop}
theorem J2.same (h : J2 w0 sb ub xb c uo un uc U d ao cap vals JS w) {w' : World} (hs : ∀ b, JS b → w'.heap[b]? = w.heap[b]?) (hz : w.heap.size ≤ w'.heap.size) : J2 w0 sb ub xb c uo un uc U d ao cap vals JS w' :=
  ⟨h.js, fun b hb => (hs b ((h.js b).2 (.inl hb))).trans (h.old b hb), (hs sb ((h.js _).2 (.inr (.inl rfl)))).trans h.s, (hs ub ((h.js _).2 (.inr (.inr (.inl rfl))))).trans h.u, (hs xb ((h.js _).2 (.inr (.inr (.inr (.inl rfl)))))).trans h.x,
   own_same h.row fun g hg => hs g ((h.js g).2 (.inr (.inr (.inr (.inr (.inl hg)))))), h.len, fun i v L hv hL => own_same (h.each i v L hv hL) fun g hg => hs g ((h.js g).2 (.inr (.inr (.inr (.inr (.inr ⟨v, List.mem_of_getElem? hv, hg⟩)))))), h.ru, h.lo.1, Nat.le_trans h.lo.2 hz⟩
theorem J2E.stable : ∀ d JS w w', J2E w0 sb ub xb c uo un uc U d JS w → (∀ b, JS b → w'.heap[b]? = w.heap[b]?) → w.heap.size ≤ w'.heap.size → J2E w0 sb ub xb c uo un uc U d JS w' := fun _ _ _ _ ⟨ao, cap, vals, h⟩ hs hz => ⟨ao, cap, vals, h.same hs hz⟩
theorem J2.lt (h : J2 w0 sb ub xb c uo un uc U d ao cap vals JS w) : ∀ b, JS b → b < w.heap.size := fun b hb => by
  rcases (h.js b).1 hb with hb | rfl | rfl | rfl | hb | ⟨v, hv, hb⟩
  · have := h.lo.2; omega
  · exact lt_of_block h.s
  · exact lt_of_block h.u
  · exact lt_of_block h.x
  · exact own_lt h.row hb
  · obtain ⟨i, hi⟩ := List.getElem?_of_mem hv
    have hid : i < d.length := by rw [← h.len]; exact (List.getElem?_eq_some_iff.1 hi).1
    exact own_lt (h.each i v d[i] hi (List.getElem?_eq_getElem hid)) hb
/-- One set more. -/
theorem J2.app (h : J2 w0 sb ub xb c uo un uc U d ao cap vals JS w) {L : List Nat} {xo a2 : Option Addr} {xc c2 n2 : Nat} {W2 W3 : World} (hb : Below w.heap.size w W2) (hx : W2.ownsRow w.heap.size 9 1 (.slice xo L.length xc) L.length (ss (nmF U L)))
    (hn : n2 = d.length + 1) (ho : W3.ownsRow 0 22 1 (.slice a2 n2 c2) n2 (vals ++ [.slice xo L.length xc])) (hg : W2.grownBy W3 (Value.slice ao d.length cap).ownBlock) (hf : (Value.slice a2 n2 c2).ownBlock = (Value.slice ao d.length cap).ownBlock ∨ (Value.slice a2 n2 c2).ownBlock = some W2.heap.size) :
    (W3.cell? ⟨sb, 0, none⟩ = some (.slice ao d.length cap) ∧ W3.cell? ⟨ub, 0, none⟩ = some (.slice uo un uc) ∧ W3.cell? ⟨xb, 0, none⟩ = some (.pointer (some ⟨c, 0, none⟩)) ∧ W3.frozen? ⟨sb, 0, none⟩ = false) ∧
    ∃ JS', J2E w0 sb ub xb c uo un uc U (d ++ [L]) JS' (W3.setCell ⟨sb, 0, none⟩ (.slice a2 n2 c2)) ∧ Chg JS JS' w (W3.setCell ⟨sb, 0, none⟩ (.slice a2 n2 c2)) ∧ ∀ b, JS' b → b < (W3.setCell ⟨sb, 0, none⟩ (.slice a2 n2 c2)).heap.size := by
  subst hn
  have h2 := h.same (w' := W2) (fun b hj => hb.block b (h.lt b hj)) hb.size
  have hlt := h.lt
  have z1 := hb.size
  have z2 := hg.size
  have l1 := h.lo
  have ls := lt_of_block h2.s
  have lu := lt_of_block h2.u
  have lx := lt_of_block h2.x
  have e1 : W3.heap[sb]? = some (.cells #[.slice ao d.length cap] 45 (0, 0)) := (hg.block sb ls (fun e => own_ne h2.row e.symm h2.s (by decide) rfl)).trans h2.s
  have e2 : W3.heap[ub]? = some (.cells #[.slice uo un uc] 22 (0, 0)) := (hg.block ub lu (fun e => h.ru _ e.symm rfl)).trans h2.u
  have e3 : W3.heap[xb]? = some (.cells #[.pointer (some ⟨c, 0, none⟩)] 76 (0, 0)) := (hg.block xb lx (fun e => own_ne h2.row e.symm h2.x (by decide) rfl)).trans h2.x
  refine ⟨⟨blk_cell (cs := [.slice ao d.length cap]) e1 rfl, blk_cell (cs := [.slice uo un uc]) e2 rfl, blk_cell (cs := [.pointer (some ⟨c, 0, none⟩)]) e3 rfl, blk_free (cs := [.slice ao d.length cap]) e1 0⟩, ?_⟩
  obtain ⟨wf, hwf⟩ : ∃ wf, wf = W3.setCell ⟨sb, 0, none⟩ (.slice a2 (d.length + 1) c2) := ⟨_, rfl⟩
  rw [← hwf]
  have hset : ∀ k, k ≠ sb → wf.heap[k]? = W3.heap[k]? := fun k hk => by rw [hwf]; exact set_other hk
  have zf : wf.heap.size = W3.heap.size := by rw [hwf]; simp
  have eos : wf.os = W3.os ∧ wf.tape = W3.tape ∧ wf.output = W3.output := by rw [hwf]; exact ⟨rfl, rfl, rfl⟩
  have esb : wf.heap[sb]? = some (.cells #[.slice a2 (d.length + 1) c2] 45 (0, 0)) := by rw [hwf]; exact blk_setCell (cur := [.slice ao d.length cap]) (k := 0) e1
  have nus : ub ≠ sb := fun e => blk_ne h2.u h2.s (by decide) e
  have nxs : xb ≠ sb := fun e => blk_ne h2.x h2.s (by decide) e
  have hown2 : ∀ g, (Value.slice a2 (d.length + 1) c2).ownBlock = some g → (Value.slice ao d.length cap).ownBlock = some g ∨ g = W2.heap.size := fun g hgg => by
    rcases hf with hf | hf
    · exact .inl (hf ▸ hgg)
    · rw [hf] at hgg; cases hgg; exact .inr rfl
  have hstr : ∀ (B n : Nat) (v : Value) (xs : List Value), W2.ownsRow B 9 1 v n xs → wf.ownsRow B 9 1 v n xs := fun B n v xs hv => own_same hv fun k hk => by
    rw [hset k (own_ne hv hk h2.s (by decide)), hg.block k (own_lt hv hk) (fun e => own_type hv hk h2.row (by decide) e.symm)]
  have hrow : wf.ownsRow w0.heap.size 22 1 (.slice a2 (d.length + 1) c2) (d.length + 1) (vals ++ [.slice xo L.length xc]) := by
    refine own_up (own_same ho fun k hk => hset k (own_ne ho hk e1 (by decide))) fun g hgg => ?_
    rcases hown2 g hgg with h5 | h5
    · exact (h2.row.lt g h5).1
    · omega
  have hd : (d ++ [L]).length = d.length + 1 := by simp
  have hJ : J2 w0 sb ub xb c uo un uc U (d ++ [L]) a2 c2 (vals ++ [.slice xo L.length xc]) (fun b => b < w0.heap.size ∨ b = sb ∨ b = ub ∨ b = xb ∨ (Value.slice a2 (d ++ [L]).length c2).ownBlock = some b ∨ ∃ v ∈ vals ++ [.slice xo L.length xc], v.ownBlock = some b) wf := by
    refine ⟨fun b => Iff.rfl, fun b hb0 => ?_, by rw [hd]; exact esb, (hset ub nus).trans e2, (hset xb nxs).trans e3, by rw [hd]; exact hrow, by simp [h.len], fun i v L' hv hL => ?_, fun g hgg => ?_, l1.1, by omega⟩
    · rw [hset b (by omega), hg.block b (by omega) (fun e => by have := (h2.row.lt b e.symm).1; omega), hb.block b (by omega)]
      exact h.old b hb0
    · by_cases hi : i < d.length
      · rw [List.getElem?_append_left (by rw [h.len]; exact hi)] at hv
        rw [List.getElem?_append_left hi] at hL
        exact hstr _ _ _ _ (h2.each i v L' hv hL)
      · have e : i = d.length := by have := (List.getElem?_eq_some_iff.1 hL).1; simp at this; omega
        subst e
        rw [List.getElem?_append_right (Nat.le_refl _)] at hL
        rw [List.getElem?_append_right (by rw [h.len]; exact Nat.le_refl _)] at hv
        simp [h.len] at hv hL
        subst hv hL
        exact hstr _ _ _ _ (own_weak hx l1.2)
    · rw [hd] at hgg
      rcases hown2 g hgg with h5 | h5
      · exact h.ru g h5
      · omega
  refine ⟨_, ⟨a2, c2, _, hJ⟩, ⟨⟨by rw [eos.1]; exact hg.os.trans hb.os, by rw [eos.2.1]; exact hg.tape.trans hb.tape, by rw [eos.2.2]; exact hg.output.trans hb.output, by omega, fun k hk hs => ?_⟩, fun k hk => ?_⟩, hJ.lt⟩
  · rw [hset k (fun e => hs ((h.js k).2 (.inr (.inl e)))), hg.block k (by omega) (fun e => hs ((h.js k).2 (.inr (.inr (.inr (.inr (.inl e.symm))))))), hb.block k hk]
  · rcases hk with hk | hk | hk | hk | hk | ⟨v, hv, hk⟩
    · exact .inl ((h.js k).2 (.inl hk))
    · exact .inl ((h.js k).2 (.inr (.inl hk)))
    · exact .inl ((h.js k).2 (.inr (.inr (.inl hk))))
    · exact .inl ((h.js k).2 (.inr (.inr (.inr (.inl hk)))))
    · rw [hd] at hk
      rcases hown2 k hk with h5 | h5
      · exact .inl ((h.js k).2 (.inr (.inr (.inr (.inr (.inl h5))))))
      · exact .inr (by omega)
    · rcases List.mem_append.1 hv with hv | hv
      · exact .inl ((h.js k).2 (.inr (.inr (.inr (.inr (.inr ⟨v, hv, hk⟩))))))
      · rw [List.mem_singleton.1 hv] at hk
        exact .inr (hx.lt k hk).1
end
theorem rd_old {w0 w : World} {v : Value} {xs : List Value} (hr : Rd w0 v xs) (hs : ∀ b, b < w0.heap.size → w.heap[b]? = w0.heap[b]?) (hz : w0.heap.size ≤ w.heap.size) : Rd w v xs := by
  obtain ⟨ao, cap, rfl, h2, h3, h4⟩ := hr
  refine ⟨ao, cap, rfl, h2, h3, fun h0 => ?_⟩
  obtain ⟨g, o, rfl, q2, q3⟩ := h4 h0
  refine ⟨g, o, rfl, Nat.lt_of_lt_of_le q2 hz, fun j u hu => ?_⟩
  have := q3 j u hu
  unfold World.cell? at this ⊢
  rw [hs g q2]
  exact this

set_option maxRecDepth 100000 in
set_option maxHeartbeats 1600000 in
theorem all2_any (w0 : World) (sb ub xb c n N : Nat) (uo : Option Addr) (un uc : Nat) (U : List Str) (R : List Hrl) (hn : n ≤ 1000000) (hNN : N ≤ 1000000) (hun : U.length = n) (RU : Rd w0 (.slice uo un uc) (ss U)) (vb cb bb gv : Nat) (lbs : Array Value) (d : List (List Nat)) (T : List Nat) (V : CV) (US JS : Nat → Prop) (w : World) (hd : d.length < N) (h : St c n R vb cb bb gv lbs (J2E w0 sb ub xb c uo un uc U) d T V US JS w) :
    Calls Try.prog 55 #[.pointer (some ⟨sb, 0, none⟩), .pointer (some ⟨ub, 0, none⟩), .pointer (some ⟨xb, 0, none⟩)] w fun e w' => e = .returned (.tuple #[.slice none 0 0, .bool true]) ∧ ∃ JS', J2E w0 sb ub xb c uo un uc U (d ++ [mems T n]) JS' w' ∧ Chg JS JS' w w' ∧ ∀ b, JS' b → b < w'.heap.size := by
  obtain ⟨ao, cap, vals, hj⟩ := h.j
  have HJ := hid_of hj
  have ru := rd_old RU hj.old hj.lo.2
  have hml : (mems T n).length = T.length := mems_len h.ch.nd h.ch.tn
  have hTn := h.ch.len
  obtain ⟨m, hm⟩ : ∃ m, m = (mems T n).length := ⟨_, rfl⟩
  obtain ⟨q, hq⟩ : ∃ q, q = d.length := ⟨_, rfl⟩
  have B0 : Hid (Below w.heap.size w w.drew) := hid_of (Below.refl _ _).drew
  have CC : Hid (∀ W, Below w.heap.size w W → W.cell? ⟨sb, 0, none⟩ = some (.slice ao q cap) ∧ W.cell? ⟨ub, 0, none⟩ = some (.slice uo un uc) ∧ W.cell? ⟨xb, 0, none⟩ = some (.pointer (some ⟨c, 0, none⟩))) := hid_of (fun W hb => by
    have h2 := hj.same (w' := W) (fun b hb2 => hb.block b (hj.lt b hb2)) hb.size
    rw [hq]
    exact ⟨blk_cell (cs := [.slice ao d.length cap]) h2.s rfl, blk_cell (cs := [.slice uo un uc]) h2.u rfl, blk_cell (cs := [.pointer (some ⟨c, 0, none⟩)]) h2.x rfl⟩)
  have HME : Hid (∀ W, Below w.heap.size w W → Calls Try.prog 49 #[.pointer (some ⟨c, 0, none⟩)] W fun e w' => ∃ ao cap, e = .returned (.slice ao m cap) ∧ Rd w' (.slice ao m cap) (ints (mems T n)) ∧ Below w.heap.size w w') := hid_of (fun W hb => (mem_any c n T.length R _ T V US W (h.ch.at hb) hn).mono fun e w' ⟨ao, cap, h1, h2⟩ => ⟨ao, cap, by rw [hm]; exact h1, by rw [hm]; exact own_rd h2.own, hb.trans (h2.bel.mono hb.size)⟩)
  have HNM : Hid (∀ W ao cap, Below w.heap.size w W → Rd W (.slice ao m cap) (ints (mems T n)) → Calls Try.prog 48 #[.slice uo un uc, .slice ao m cap] W fun e w' => ∃ ro rc, e = .returned (.slice ro m rc) ∧ w'.ownsRow w.heap.size 9 1 (.slice ro m rc) m (ss (nmF U (mems T n))) ∧ Below w.heap.size w w') := hid_of (fun W ao cap hb hr => (nmd_any uo un uc U ao m cap (mems T n) W (ru.at hb) hr (fun i hi => by rw [hun]; exact (mem_mems.1 hi).1) (by omega)).mono fun e w' ⟨ro, rc, h1, h2⟩ => ⟨ro, rc, h1, by
      have := own_weak h2.own hb.size
      rw [ss_length, nmF_length, ← hm] at this; exact this, hb.trans (h2.bel.mono hb.size)⟩)
  have HROW : Hid (∀ W, Below w.heap.size w W → W.ownsRow 0 22 1 (.slice ao q cap) q vals) := hid_of (fun W hb => by
    have h2 := hj.same (w' := W) (fun b hb2 => hb.block b (hj.lt b hb2)) hb.size
    rw [hq]; exact own_base h2.row)
  have HAPP : Hid (∀ (W2 W3 : World) (xo a2 : Option Addr) (xc c2 n2 : Nat), Below w.heap.size w W2 → W2.ownsRow w.heap.size 9 1 (.slice xo m xc) m (ss (nmF U (mems T n))) → n2 = q + 1 → W3.ownsRow 0 22 1 (.slice a2 n2 c2) n2 (vals ++ [.slice xo m xc]) → W2.grownBy W3 (Value.slice ao q cap).ownBlock → ((Value.slice a2 n2 c2).ownBlock = (Value.slice ao q cap).ownBlock ∨ (Value.slice a2 n2 c2).ownBlock = some W2.heap.size) →
      (W3.cell? ⟨sb, 0, none⟩ = some (.slice ao q cap) ∧ W3.cell? ⟨ub, 0, none⟩ = some (.slice uo un uc) ∧ W3.cell? ⟨xb, 0, none⟩ = some (.pointer (some ⟨c, 0, none⟩)) ∧ W3.frozen? ⟨sb, 0, none⟩ = false) ∧
      ∃ JS', J2E w0 sb ub xb c uo un uc U (d ++ [mems T n]) JS' (W3.setCell ⟨sb, 0, none⟩ (.slice a2 n2 c2)) ∧ Chg JS JS' w (W3.setCell ⟨sb, 0, none⟩ (.slice a2 n2 c2)) ∧ ∀ b, JS' b → b < (W3.setCell ⟨sb, 0, none⟩ (.slice a2 n2 c2)).heap.size) := hid_of (fun W2 W3 xo a2 xc c2 n2 h1 h2 h3 h4 h5 h6 => by
    rw [hm] at h2 h4
    rw [hq] at h3 h5 h6 ⊢
    exact hj.app h1 h2 h3 h4 h5 h6)
  have HQ : Hid (q ≤ 1000000) := hid_of (by omega)
  obtain ⟨k1, k2, k3⟩ := CC.out _ B0.out
  clear h hj hml hTn hm hq hd RU ru
  go_enter Try.func55, Try.ntmps55
  go_wp2
  refine wp_region_any (by kernel_rfl) ?_
  change wpAny _ _ _ _ _ _ _ (World.drew _)
  refine wpAny_ready (rs := [0, 1, 2]) (by kernel_rfl) (by simp) ?_
  refine AllReady.cons rfl (fun K hK => ?_) (AllReady.cons rfl (fun K hK => ?_) (AllReady.cons rfl (fun K hK => ?_) AllReady.nil))
  · go_simp
    refine hK _ _ ?_
    clear hK K
    refine wpAny_ready (rs := [1, 2]) (by kernel_rfl) (by simp) ?_
    refine AllReady.cons rfl (fun K hK => ?_) (AllReady.cons rfl (fun K hK => ?_) AllReady.nil)
    · go_simp
      refine hK _ _ ?_
      clear hK K
      refine wpAny_ready (rs := [2]) (by kernel_rfl) (by simp) ?_
      refine AllReady.cons rfl (fun K hK => ?_) AllReady.nil
      go_simp
      refine hK _ _ ?_
      clear hK K
      refine wpAny_ready (rs := [3]) (by kernel_rfl) (by simp) ?_
      refine AllReady.cons rfl (fun K hK => ?_) AllReady.nil
      go_simp
      with_reducible refine (HME.out _ B0.out).mono ?_
      rintro ee w1 ⟨mo, mc, rfl, h1, h2⟩
      have R1 := hid_of h1
      have B1 := hid_of h2
      obtain ⟨m1, m2, m3⟩ := CC.out _ h2
      clear h1 h2
      refine hK _ _ ?_
      clear hK K
      refine wpAny_ready (rs := [4]) (by kernel_rfl) (by simp) ?_
      refine AllReady.cons rfl (fun K hK => ?_) AllReady.nil
      go_simp
      with_reducible refine (HNM.out w1 mo mc B1.out R1.out).mono ?_
      rintro ee w2 ⟨xo, xc, rfl, h1, h2⟩
      have O2 := hid_of h1
      have B2 := hid_of h2
      have B3 : Hid (Below w.heap.size w (w2.alloc (.cells #[.slice xo m xc] 22))) := hid_of (h2.trans ((bel_alloc w2 _).mono h2.size))
      obtain ⟨n1, n2, n3⟩ := CC.out _ h2
      obtain ⟨p1, p2, p3⟩ := CC.out _ B3.out
      clear h1 h2
      refine hK _ _ ?_
      clear hK K
      refine wpAny_ready (rs := [5]) (by kernel_rfl) (by simp) ?_
      refine AllReady.cons rfl (fun K hK => ?_) AllReady.nil
      go_simp
      refine hK _ _ ?_
      clear hK K
      refine wpAny_ready (rs := [6]) (by kernel_rfl) (by simp) ?_
      refine AllReady.cons rfl (fun K hK => ?_) AllReady.nil
      refine step_own setsE (by rfl) _ _ (by rfl) (.slice ao q cap) q vals (by rfl) (HROW.out _ B3.out) w2.heap.size (.slice xo m xc) (by rfl) (cell_new _ _ _) rfl (by have := HQ.out; omega) (by have := HQ.out; omega) ?_
      intro a2 c2 nz w4 e1 e2 e3 e4
      have PP := hid_of (HAPP.out _ w4 xo a2 xc c2 nz B3.out (own_same O2.out fun k hk => (bel_alloc w2 _).block k (own_lt O2.out hk)) e1 e2 e3 e4)
      clear e1 e2 e3 e4
      have q1 := PP.out.1.1
      have f1 := PP.out.1.2.2.2
      refine hK _ _ ?_
      clear hK K
      refine wpAny_ready (rs := [7]) (by kernel_rfl) (by simp) ?_
      refine AllReady.cons rfl (fun K hK => ?_) AllReady.nil
      go_simp
      refine hK _ _ ?_
      clear hK K
      refine wpAny_done (by kernel_rfl) ?_ _
      go_wp2
      go_ret2
      exact ⟨rfl, PP.out.2⟩
    · go_simp
      refine hK _ _ ?_
      clear hK K
      refine wpAny_ready (rs := [1, 3]) (by kernel_rfl) (by simp) ?_
      refine AllReady.cons rfl (fun K hK => ?_) (AllReady.cons rfl (fun K hK => ?_) AllReady.nil)
      · go_simp
        refine hK _ _ ?_
        clear hK K
        refine wpAny_ready (rs := [3]) (by kernel_rfl) (by simp) ?_
        refine AllReady.cons rfl (fun K hK => ?_) AllReady.nil
        go_simp
        with_reducible refine (HME.out _ B0.out).mono ?_
        rintro ee w1 ⟨mo, mc, rfl, h1, h2⟩
        have R1 := hid_of h1
        have B1 := hid_of h2
        obtain ⟨m1, m2, m3⟩ := CC.out _ h2
        clear h1 h2
        refine hK _ _ ?_
        clear hK K
        refine wpAny_ready (rs := [4]) (by kernel_rfl) (by simp) ?_
        refine AllReady.cons rfl (fun K hK => ?_) AllReady.nil
        go_simp
        with_reducible refine (HNM.out w1 mo mc B1.out R1.out).mono ?_
        rintro ee w2 ⟨xo, xc, rfl, h1, h2⟩
        have O2 := hid_of h1
        have B2 := hid_of h2
        have B3 : Hid (Below w.heap.size w (w2.alloc (.cells #[.slice xo m xc] 22))) := hid_of (h2.trans ((bel_alloc w2 _).mono h2.size))
        obtain ⟨n1, n2, n3⟩ := CC.out _ h2
        obtain ⟨p1, p2, p3⟩ := CC.out _ B3.out
        clear h1 h2
        refine hK _ _ ?_
        clear hK K
        refine wpAny_ready (rs := [5]) (by kernel_rfl) (by simp) ?_
        refine AllReady.cons rfl (fun K hK => ?_) AllReady.nil
        go_simp
        refine hK _ _ ?_
        clear hK K
        refine wpAny_ready (rs := [6]) (by kernel_rfl) (by simp) ?_
        refine AllReady.cons rfl (fun K hK => ?_) AllReady.nil
        refine step_own setsE (by rfl) _ _ (by rfl) (.slice ao q cap) q vals (by rfl) (HROW.out _ B3.out) w2.heap.size (.slice xo m xc) (by rfl) (cell_new _ _ _) rfl (by have := HQ.out; omega) (by have := HQ.out; omega) ?_
        intro a2 c2 nz w4 e1 e2 e3 e4
        have PP := hid_of (HAPP.out _ w4 xo a2 xc c2 nz B3.out (own_same O2.out fun k hk => (bel_alloc w2 _).block k (own_lt O2.out hk)) e1 e2 e3 e4)
        clear e1 e2 e3 e4
        have q1 := PP.out.1.1
        have f1 := PP.out.1.2.2.2
        refine hK _ _ ?_
        clear hK K
        refine wpAny_ready (rs := [7]) (by kernel_rfl) (by simp) ?_
        refine AllReady.cons rfl (fun K hK => ?_) AllReady.nil
        go_simp
        refine hK _ _ ?_
        clear hK K
        refine wpAny_done (by kernel_rfl) ?_ _
        go_wp2
        go_ret2
        exact ⟨rfl, PP.out.2⟩
      · go_simp
        with_reducible refine (HME.out _ B0.out).mono ?_
        rintro ee w1 ⟨mo, mc, rfl, h1, h2⟩
        have R1 := hid_of h1
        have B1 := hid_of h2
        obtain ⟨m1, m2, m3⟩ := CC.out _ h2
        clear h1 h2
        refine hK _ _ ?_
        clear hK K
        refine wpAny_ready (rs := [1]) (by kernel_rfl) (by simp) ?_
        refine AllReady.cons rfl (fun K hK => ?_) AllReady.nil
        go_simp
        refine hK _ _ ?_
        clear hK K
        refine wpAny_ready (rs := [4]) (by kernel_rfl) (by simp) ?_
        refine AllReady.cons rfl (fun K hK => ?_) AllReady.nil
        go_simp
        with_reducible refine (HNM.out w1 mo mc B1.out R1.out).mono ?_
        rintro ee w2 ⟨xo, xc, rfl, h1, h2⟩
        have O2 := hid_of h1
        have B2 := hid_of h2
        have B3 : Hid (Below w.heap.size w (w2.alloc (.cells #[.slice xo m xc] 22))) := hid_of (h2.trans ((bel_alloc w2 _).mono h2.size))
        obtain ⟨n1, n2, n3⟩ := CC.out _ h2
        obtain ⟨p1, p2, p3⟩ := CC.out _ B3.out
        clear h1 h2
        refine hK _ _ ?_
        clear hK K
        refine wpAny_ready (rs := [5]) (by kernel_rfl) (by simp) ?_
        refine AllReady.cons rfl (fun K hK => ?_) AllReady.nil
        go_simp
        refine hK _ _ ?_
        clear hK K
        refine wpAny_ready (rs := [6]) (by kernel_rfl) (by simp) ?_
        refine AllReady.cons rfl (fun K hK => ?_) AllReady.nil
        refine step_own setsE (by rfl) _ _ (by rfl) (.slice ao q cap) q vals (by rfl) (HROW.out _ B3.out) w2.heap.size (.slice xo m xc) (by rfl) (cell_new _ _ _) rfl (by have := HQ.out; omega) (by have := HQ.out; omega) ?_
        intro a2 c2 nz w4 e1 e2 e3 e4
        have PP := hid_of (HAPP.out _ w4 xo a2 xc c2 nz B3.out (own_same O2.out fun k hk => (bel_alloc w2 _).block k (own_lt O2.out hk)) e1 e2 e3 e4)
        clear e1 e2 e3 e4
        have q1 := PP.out.1.1
        have f1 := PP.out.1.2.2.2
        refine hK _ _ ?_
        clear hK K
        refine wpAny_ready (rs := [7]) (by kernel_rfl) (by simp) ?_
        refine AllReady.cons rfl (fun K hK => ?_) AllReady.nil
        go_simp
        refine hK _ _ ?_
        clear hK K
        refine wpAny_done (by kernel_rfl) ?_ _
        go_wp2
        go_ret2
        exact ⟨rfl, PP.out.2⟩
  · go_simp
    refine hK _ _ ?_
    clear hK K
    refine wpAny_ready (rs := [0, 2]) (by kernel_rfl) (by simp) ?_
    refine AllReady.cons rfl (fun K hK => ?_) (AllReady.cons rfl (fun K hK => ?_) AllReady.nil)
    · go_simp
      refine hK _ _ ?_
      clear hK K
      refine wpAny_ready (rs := [2]) (by kernel_rfl) (by simp) ?_
      refine AllReady.cons rfl (fun K hK => ?_) AllReady.nil
      go_simp
      refine hK _ _ ?_
      clear hK K
      refine wpAny_ready (rs := [3]) (by kernel_rfl) (by simp) ?_
      refine AllReady.cons rfl (fun K hK => ?_) AllReady.nil
      go_simp
      with_reducible refine (HME.out _ B0.out).mono ?_
      rintro ee w1 ⟨mo, mc, rfl, h1, h2⟩
      have R1 := hid_of h1
      have B1 := hid_of h2
      obtain ⟨m1, m2, m3⟩ := CC.out _ h2
      clear h1 h2
      refine hK _ _ ?_
      clear hK K
      refine wpAny_ready (rs := [4]) (by kernel_rfl) (by simp) ?_
      refine AllReady.cons rfl (fun K hK => ?_) AllReady.nil
      go_simp
      with_reducible refine (HNM.out w1 mo mc B1.out R1.out).mono ?_
      rintro ee w2 ⟨xo, xc, rfl, h1, h2⟩
      have O2 := hid_of h1
      have B2 := hid_of h2
      have B3 : Hid (Below w.heap.size w (w2.alloc (.cells #[.slice xo m xc] 22))) := hid_of (h2.trans ((bel_alloc w2 _).mono h2.size))
      obtain ⟨n1, n2, n3⟩ := CC.out _ h2
      obtain ⟨p1, p2, p3⟩ := CC.out _ B3.out
      clear h1 h2
      refine hK _ _ ?_
      clear hK K
      refine wpAny_ready (rs := [5]) (by kernel_rfl) (by simp) ?_
      refine AllReady.cons rfl (fun K hK => ?_) AllReady.nil
      go_simp
      refine hK _ _ ?_
      clear hK K
      refine wpAny_ready (rs := [6]) (by kernel_rfl) (by simp) ?_
      refine AllReady.cons rfl (fun K hK => ?_) AllReady.nil
      refine step_own setsE (by rfl) _ _ (by rfl) (.slice ao q cap) q vals (by rfl) (HROW.out _ B3.out) w2.heap.size (.slice xo m xc) (by rfl) (cell_new _ _ _) rfl (by have := HQ.out; omega) (by have := HQ.out; omega) ?_
      intro a2 c2 nz w4 e1 e2 e3 e4
      have PP := hid_of (HAPP.out _ w4 xo a2 xc c2 nz B3.out (own_same O2.out fun k hk => (bel_alloc w2 _).block k (own_lt O2.out hk)) e1 e2 e3 e4)
      clear e1 e2 e3 e4
      have q1 := PP.out.1.1
      have f1 := PP.out.1.2.2.2
      refine hK _ _ ?_
      clear hK K
      refine wpAny_ready (rs := [7]) (by kernel_rfl) (by simp) ?_
      refine AllReady.cons rfl (fun K hK => ?_) AllReady.nil
      go_simp
      refine hK _ _ ?_
      clear hK K
      refine wpAny_done (by kernel_rfl) ?_ _
      go_wp2
      go_ret2
      exact ⟨rfl, PP.out.2⟩
    · go_simp
      refine hK _ _ ?_
      clear hK K
      refine wpAny_ready (rs := [0, 3]) (by kernel_rfl) (by simp) ?_
      refine AllReady.cons rfl (fun K hK => ?_) (AllReady.cons rfl (fun K hK => ?_) AllReady.nil)
      · go_simp
        refine hK _ _ ?_
        clear hK K
        refine wpAny_ready (rs := [3]) (by kernel_rfl) (by simp) ?_
        refine AllReady.cons rfl (fun K hK => ?_) AllReady.nil
        go_simp
        with_reducible refine (HME.out _ B0.out).mono ?_
        rintro ee w1 ⟨mo, mc, rfl, h1, h2⟩
        have R1 := hid_of h1
        have B1 := hid_of h2
        obtain ⟨m1, m2, m3⟩ := CC.out _ h2
        clear h1 h2
        refine hK _ _ ?_
        clear hK K
        refine wpAny_ready (rs := [4]) (by kernel_rfl) (by simp) ?_
        refine AllReady.cons rfl (fun K hK => ?_) AllReady.nil
        go_simp
        with_reducible refine (HNM.out w1 mo mc B1.out R1.out).mono ?_
        rintro ee w2 ⟨xo, xc, rfl, h1, h2⟩
        have O2 := hid_of h1
        have B2 := hid_of h2
        have B3 : Hid (Below w.heap.size w (w2.alloc (.cells #[.slice xo m xc] 22))) := hid_of (h2.trans ((bel_alloc w2 _).mono h2.size))
        obtain ⟨n1, n2, n3⟩ := CC.out _ h2
        obtain ⟨p1, p2, p3⟩ := CC.out _ B3.out
        clear h1 h2
        refine hK _ _ ?_
        clear hK K
        refine wpAny_ready (rs := [5]) (by kernel_rfl) (by simp) ?_
        refine AllReady.cons rfl (fun K hK => ?_) AllReady.nil
        go_simp
        refine hK _ _ ?_
        clear hK K
        refine wpAny_ready (rs := [6]) (by kernel_rfl) (by simp) ?_
        refine AllReady.cons rfl (fun K hK => ?_) AllReady.nil
        refine step_own setsE (by rfl) _ _ (by rfl) (.slice ao q cap) q vals (by rfl) (HROW.out _ B3.out) w2.heap.size (.slice xo m xc) (by rfl) (cell_new _ _ _) rfl (by have := HQ.out; omega) (by have := HQ.out; omega) ?_
        intro a2 c2 nz w4 e1 e2 e3 e4
        have PP := hid_of (HAPP.out _ w4 xo a2 xc c2 nz B3.out (own_same O2.out fun k hk => (bel_alloc w2 _).block k (own_lt O2.out hk)) e1 e2 e3 e4)
        clear e1 e2 e3 e4
        have q1 := PP.out.1.1
        have f1 := PP.out.1.2.2.2
        refine hK _ _ ?_
        clear hK K
        refine wpAny_ready (rs := [7]) (by kernel_rfl) (by simp) ?_
        refine AllReady.cons rfl (fun K hK => ?_) AllReady.nil
        go_simp
        refine hK _ _ ?_
        clear hK K
        refine wpAny_done (by kernel_rfl) ?_ _
        go_wp2
        go_ret2
        exact ⟨rfl, PP.out.2⟩
      · go_simp
        with_reducible refine (HME.out _ B0.out).mono ?_
        rintro ee w1 ⟨mo, mc, rfl, h1, h2⟩
        have R1 := hid_of h1
        have B1 := hid_of h2
        obtain ⟨m1, m2, m3⟩ := CC.out _ h2
        clear h1 h2
        refine hK _ _ ?_
        clear hK K
        refine wpAny_ready (rs := [0, 4]) (by kernel_rfl) (by simp) ?_
        refine AllReady.cons rfl (fun K hK => ?_) (AllReady.cons rfl (fun K hK => ?_) AllReady.nil)
        · go_simp
          refine hK _ _ ?_
          clear hK K
          refine wpAny_ready (rs := [4]) (by kernel_rfl) (by simp) ?_
          refine AllReady.cons rfl (fun K hK => ?_) AllReady.nil
          go_simp
          with_reducible refine (HNM.out w1 mo mc B1.out R1.out).mono ?_
          rintro ee w2 ⟨xo, xc, rfl, h1, h2⟩
          have O2 := hid_of h1
          have B2 := hid_of h2
          have B3 : Hid (Below w.heap.size w (w2.alloc (.cells #[.slice xo m xc] 22))) := hid_of (h2.trans ((bel_alloc w2 _).mono h2.size))
          obtain ⟨n1, n2, n3⟩ := CC.out _ h2
          obtain ⟨p1, p2, p3⟩ := CC.out _ B3.out
          clear h1 h2
          refine hK _ _ ?_
          clear hK K
          refine wpAny_ready (rs := [5]) (by kernel_rfl) (by simp) ?_
          refine AllReady.cons rfl (fun K hK => ?_) AllReady.nil
          go_simp
          refine hK _ _ ?_
          clear hK K
          refine wpAny_ready (rs := [6]) (by kernel_rfl) (by simp) ?_
          refine AllReady.cons rfl (fun K hK => ?_) AllReady.nil
          refine step_own setsE (by rfl) _ _ (by rfl) (.slice ao q cap) q vals (by rfl) (HROW.out _ B3.out) w2.heap.size (.slice xo m xc) (by rfl) (cell_new _ _ _) rfl (by have := HQ.out; omega) (by have := HQ.out; omega) ?_
          intro a2 c2 nz w4 e1 e2 e3 e4
          have PP := hid_of (HAPP.out _ w4 xo a2 xc c2 nz B3.out (own_same O2.out fun k hk => (bel_alloc w2 _).block k (own_lt O2.out hk)) e1 e2 e3 e4)
          clear e1 e2 e3 e4
          have q1 := PP.out.1.1
          have f1 := PP.out.1.2.2.2
          refine hK _ _ ?_
          clear hK K
          refine wpAny_ready (rs := [7]) (by kernel_rfl) (by simp) ?_
          refine AllReady.cons rfl (fun K hK => ?_) AllReady.nil
          go_simp
          refine hK _ _ ?_
          clear hK K
          refine wpAny_done (by kernel_rfl) ?_ _
          go_wp2
          go_ret2
          exact ⟨rfl, PP.out.2⟩
        · go_simp
          with_reducible refine (HNM.out w1 mo mc B1.out R1.out).mono ?_
          rintro ee w2 ⟨xo, xc, rfl, h1, h2⟩
          have O2 := hid_of h1
          have B2 := hid_of h2
          have B3 : Hid (Below w.heap.size w (w2.alloc (.cells #[.slice xo m xc] 22))) := hid_of (h2.trans ((bel_alloc w2 _).mono h2.size))
          obtain ⟨n1, n2, n3⟩ := CC.out _ h2
          obtain ⟨p1, p2, p3⟩ := CC.out _ B3.out
          clear h1 h2
          refine hK _ _ ?_
          clear hK K
          refine wpAny_ready (rs := [0, 5]) (by kernel_rfl) (by simp) ?_
          refine AllReady.cons rfl (fun K hK => ?_) (AllReady.cons rfl (fun K hK => ?_) AllReady.nil)
          · go_simp
            refine hK _ _ ?_
            clear hK K
            refine wpAny_ready (rs := [5]) (by kernel_rfl) (by simp) ?_
            refine AllReady.cons rfl (fun K hK => ?_) AllReady.nil
            go_simp
            refine hK _ _ ?_
            clear hK K
            refine wpAny_ready (rs := [6]) (by kernel_rfl) (by simp) ?_
            refine AllReady.cons rfl (fun K hK => ?_) AllReady.nil
            refine step_own setsE (by rfl) _ _ (by rfl) (.slice ao q cap) q vals (by rfl) (HROW.out _ B3.out) w2.heap.size (.slice xo m xc) (by rfl) (cell_new _ _ _) rfl (by have := HQ.out; omega) (by have := HQ.out; omega) ?_
            intro a2 c2 nz w4 e1 e2 e3 e4
            have PP := hid_of (HAPP.out _ w4 xo a2 xc c2 nz B3.out (own_same O2.out fun k hk => (bel_alloc w2 _).block k (own_lt O2.out hk)) e1 e2 e3 e4)
            clear e1 e2 e3 e4
            have q1 := PP.out.1.1
            have f1 := PP.out.1.2.2.2
            refine hK _ _ ?_
            clear hK K
            refine wpAny_ready (rs := [7]) (by kernel_rfl) (by simp) ?_
            refine AllReady.cons rfl (fun K hK => ?_) AllReady.nil
            go_simp
            refine hK _ _ ?_
            clear hK K
            refine wpAny_done (by kernel_rfl) ?_ _
            go_wp2
            go_ret2
            exact ⟨rfl, PP.out.2⟩
          · go_simp
            refine hK _ _ ?_
            clear hK K
            refine wpAny_ready (rs := [0]) (by kernel_rfl) (by simp) ?_
            refine AllReady.cons rfl (fun K hK => ?_) AllReady.nil
            go_simp
            refine hK _ _ ?_
            clear hK K
            refine wpAny_ready (rs := [6]) (by kernel_rfl) (by simp) ?_
            refine AllReady.cons rfl (fun K hK => ?_) AllReady.nil
            refine step_own setsE (by rfl) _ _ (by rfl) (.slice ao q cap) q vals (by rfl) (HROW.out _ B3.out) w2.heap.size (.slice xo m xc) (by rfl) (cell_new _ _ _) rfl (by have := HQ.out; omega) (by have := HQ.out; omega) ?_
            intro a2 c2 nz w4 e1 e2 e3 e4
            have PP := hid_of (HAPP.out _ w4 xo a2 xc c2 nz B3.out (own_same O2.out fun k hk => (bel_alloc w2 _).block k (own_lt O2.out hk)) e1 e2 e3 e4)
            clear e1 e2 e3 e4
            have q1 := PP.out.1.1
            have f1 := PP.out.1.2.2.2
            refine hK _ _ ?_
            clear hK K
            refine wpAny_ready (rs := [7]) (by kernel_rfl) (by simp) ?_
            refine AllReady.cons rfl (fun K hK => ?_) AllReady.nil
            go_simp
            refine hK _ _ ?_
            clear hK K
            refine wpAny_done (by kernel_rfl) ?_ _
            go_wp2
            go_ret2
            exact ⟨rfl, PP.out.2⟩
  · go_simp
    refine hK _ _ ?_
    clear hK K
    refine wpAny_ready (rs := [0, 1, 3]) (by kernel_rfl) (by simp) ?_
    refine AllReady.cons rfl (fun K hK => ?_) (AllReady.cons rfl (fun K hK => ?_) (AllReady.cons rfl (fun K hK => ?_) AllReady.nil))
    · go_simp
      refine hK _ _ ?_
      clear hK K
      refine wpAny_ready (rs := [1, 3]) (by kernel_rfl) (by simp) ?_
      refine AllReady.cons rfl (fun K hK => ?_) (AllReady.cons rfl (fun K hK => ?_) AllReady.nil)
      · go_simp
        refine hK _ _ ?_
        clear hK K
        refine wpAny_ready (rs := [3]) (by kernel_rfl) (by simp) ?_
        refine AllReady.cons rfl (fun K hK => ?_) AllReady.nil
        go_simp
        with_reducible refine (HME.out _ B0.out).mono ?_
        rintro ee w1 ⟨mo, mc, rfl, h1, h2⟩
        have R1 := hid_of h1
        have B1 := hid_of h2
        obtain ⟨m1, m2, m3⟩ := CC.out _ h2
        clear h1 h2
        refine hK _ _ ?_
        clear hK K
        refine wpAny_ready (rs := [4]) (by kernel_rfl) (by simp) ?_
        refine AllReady.cons rfl (fun K hK => ?_) AllReady.nil
        go_simp
        with_reducible refine (HNM.out w1 mo mc B1.out R1.out).mono ?_
        rintro ee w2 ⟨xo, xc, rfl, h1, h2⟩
        have O2 := hid_of h1
        have B2 := hid_of h2
        have B3 : Hid (Below w.heap.size w (w2.alloc (.cells #[.slice xo m xc] 22))) := hid_of (h2.trans ((bel_alloc w2 _).mono h2.size))
        obtain ⟨n1, n2, n3⟩ := CC.out _ h2
        obtain ⟨p1, p2, p3⟩ := CC.out _ B3.out
        clear h1 h2
        refine hK _ _ ?_
        clear hK K
        refine wpAny_ready (rs := [5]) (by kernel_rfl) (by simp) ?_
        refine AllReady.cons rfl (fun K hK => ?_) AllReady.nil
        go_simp
        refine hK _ _ ?_
        clear hK K
        refine wpAny_ready (rs := [6]) (by kernel_rfl) (by simp) ?_
        refine AllReady.cons rfl (fun K hK => ?_) AllReady.nil
        refine step_own setsE (by rfl) _ _ (by rfl) (.slice ao q cap) q vals (by rfl) (HROW.out _ B3.out) w2.heap.size (.slice xo m xc) (by rfl) (cell_new _ _ _) rfl (by have := HQ.out; omega) (by have := HQ.out; omega) ?_
        intro a2 c2 nz w4 e1 e2 e3 e4
        have PP := hid_of (HAPP.out _ w4 xo a2 xc c2 nz B3.out (own_same O2.out fun k hk => (bel_alloc w2 _).block k (own_lt O2.out hk)) e1 e2 e3 e4)
        clear e1 e2 e3 e4
        have q1 := PP.out.1.1
        have f1 := PP.out.1.2.2.2
        refine hK _ _ ?_
        clear hK K
        refine wpAny_ready (rs := [7]) (by kernel_rfl) (by simp) ?_
        refine AllReady.cons rfl (fun K hK => ?_) AllReady.nil
        go_simp
        refine hK _ _ ?_
        clear hK K
        refine wpAny_done (by kernel_rfl) ?_ _
        go_wp2
        go_ret2
        exact ⟨rfl, PP.out.2⟩
      · go_simp
        with_reducible refine (HME.out _ B0.out).mono ?_
        rintro ee w1 ⟨mo, mc, rfl, h1, h2⟩
        have R1 := hid_of h1
        have B1 := hid_of h2
        obtain ⟨m1, m2, m3⟩ := CC.out _ h2
        clear h1 h2
        refine hK _ _ ?_
        clear hK K
        refine wpAny_ready (rs := [1]) (by kernel_rfl) (by simp) ?_
        refine AllReady.cons rfl (fun K hK => ?_) AllReady.nil
        go_simp
        refine hK _ _ ?_
        clear hK K
        refine wpAny_ready (rs := [4]) (by kernel_rfl) (by simp) ?_
        refine AllReady.cons rfl (fun K hK => ?_) AllReady.nil
        go_simp
        with_reducible refine (HNM.out w1 mo mc B1.out R1.out).mono ?_
        rintro ee w2 ⟨xo, xc, rfl, h1, h2⟩
        have O2 := hid_of h1
        have B2 := hid_of h2
        have B3 : Hid (Below w.heap.size w (w2.alloc (.cells #[.slice xo m xc] 22))) := hid_of (h2.trans ((bel_alloc w2 _).mono h2.size))
        obtain ⟨n1, n2, n3⟩ := CC.out _ h2
        obtain ⟨p1, p2, p3⟩ := CC.out _ B3.out
        clear h1 h2
        refine hK _ _ ?_
        clear hK K
        refine wpAny_ready (rs := [5]) (by kernel_rfl) (by simp) ?_
        refine AllReady.cons rfl (fun K hK => ?_) AllReady.nil
        go_simp
        refine hK _ _ ?_
        clear hK K
        refine wpAny_ready (rs := [6]) (by kernel_rfl) (by simp) ?_
        refine AllReady.cons rfl (fun K hK => ?_) AllReady.nil
        refine step_own setsE (by rfl) _ _ (by rfl) (.slice ao q cap) q vals (by rfl) (HROW.out _ B3.out) w2.heap.size (.slice xo m xc) (by rfl) (cell_new _ _ _) rfl (by have := HQ.out; omega) (by have := HQ.out; omega) ?_
        intro a2 c2 nz w4 e1 e2 e3 e4
        have PP := hid_of (HAPP.out _ w4 xo a2 xc c2 nz B3.out (own_same O2.out fun k hk => (bel_alloc w2 _).block k (own_lt O2.out hk)) e1 e2 e3 e4)
        clear e1 e2 e3 e4
        have q1 := PP.out.1.1
        have f1 := PP.out.1.2.2.2
        refine hK _ _ ?_
        clear hK K
        refine wpAny_ready (rs := [7]) (by kernel_rfl) (by simp) ?_
        refine AllReady.cons rfl (fun K hK => ?_) AllReady.nil
        go_simp
        refine hK _ _ ?_
        clear hK K
        refine wpAny_done (by kernel_rfl) ?_ _
        go_wp2
        go_ret2
        exact ⟨rfl, PP.out.2⟩
    · go_simp
      refine hK _ _ ?_
      clear hK K
      refine wpAny_ready (rs := [0, 3]) (by kernel_rfl) (by simp) ?_
      refine AllReady.cons rfl (fun K hK => ?_) (AllReady.cons rfl (fun K hK => ?_) AllReady.nil)
      · go_simp
        refine hK _ _ ?_
        clear hK K
        refine wpAny_ready (rs := [3]) (by kernel_rfl) (by simp) ?_
        refine AllReady.cons rfl (fun K hK => ?_) AllReady.nil
        go_simp
        with_reducible refine (HME.out _ B0.out).mono ?_
        rintro ee w1 ⟨mo, mc, rfl, h1, h2⟩
        have R1 := hid_of h1
        have B1 := hid_of h2
        obtain ⟨m1, m2, m3⟩ := CC.out _ h2
        clear h1 h2
        refine hK _ _ ?_
        clear hK K
        refine wpAny_ready (rs := [4]) (by kernel_rfl) (by simp) ?_
        refine AllReady.cons rfl (fun K hK => ?_) AllReady.nil
        go_simp
        with_reducible refine (HNM.out w1 mo mc B1.out R1.out).mono ?_
        rintro ee w2 ⟨xo, xc, rfl, h1, h2⟩
        have O2 := hid_of h1
        have B2 := hid_of h2
        have B3 : Hid (Below w.heap.size w (w2.alloc (.cells #[.slice xo m xc] 22))) := hid_of (h2.trans ((bel_alloc w2 _).mono h2.size))
        obtain ⟨n1, n2, n3⟩ := CC.out _ h2
        obtain ⟨p1, p2, p3⟩ := CC.out _ B3.out
        clear h1 h2
        refine hK _ _ ?_
        clear hK K
        refine wpAny_ready (rs := [5]) (by kernel_rfl) (by simp) ?_
        refine AllReady.cons rfl (fun K hK => ?_) AllReady.nil
        go_simp
        refine hK _ _ ?_
        clear hK K
        refine wpAny_ready (rs := [6]) (by kernel_rfl) (by simp) ?_
        refine AllReady.cons rfl (fun K hK => ?_) AllReady.nil
        refine step_own setsE (by rfl) _ _ (by rfl) (.slice ao q cap) q vals (by rfl) (HROW.out _ B3.out) w2.heap.size (.slice xo m xc) (by rfl) (cell_new _ _ _) rfl (by have := HQ.out; omega) (by have := HQ.out; omega) ?_
        intro a2 c2 nz w4 e1 e2 e3 e4
        have PP := hid_of (HAPP.out _ w4 xo a2 xc c2 nz B3.out (own_same O2.out fun k hk => (bel_alloc w2 _).block k (own_lt O2.out hk)) e1 e2 e3 e4)
        clear e1 e2 e3 e4
        have q1 := PP.out.1.1
        have f1 := PP.out.1.2.2.2
        refine hK _ _ ?_
        clear hK K
        refine wpAny_ready (rs := [7]) (by kernel_rfl) (by simp) ?_
        refine AllReady.cons rfl (fun K hK => ?_) AllReady.nil
        go_simp
        refine hK _ _ ?_
        clear hK K
        refine wpAny_done (by kernel_rfl) ?_ _
        go_wp2
        go_ret2
        exact ⟨rfl, PP.out.2⟩
      · go_simp
        with_reducible refine (HME.out _ B0.out).mono ?_
        rintro ee w1 ⟨mo, mc, rfl, h1, h2⟩
        have R1 := hid_of h1
        have B1 := hid_of h2
        obtain ⟨m1, m2, m3⟩ := CC.out _ h2
        clear h1 h2
        refine hK _ _ ?_
        clear hK K
        refine wpAny_ready (rs := [0, 4]) (by kernel_rfl) (by simp) ?_
        refine AllReady.cons rfl (fun K hK => ?_) (AllReady.cons rfl (fun K hK => ?_) AllReady.nil)
        · go_simp
          refine hK _ _ ?_
          clear hK K
          refine wpAny_ready (rs := [4]) (by kernel_rfl) (by simp) ?_
          refine AllReady.cons rfl (fun K hK => ?_) AllReady.nil
          go_simp
          with_reducible refine (HNM.out w1 mo mc B1.out R1.out).mono ?_
          rintro ee w2 ⟨xo, xc, rfl, h1, h2⟩
          have O2 := hid_of h1
          have B2 := hid_of h2
          have B3 : Hid (Below w.heap.size w (w2.alloc (.cells #[.slice xo m xc] 22))) := hid_of (h2.trans ((bel_alloc w2 _).mono h2.size))
          obtain ⟨n1, n2, n3⟩ := CC.out _ h2
          obtain ⟨p1, p2, p3⟩ := CC.out _ B3.out
          clear h1 h2
          refine hK _ _ ?_
          clear hK K
          refine wpAny_ready (rs := [5]) (by kernel_rfl) (by simp) ?_
          refine AllReady.cons rfl (fun K hK => ?_) AllReady.nil
          go_simp
          refine hK _ _ ?_
          clear hK K
          refine wpAny_ready (rs := [6]) (by kernel_rfl) (by simp) ?_
          refine AllReady.cons rfl (fun K hK => ?_) AllReady.nil
          refine step_own setsE (by rfl) _ _ (by rfl) (.slice ao q cap) q vals (by rfl) (HROW.out _ B3.out) w2.heap.size (.slice xo m xc) (by rfl) (cell_new _ _ _) rfl (by have := HQ.out; omega) (by have := HQ.out; omega) ?_
          intro a2 c2 nz w4 e1 e2 e3 e4
          have PP := hid_of (HAPP.out _ w4 xo a2 xc c2 nz B3.out (own_same O2.out fun k hk => (bel_alloc w2 _).block k (own_lt O2.out hk)) e1 e2 e3 e4)
          clear e1 e2 e3 e4
          have q1 := PP.out.1.1
          have f1 := PP.out.1.2.2.2
          refine hK _ _ ?_
          clear hK K
          refine wpAny_ready (rs := [7]) (by kernel_rfl) (by simp) ?_
          refine AllReady.cons rfl (fun K hK => ?_) AllReady.nil
          go_simp
          refine hK _ _ ?_
          clear hK K
          refine wpAny_done (by kernel_rfl) ?_ _
          go_wp2
          go_ret2
          exact ⟨rfl, PP.out.2⟩
        · go_simp
          with_reducible refine (HNM.out w1 mo mc B1.out R1.out).mono ?_
          rintro ee w2 ⟨xo, xc, rfl, h1, h2⟩
          have O2 := hid_of h1
          have B2 := hid_of h2
          have B3 : Hid (Below w.heap.size w (w2.alloc (.cells #[.slice xo m xc] 22))) := hid_of (h2.trans ((bel_alloc w2 _).mono h2.size))
          obtain ⟨n1, n2, n3⟩ := CC.out _ h2
          obtain ⟨p1, p2, p3⟩ := CC.out _ B3.out
          clear h1 h2
          refine hK _ _ ?_
          clear hK K
          refine wpAny_ready (rs := [0, 5]) (by kernel_rfl) (by simp) ?_
          refine AllReady.cons rfl (fun K hK => ?_) (AllReady.cons rfl (fun K hK => ?_) AllReady.nil)
          · go_simp
            refine hK _ _ ?_
            clear hK K
            refine wpAny_ready (rs := [5]) (by kernel_rfl) (by simp) ?_
            refine AllReady.cons rfl (fun K hK => ?_) AllReady.nil
            go_simp
            refine hK _ _ ?_
            clear hK K
            refine wpAny_ready (rs := [6]) (by kernel_rfl) (by simp) ?_
            refine AllReady.cons rfl (fun K hK => ?_) AllReady.nil
            refine step_own setsE (by rfl) _ _ (by rfl) (.slice ao q cap) q vals (by rfl) (HROW.out _ B3.out) w2.heap.size (.slice xo m xc) (by rfl) (cell_new _ _ _) rfl (by have := HQ.out; omega) (by have := HQ.out; omega) ?_
            intro a2 c2 nz w4 e1 e2 e3 e4
            have PP := hid_of (HAPP.out _ w4 xo a2 xc c2 nz B3.out (own_same O2.out fun k hk => (bel_alloc w2 _).block k (own_lt O2.out hk)) e1 e2 e3 e4)
            clear e1 e2 e3 e4
            have q1 := PP.out.1.1
            have f1 := PP.out.1.2.2.2
            refine hK _ _ ?_
            clear hK K
            refine wpAny_ready (rs := [7]) (by kernel_rfl) (by simp) ?_
            refine AllReady.cons rfl (fun K hK => ?_) AllReady.nil
            go_simp
            refine hK _ _ ?_
            clear hK K
            refine wpAny_done (by kernel_rfl) ?_ _
            go_wp2
            go_ret2
            exact ⟨rfl, PP.out.2⟩
          · go_simp
            refine hK _ _ ?_
            clear hK K
            refine wpAny_ready (rs := [0]) (by kernel_rfl) (by simp) ?_
            refine AllReady.cons rfl (fun K hK => ?_) AllReady.nil
            go_simp
            refine hK _ _ ?_
            clear hK K
            refine wpAny_ready (rs := [6]) (by kernel_rfl) (by simp) ?_
            refine AllReady.cons rfl (fun K hK => ?_) AllReady.nil
            refine step_own setsE (by rfl) _ _ (by rfl) (.slice ao q cap) q vals (by rfl) (HROW.out _ B3.out) w2.heap.size (.slice xo m xc) (by rfl) (cell_new _ _ _) rfl (by have := HQ.out; omega) (by have := HQ.out; omega) ?_
            intro a2 c2 nz w4 e1 e2 e3 e4
            have PP := hid_of (HAPP.out _ w4 xo a2 xc c2 nz B3.out (own_same O2.out fun k hk => (bel_alloc w2 _).block k (own_lt O2.out hk)) e1 e2 e3 e4)
            clear e1 e2 e3 e4
            have q1 := PP.out.1.1
            have f1 := PP.out.1.2.2.2
            refine hK _ _ ?_
            clear hK K
            refine wpAny_ready (rs := [7]) (by kernel_rfl) (by simp) ?_
            refine AllReady.cons rfl (fun K hK => ?_) AllReady.nil
            go_simp
            refine hK _ _ ?_
            clear hK K
            refine wpAny_done (by kernel_rfl) ?_ _
            go_wp2
            go_ret2
            exact ⟨rfl, PP.out.2⟩
    · go_simp
      with_reducible refine (HME.out _ B0.out).mono ?_
      rintro ee w1 ⟨mo, mc, rfl, h1, h2⟩
      have R1 := hid_of h1
      have B1 := hid_of h2
      obtain ⟨m1, m2, m3⟩ := CC.out _ h2
      clear h1 h2
      refine hK _ _ ?_
      clear hK K
      refine wpAny_ready (rs := [0, 1]) (by kernel_rfl) (by simp) ?_
      refine AllReady.cons rfl (fun K hK => ?_) (AllReady.cons rfl (fun K hK => ?_) AllReady.nil)
      · go_simp
        refine hK _ _ ?_
        clear hK K
        refine wpAny_ready (rs := [1]) (by kernel_rfl) (by simp) ?_
        refine AllReady.cons rfl (fun K hK => ?_) AllReady.nil
        go_simp
        refine hK _ _ ?_
        clear hK K
        refine wpAny_ready (rs := [4]) (by kernel_rfl) (by simp) ?_
        refine AllReady.cons rfl (fun K hK => ?_) AllReady.nil
        go_simp
        with_reducible refine (HNM.out w1 mo mc B1.out R1.out).mono ?_
        rintro ee w2 ⟨xo, xc, rfl, h1, h2⟩
        have O2 := hid_of h1
        have B2 := hid_of h2
        have B3 : Hid (Below w.heap.size w (w2.alloc (.cells #[.slice xo m xc] 22))) := hid_of (h2.trans ((bel_alloc w2 _).mono h2.size))
        obtain ⟨n1, n2, n3⟩ := CC.out _ h2
        obtain ⟨p1, p2, p3⟩ := CC.out _ B3.out
        clear h1 h2
        refine hK _ _ ?_
        clear hK K
        refine wpAny_ready (rs := [5]) (by kernel_rfl) (by simp) ?_
        refine AllReady.cons rfl (fun K hK => ?_) AllReady.nil
        go_simp
        refine hK _ _ ?_
        clear hK K
        refine wpAny_ready (rs := [6]) (by kernel_rfl) (by simp) ?_
        refine AllReady.cons rfl (fun K hK => ?_) AllReady.nil
        refine step_own setsE (by rfl) _ _ (by rfl) (.slice ao q cap) q vals (by rfl) (HROW.out _ B3.out) w2.heap.size (.slice xo m xc) (by rfl) (cell_new _ _ _) rfl (by have := HQ.out; omega) (by have := HQ.out; omega) ?_
        intro a2 c2 nz w4 e1 e2 e3 e4
        have PP := hid_of (HAPP.out _ w4 xo a2 xc c2 nz B3.out (own_same O2.out fun k hk => (bel_alloc w2 _).block k (own_lt O2.out hk)) e1 e2 e3 e4)
        clear e1 e2 e3 e4
        have q1 := PP.out.1.1
        have f1 := PP.out.1.2.2.2
        refine hK _ _ ?_
        clear hK K
        refine wpAny_ready (rs := [7]) (by kernel_rfl) (by simp) ?_
        refine AllReady.cons rfl (fun K hK => ?_) AllReady.nil
        go_simp
        refine hK _ _ ?_
        clear hK K
        refine wpAny_done (by kernel_rfl) ?_ _
        go_wp2
        go_ret2
        exact ⟨rfl, PP.out.2⟩
      · go_simp
        refine hK _ _ ?_
        clear hK K
        refine wpAny_ready (rs := [0, 4]) (by kernel_rfl) (by simp) ?_
        refine AllReady.cons rfl (fun K hK => ?_) (AllReady.cons rfl (fun K hK => ?_) AllReady.nil)
        · go_simp
          refine hK _ _ ?_
          clear hK K
          refine wpAny_ready (rs := [4]) (by kernel_rfl) (by simp) ?_
          refine AllReady.cons rfl (fun K hK => ?_) AllReady.nil
          go_simp
          with_reducible refine (HNM.out w1 mo mc B1.out R1.out).mono ?_
          rintro ee w2 ⟨xo, xc, rfl, h1, h2⟩
          have O2 := hid_of h1
          have B2 := hid_of h2
          have B3 : Hid (Below w.heap.size w (w2.alloc (.cells #[.slice xo m xc] 22))) := hid_of (h2.trans ((bel_alloc w2 _).mono h2.size))
          obtain ⟨n1, n2, n3⟩ := CC.out _ h2
          obtain ⟨p1, p2, p3⟩ := CC.out _ B3.out
          clear h1 h2
          refine hK _ _ ?_
          clear hK K
          refine wpAny_ready (rs := [5]) (by kernel_rfl) (by simp) ?_
          refine AllReady.cons rfl (fun K hK => ?_) AllReady.nil
          go_simp
          refine hK _ _ ?_
          clear hK K
          refine wpAny_ready (rs := [6]) (by kernel_rfl) (by simp) ?_
          refine AllReady.cons rfl (fun K hK => ?_) AllReady.nil
          refine step_own setsE (by rfl) _ _ (by rfl) (.slice ao q cap) q vals (by rfl) (HROW.out _ B3.out) w2.heap.size (.slice xo m xc) (by rfl) (cell_new _ _ _) rfl (by have := HQ.out; omega) (by have := HQ.out; omega) ?_
          intro a2 c2 nz w4 e1 e2 e3 e4
          have PP := hid_of (HAPP.out _ w4 xo a2 xc c2 nz B3.out (own_same O2.out fun k hk => (bel_alloc w2 _).block k (own_lt O2.out hk)) e1 e2 e3 e4)
          clear e1 e2 e3 e4
          have q1 := PP.out.1.1
          have f1 := PP.out.1.2.2.2
          refine hK _ _ ?_
          clear hK K
          refine wpAny_ready (rs := [7]) (by kernel_rfl) (by simp) ?_
          refine AllReady.cons rfl (fun K hK => ?_) AllReady.nil
          go_simp
          refine hK _ _ ?_
          clear hK K
          refine wpAny_done (by kernel_rfl) ?_ _
          go_wp2
          go_ret2
          exact ⟨rfl, PP.out.2⟩
        · go_simp
          with_reducible refine (HNM.out w1 mo mc B1.out R1.out).mono ?_
          rintro ee w2 ⟨xo, xc, rfl, h1, h2⟩
          have O2 := hid_of h1
          have B2 := hid_of h2
          have B3 : Hid (Below w.heap.size w (w2.alloc (.cells #[.slice xo m xc] 22))) := hid_of (h2.trans ((bel_alloc w2 _).mono h2.size))
          obtain ⟨n1, n2, n3⟩ := CC.out _ h2
          obtain ⟨p1, p2, p3⟩ := CC.out _ B3.out
          clear h1 h2
          refine hK _ _ ?_
          clear hK K
          refine wpAny_ready (rs := [0, 5]) (by kernel_rfl) (by simp) ?_
          refine AllReady.cons rfl (fun K hK => ?_) (AllReady.cons rfl (fun K hK => ?_) AllReady.nil)
          · go_simp
            refine hK _ _ ?_
            clear hK K
            refine wpAny_ready (rs := [5]) (by kernel_rfl) (by simp) ?_
            refine AllReady.cons rfl (fun K hK => ?_) AllReady.nil
            go_simp
            refine hK _ _ ?_
            clear hK K
            refine wpAny_ready (rs := [6]) (by kernel_rfl) (by simp) ?_
            refine AllReady.cons rfl (fun K hK => ?_) AllReady.nil
            refine step_own setsE (by rfl) _ _ (by rfl) (.slice ao q cap) q vals (by rfl) (HROW.out _ B3.out) w2.heap.size (.slice xo m xc) (by rfl) (cell_new _ _ _) rfl (by have := HQ.out; omega) (by have := HQ.out; omega) ?_
            intro a2 c2 nz w4 e1 e2 e3 e4
            have PP := hid_of (HAPP.out _ w4 xo a2 xc c2 nz B3.out (own_same O2.out fun k hk => (bel_alloc w2 _).block k (own_lt O2.out hk)) e1 e2 e3 e4)
            clear e1 e2 e3 e4
            have q1 := PP.out.1.1
            have f1 := PP.out.1.2.2.2
            refine hK _ _ ?_
            clear hK K
            refine wpAny_ready (rs := [7]) (by kernel_rfl) (by simp) ?_
            refine AllReady.cons rfl (fun K hK => ?_) AllReady.nil
            go_simp
            refine hK _ _ ?_
            clear hK K
            refine wpAny_done (by kernel_rfl) ?_ _
            go_wp2
            go_ret2
            exact ⟨rfl, PP.out.2⟩
          · go_simp
            refine hK _ _ ?_
            clear hK K
            refine wpAny_ready (rs := [0]) (by kernel_rfl) (by simp) ?_
            refine AllReady.cons rfl (fun K hK => ?_) AllReady.nil
            go_simp
            refine hK _ _ ?_
            clear hK K
            refine wpAny_ready (rs := [6]) (by kernel_rfl) (by simp) ?_
            refine AllReady.cons rfl (fun K hK => ?_) AllReady.nil
            refine step_own setsE (by rfl) _ _ (by rfl) (.slice ao q cap) q vals (by rfl) (HROW.out _ B3.out) w2.heap.size (.slice xo m xc) (by rfl) (cell_new _ _ _) rfl (by have := HQ.out; omega) (by have := HQ.out; omega) ?_
            intro a2 c2 nz w4 e1 e2 e3 e4
            have PP := hid_of (HAPP.out _ w4 xo a2 xc c2 nz B3.out (own_same O2.out fun k hk => (bel_alloc w2 _).block k (own_lt O2.out hk)) e1 e2 e3 e4)
            clear e1 e2 e3 e4
            have q1 := PP.out.1.1
            have f1 := PP.out.1.2.2.2
            refine hK _ _ ?_
            clear hK K
            refine wpAny_ready (rs := [7]) (by kernel_rfl) (by simp) ?_
            refine AllReady.cons rfl (fun K hK => ?_) AllReady.nil
            go_simp
            refine hK _ _ ?_
            clear hK K
            refine wpAny_done (by kernel_rfl) ?_ _
            go_wp2
            go_ret2
            exact ⟨rfl, PP.out.2⟩
end Go.Proofs.Ytedohggbpmcehaa

/- All: the mathematics around its walks. -/
namespace Go.Proofs.Ytedohggbpmcehaa
open Go.RowKit

theorem subs_len : ∀ (k i : Nat), (subs k i).length = 2 ^ k
  | 0, _ => rfl
  | k + 1, i => by
    rw [subs, List.length_append, List.length_map, subs_len k, Nat.pow_succ]; omega
theorem allS_len (R : List Hrl) (n : Nat) : (allS R n).length ≤ 2 ^ n := by
  rw [← subs_len n 0]; exact List.length_filter_le _ _
theorem prc_all : ∀ (L d : List (List Nat)), prc (fun _ => true) d L = (d ++ L, true)
  | [], d => by simp [prc]
  | x :: L, d => by simp [prc, prc_all L]
theorem prc_fit (lim : Int) : ∀ (L d : List (List Nat)), ((d.length + L.length : Nat) : Int) ≤ lim → prc (okL lim) d L = (d ++ L, true)
  | [], d, _ => by simp [prc]
  | x :: L, d, h => by
    have h1 : okL lim (d ++ [x]) = true := by unfold okL; rw [List.length_append, List.length_singleton]; refine decide_eq_true ?_; rw [List.length_cons] at h; omega
    rw [prc, if_pos h1, prc_fit lim L (d ++ [x]) (by rw [List.length_append, List.length_singleton]; rw [List.length_cons] at h; omega), List.append_assoc]; rfl
theorem prc_over (lim : Int) : ∀ (L d : List (List Nat)), (d.length : Int) ≤ lim → lim < ((d.length + L.length : Nat) : Int) → (prc (okL lim) d L).2 = false
  | [], d, h1, h2 => by simp at h2; omega
  | x :: L, d, h1, h2 => by
    rw [prc]
    split
    · rename_i h3
      unfold okL at h3
      have h4 := of_decide_eq_true h3
      exact prc_over lim L (d ++ [x]) h4 (by rw [List.length_append, List.length_singleton]; rw [List.length_cons] at h2; omega)
    · rfl
theorem ix_inj {U s : List Str} {L L' : List Nat} (hU : SS U) (h : Ix U s L) (h' : Ix U s L') : L = L' := by
  apply List.ext_getElem?
  intro k
  by_cases hk : k < s.length
  · obtain ⟨x, hx⟩ : ∃ x, s[k]? = some x := ⟨_, List.getElem?_eq_getElem hk⟩
    obtain ⟨i, h1, h2⟩ := h.back hx
    obtain ⟨j, h3, h4⟩ := h'.back hx
    rw [h1, h3, ss_inj hU h2 h4]
  · rw [List.getElem?_eq_none (by have := h.len; omega), List.getElem?_eq_none (by have := h'.len; omega)]
theorem cmp_inj {U : List Str} {rs : List Gr} {R R' : List Hrl} (hU : SS U) (h : Cmp U rs R) (h' : Cmp U rs R') : R = R' := by
  apply List.ext_getElem?
  intro k
  by_cases hk : k < rs.length
  · obtain ⟨r, hr⟩ : ∃ r, rs[k]? = some r := ⟨_, List.getElem?_eq_getElem hk⟩
    obtain ⟨q, hq⟩ : ∃ q, R[k]? = some q := ⟨_, List.getElem?_eq_getElem (by have := h.len; omega)⟩
    obtain ⟨q', hq'⟩ : ∃ q', R'[k]? = some q' := ⟨_, List.getElem?_eq_getElem (by have := h'.len; omega)⟩
    obtain ⟨a1, a2⟩ := h.at_ k r q hr hq
    obtain ⟨b1, b2⟩ := h'.at_ k r q' hr hq'
    rw [hq, hq']
    have e1 := ix_inj hU a1 b1
    have e2 := ix_inj hU a2 b2
    rw [show q = (q.1, q.2) from rfl, show q' = (q'.1, q'.2) from rfl, e1, e2]
  · rw [List.getElem?_eq_none (by have := h.len; omega), List.getElem?_eq_none (by have := h'.len; omega)]
/-- The rules in numbers. -/
def cmpF (U : List Str) (rs : List Gr) : List Hrl := rs.map fun r => (r.1.map fun x => U.idxOf x, [U.idxOf r.2])
theorem ix_mk {U s : List Str} (h : ∀ x ∈ s, x ∈ U) : Ix U s (s.map fun x => U.idxOf x) := by
  unfold Ix
  rw [List.map_map]
  refine List.map_congr_left fun x hx => ?_
  have h1 := List.idxOf_lt_length_iff.2 (h x hx)
  show U[U.idxOf x]? = some x
  rw [List.getElem?_eq_getElem h1, List.getElem_idxOf]
theorem cmp_mk {U : List Str} {rs : List Gr} (h : chkE U rs = 0) : Cmp U rs (cmpF U rs) := by
  obtain ⟨_, h2⟩ := chk_ok h
  refine ⟨by simp [cmpF], fun i r q hr hq => ?_⟩
  unfold cmpF at hq
  rw [List.getElem?_map, hr] at hq
  simp only [Option.map_some, Option.some.injEq] at hq
  subst hq
  obtain ⟨_, k2, k3⟩ := h2 r (List.mem_of_getElem? hr)
  exact ⟨ix_mk k2, ix_mk fun x hx => by rw [List.mem_singleton.1 hx]; exact k3⟩
/-- All closed sets, in names. -/
def allF (U : List Str) (rs : List Gr) : List (List Str) := (allS (cmpF U rs) U.length).map (nmF U)
/-- The slice reads as sets, all in blocks of the call's own. -/
def SetsR (B : Nat) (w : World) (v : Value) (ls : List (List Str)) : Prop := ∃ vals, vals.length = ls.length ∧ w.ownsRow B 22 1 v ls.length vals ∧ ∀ (i : Nat) (u : Value) (l : List Str), vals[i]? = some u → ls[i]? = some l → w.ownsRow B 9 1 u l.length (ss l)
end Go.Proofs.Ytedohggbpmcehaa

/- All. Bounds on sizes alone. -/
namespace Go.Proofs.Ytedohggbpmcehaa
open Go.RowKit

section
variable (uo : Option Addr) (un uc : Nat) (U : List Str) (rs : List Gr) (w : World)
/-- What All leaves. -/
def AllP (e : Ending) (w' : World) : Prop := ∃ ao cap, e = .returned (.tuple #[.slice ao (allF U rs).length cap, .int .i64 0]) ∧ SetsR w.heap.size w' (.slice ao (allF U rs).length cap) (allF U rs) ∧ Below w.heap.size w w'
/-- Behind the second walk. -/
def P8 (sb : Nat) (w8 : World) : Prop := ∃ ao cap, w8.cell? ⟨sb, 0, none⟩ = some (.slice ao (allF U rs).length cap) ∧ AllP U rs w (.returned (.tuple #[.slice ao (allF U rs).length cap, .int .i64 0])) w8
/-- Behind the first walk. -/
def P6 (c xb : Nat) (w6 : World) : Prop := (w6.cell? ⟨xb + 1, 0, none⟩ = some (.int .i64 (allF U rs).length) ∧ w6.cell? ⟨xb, 0, none⟩ = some (.pointer (some ⟨c, 0, none⟩)) ∧ Below w.heap.size w w6) ∧
  ∀ (w7 : World) (g sb : Nat), Below w6.heap.size w6 w7 → w7.ownsRow w6.heap.size 22 1 (.slice (some ⟨g, 0, none⟩) 0 (allF U rs).length) 0 [] → w7.heap[sb]? = some (.cells #[.slice (some ⟨g, 0, none⟩) 0 (allF U rs).length] 45 (0, 0)) → w6.heap.size ≤ sb →
    Calls Try.prog 53 #[.pointer (some ⟨c, 0, none⟩), .func (.func 55) #[] #[.pointer (some ⟨sb, 0, none⟩), .pointer (some ⟨w.heap.size, 0, none⟩), .pointer (some ⟨xb, 0, none⟩)]] w7 fun e w8 => e = .returned (.bool true) ∧ Hid (P8 U rs w sb w8)
/-- Behind newChase. -/
def N2 (c : Nat) (w2 : World) : Prop := ∀ w5, Below w2.heap.size w2 w5 → w5.heap[w2.heap.size]? = some (.cells #[.pointer (some ⟨c, 0, none⟩)] 76 (0, 0)) → w5.heap[w2.heap.size + 1]? = some (.cells #[.int .i64 0] 3 (0, 0)) → w5.heap[w2.heap.size + 1 + 1]? = some (.cells #[.int .i64 0] 3 (0, 0)) →
  Calls Try.prog 53 #[.pointer (some ⟨c, 0, none⟩), .func (.func 54) #[] #[.pointer (some ⟨w2.heap.size + 1, 0, none⟩), .pointer (some ⟨w2.heap.size + 1 + 1, 0, none⟩), .pointer (some ⟨w2.heap.size, 0, none⟩), .pointer (some ⟨w.heap.size + 1, 0, none⟩)]] w5 fun e w6 => e = .returned (.bool true) ∧ Hid (P6 U rs w c w2.heap.size w6)
end
set_option maxRecDepth 100000 in
theorem all_p6 {uo : Option Addr} {un uc : Nat} {U : List Str} {rs : List Gr} {w w1 w2 w5 w6 : World} {c : Nat} {V V' : CV} {S U' JS' : Nat → Prop} {lim : Int} (hul : un = U.length) (hu : un ≤ 1000) (hN : (allF U rs).length ≤ 100000) (RU : Rd w (.slice uo un uc) (ss U))
    (hB1 : Below w.heap.size w w1) (hz1 : w.heap.size + 1 + 1 ≤ w1.heap.size) (hub : w1.heap[w.heap.size]? = some (.cells #[.slice uo un uc] 22 (0, 0)))
    (h12 : Below w1.heap.size w1 w2) (h25 : Below w2.heap.size w2 w5) (hz5 : w2.heap.size + 1 + 1 < w5.heap.size) (hS : ∀ b, S b → w1.heap.size ≤ b) (hA : ∀ v ∈ V.ar, ∀ g, v.ownBlock = some g → w.heap.size + 1 + 1 ≤ g) (hai : ∀ (i : Nat) (v : Value), V.ar[i]? = some v → ∀ g, v.ownBlock = some g → g < w2.heap.size)
    (p1 : Chg (orS S (fun b => b = w2.heap.size + 1 ∨ b = w2.heap.size + 1 + 1 ∨ b = w2.heap.size ∨ b = w.heap.size + 1)) (orS U' JS') w5 w6) (p2 : J1 (w2.heap.size + 1) (w2.heap.size + 1 + 1) w2.heap.size (w.heap.size + 1) c un lim (allS (cmpF U rs) un) JS' w6) (p3 : V'.ar = V.ar)
    (p4 : ∃ T', CH w6 c un (cmpF U rs) (lackR (cmpF U rs) (fun _ => 0) (T'.take T'.length)) (memB T') T' T'.length V' U' ∧ ∀ b, JS' b → ¬ U' b) : P6 U rs w c w2.heap.size w6 := by
  obtain ⟨T', ch6, hdis⟩ := p4
  have hcnt : (allF U rs).length = (allS (cmpF U rs) un).length := by unfold allF; rw [List.length_map, ← hul]
  have z12 := h12.size
  have z25 := h25.size
  have z56 := p1.kept.size
  have hlow : ∀ b, b ≤ w.heap.size → ¬ orS S (fun b => b = w2.heap.size + 1 ∨ b = w2.heap.size + 1 + 1 ∨ b = w2.heap.size ∨ b = w.heap.size + 1) b := fun b hb hs => by
    rcases hs with hs | hs | hs | hs | hs
    · have := hS b hs; omega
    · omega
    · omega
    · omega
    · omega
  have h15 : Below w1.heap.size w1 w5 := h12.trans (h25.mono h12.size)
  have h6 : ∀ b, b ≤ w.heap.size → w6.heap[b]? = w1.heap[b]? := fun b hb => by
    rw [p1.kept.block b (by omega) (hlow b hb), h15.block b (by omega)]
  have hw6 : Below w.heap.size w w6 := ⟨p1.kept.os.trans (h15.os.trans hB1.os), p1.kept.tape.trans (h15.tape.trans hB1.tape), p1.kept.output.trans (h15.output.trans hB1.output), by omega, fun b hb => (h6 b (by omega)).trans (hB1.block b hb)⟩
  refine ⟨⟨?_, blk_cell (cs := [.pointer (some ⟨c, 0, none⟩)]) p2.x rfl, hw6⟩, fun w7 g sb h67 hrow hsb hsz => ?_⟩
  · rw [hcnt]; exact blk_cell (cs := [.int .i64 ((allS (cmpF U rs) un).length : Nat)]) p2.k rfl
  have hnU : ∀ b, b ≤ w.heap.size → ¬ U' b := fun b hb hU => by
    rcases p1.sub b (.inl hU) with h9 | h9
    · exact hlow b hb h9
    · omega
  have hg : w6.heap.size ≤ g ∧ g < w7.heap.size := hrow.lt g rfl
  have z67 := h67.size
  have j2 : J2 w sb w.heap.size w2.heap.size c uo un uc U [] (some ⟨g, 0, none⟩) (allF U rs).length [] (fun b => b < w.heap.size ∨ b = sb ∨ b = w.heap.size ∨ b = w2.heap.size ∨ (Value.slice (some ⟨g, 0, none⟩) ([] : List (List Nat)).length (allF U rs).length).ownBlock = some b ∨ ∃ v ∈ ([] : List Value), v.ownBlock = some b) w7 := by
    refine ⟨fun b => Iff.rfl, fun b hb => (h67.block b (by omega)).trans (hw6.block b hb), hsb, ((h67.block _ (by omega)).trans (h6 _ (Nat.le_refl _))).trans hub, (h67.block _ (by omega)).trans p2.x, own_weak hrow (by omega), rfl, fun i v L hv => by simp at hv, fun b hb => ?_, by omega, by omega⟩
    simp only [Value.ownBlock, Option.some.injEq] at hb
    omega
  refine (wal_any c un T'.length 55 (cmpF U rs) _ (J2E w sb w.heap.size w2.heap.size c uo un uc U) (fun _ => true) 100000 T' V' U' _ w7 (by omega) (fun _ _ => rfl) J2E.stable
    (fun vb cb bb d T V US JS wv hd _ hst => all2_any w sb w.heap.size w2.heap.size c un 100000 uo un uc U (cmpF U rs) (by omega) (by omega) hul.symm RU vb cb bb _ _ d T V US JS wv hd hst)
    (ch6.at h67) (Nat.le_refl _) ⟨_, _, _, j2⟩ (fun b hb => ?_) (fun i v hv g' hg' hJ => ?_) (by rw [← hcnt]; exact hN)).mono ?_
  · rcases hb with hb | rfl | rfl | rfl | hb | ⟨v, hv, _⟩
    · exact ⟨hnU b (by omega), by omega⟩
    · exact ⟨fun hU => by have := ch6.sz _ hU; omega, lt_of_block hsb⟩
    · exact ⟨hnU _ (Nat.le_refl _), by omega⟩
    · exact ⟨hdis _ ((p2.js _).2 (.inr (.inr (.inl rfl)))), by omega⟩
    · simp only [Value.ownBlock, Option.some.injEq] at hb
      subst hb
      exact ⟨fun hU => by have := ch6.sz _ hU; omega, hg.2⟩
    · cases hv
  · rw [p3] at hv
    have q1 := hA v (List.mem_of_getElem? hv) g' hg'
    have q2 := hai i v hv g' hg'
    rcases hJ with hb | hb | hb | hb | hb | ⟨v, hv, _⟩
    · omega
    · omega
    · omega
    · omega
    · simp only [Value.ownBlock, Option.some.injEq] at hb
      omega
    · cases hv
  · rintro e w8 ⟨rfl, V2, U2, JS2, r1, r2, r3, r4⟩
    rw [prc_all] at r2 ⊢
    refine ⟨rfl, ?_⟩
    simp only [List.nil_append] at r2
    obtain ⟨ao, cap, vals, j8⟩ := r2
    refine hid_of ⟨ao, cap, by rw [hcnt]; exact blk_cell (cs := [.slice ao (allS (cmpF U rs) un).length cap]) j8.s rfl, ao, cap, rfl, ⟨vals, by rw [hcnt]; exact j8.len, by rw [hcnt]; exact j8.row, fun i v l hv hl => ?_⟩, ?_⟩
    · unfold allF at hl
      rw [← hul, List.getElem?_map] at hl
      obtain ⟨L, hL, rfl⟩ := Option.map_eq_some_iff.1 hl
      have := j8.each i v L hv hL
      rw [nmF_length]; exact this
    · exact ⟨r1.kept.os.trans (h67.os.trans hw6.os), r1.kept.tape.trans (h67.tape.trans hw6.tape), r1.kept.output.trans (h67.output.trans hw6.output), by have := r1.kept.size; omega, fun b hb => j8.old b hb⟩
set_option maxRecDepth 100000 in
theorem all_n2 {uo : Option Addr} {un uc : Nat} {U : List Str} {rs : List Gr} {w w1 w2 : World} {c : Nat} {lim : Int} (hul : un = U.length) (hu : un ≤ 1000) (hN : (allF U rs).length ≤ 100000) (RU : Rd w (.slice uo un uc) (ss U)) (hl1 : 1 ≤ lim) (hl2 : lim ≤ 9223372036854775807) (hfit : ((allF U rs).length : Int) ≤ lim)
    (hB1 : Below w.heap.size w w1) (hz1 : w.heap.size + 1 + 1 ≤ w1.heap.size) (hub : w1.heap[w.heap.size]? = some (.cells #[.slice uo un uc] 22 (0, 0))) (hlb : w1.heap[w.heap.size + 1]? = some (.cells #[.int .i64 lim] 3 (0, 0)))
    (hni : NewI (w.heap.size + 1 + 1) w1 c un (cmpF U rs) w2) : N2 U rs w c w2 := by
  obtain ⟨V, S, hch, h12, hS, hA⟩ := hni
  intro w5 h25 e1 e2 e3
  have z12 := h12.size
  have z25 := h25.size
  have zz := lt_of_block e3
  have hcnt : (allF U rs).length = (allS (cmpF U rs) un).length := by unfold allF; rw [List.length_map, ← hul]
  have ch5 := hch.at h25
  have j1 : J1 (w2.heap.size + 1) (w2.heap.size + 1 + 1) w2.heap.size (w.heap.size + 1) c un lim [] (fun b => b = w2.heap.size + 1 ∨ b = w2.heap.size + 1 + 1 ∨ b = w2.heap.size ∨ b = w.heap.size + 1) w5 :=
    ⟨fun b => Iff.rfl, e2, e3, e1, ((h25.block _ (by omega)).trans (h12.block _ (by omega))).trans hlb, by omega, by simp [sumL]⟩
  have hai : ∀ (i : Nat) (v : Value), V.ar[i]? = some v → ∀ g, v.ownBlock = some g → g < w2.heap.size := fun i v hv g hg => ((hch.ai i v hv).2 g hg).1
  refine (wal_any c un 0 54 (cmpF U rs) _ (J1 (w2.heap.size + 1) (w2.heap.size + 1 + 1) w2.heap.size (w.heap.size + 1) c un lim) (okL lim) 100000 [] V S _ w5 (by omega) (fun _ _ => rfl) J1.stable
    (fun vb cb bb d T V US JS wv hd _ hst => all1_any _ _ _ _ c un 100000 lim (cmpF U rs) hu (Nat.le_refl _) vb cb bb _ _ d T V US JS wv hd hst (by omega) hl2)
    ch5 (Nat.zero_le _) j1 (fun b hb => ?_) (fun i v hv g hg hJ => ?_) (by rw [← hcnt]; exact hN)).mono ?_
  · rcases hb with rfl | rfl | rfl | rfl
    · exact ⟨fun hs => by have := hch.sz _ hs; omega, by omega⟩
    · exact ⟨fun hs => by have := hch.sz _ hs; omega, by omega⟩
    · exact ⟨fun hs => by have := hch.sz _ hs; omega, by omega⟩
    · exact ⟨fun hs => by have := hS _ hs; omega, by omega⟩
  · have q1 := hA v (List.mem_of_getElem? hv) g hg
    have q2 := hai i v hv g hg
    rcases hJ with h | h | h | h <;> omega
  · rintro e w6 ⟨rfl, V', U', JS', p1, p2, p3, p4⟩
    rw [prc_fit lim _ _ (by rw [← hcnt]; simpa using hfit)] at p2 p4 ⊢
    refine ⟨rfl, hid_of (all_p6 hul hu hN RU hB1 hz1 hub h12 h25 zz hS hA hai p1 (by simpa using p2) p3 (p4 rfl))⟩

set_option maxRecDepth 100000 in
set_option maxHeartbeats 1600000 in
theorem all_good (uo : Option Addr) (un uc : Nat) (U : List Str) (ro : Option Addr) (rn rc : Nat) (rs : List Gr) (lim : Int) (w : World) (h : InU w uo un uc U ro rn rc rs) (hq : chkE U rs = 0) (hl1 : 1 ≤ lim) (hl2 : lim ≤ 9223372036854775807) (hu : un ≤ 1000) (hN : (allF U rs).length ≤ 100000) (hfit : ((allF U rs).length : Int) ≤ lim) :
    Calls Try.prog 30 #[.slice uo un uc, .slice ro rn rc, .int .i64 lim] w (AllP U rs w) := by
  have hul := h.ul
  obtain ⟨wb, hwb⟩ : ∃ wb, wb = (w.alloc (.cells #[.slice uo un uc] 22)).alloc (.cells #[.int .i64 lim] 3) := ⟨_, rfl⟩
  have Bb : Below w.heap.size w wb := by rw [hwb]; exact (bel_alloc w _).trans ((bel_alloc _ _).mono (by simp))
  have zb : wb.heap.size = w.heap.size + 1 + 1 := by rw [hwb]; simp
  have b1 : wb.heap[w.heap.size]? = some (.cells #[.slice uo un uc] 22 (0, 0)) := by
    rw [hwb, (bel_alloc _ _).block w.heap.size (by simp)]; exact heap_alloc_new w _
  have b2 : wb.heap[w.heap.size + 1]? = some (.cells #[.int .i64 lim] 3 (0, 0)) := by
    rw [hwb]; have := heap_alloc_new (w.alloc (.cells #[.slice uo un uc] 22)) (.cells #[.int .i64 lim] 3)
    simpa using this
  have hb := h.at Bb
  have hrn := h.rn
  have HC : Hid (Calls Try.prog 44 #[.slice uo un uc, .slice ro rn rc] wb fun e w1 => ∃ ao cap, e = .returned (.tuple #[.slice ao rn cap, .int .i64 0]) ∧ (w1.cell? ⟨w.heap.size, 0, none⟩ = some (.slice uo un uc) ∧ w1.cell? ⟨w.heap.size + 1, 0, none⟩ = some (.int .i64 lim)) ∧
      Hid (Calls Try.prog 46 #[.int .i64 un, .slice ao rn cap] w1 fun e w2 => ∃ c, e = .returned (.pointer (some ⟨c, 0, none⟩)) ∧ Hid (N2 U rs w c w2))) := hid_of ((cmp_good hb hq).mono fun e w1 ⟨R, ao, cap, h1, h2, h3, h4⟩ => by
    have e1 : w1.heap[w.heap.size]? = some (.cells #[.slice uo un uc] 22 (0, 0)) := (h4.block _ (by omega)).trans b1
    have e2 : w1.heap[w.heap.size + 1]? = some (.cells #[.int .i64 lim] 3 (0, 0)) := (h4.block _ (by omega)).trans b2
    refine ⟨ao, cap, h1, ⟨blk_cell (cs := [.slice uo un uc]) e1 rfl, blk_cell (cs := [.int .i64 lim]) e2 rfl⟩, hid_of ?_⟩
    have eR : R = cmpF U rs := cmp_inj (chk_ok hq).1 h2 (cmp_mk hq)
    refine (new_any wb.heap.size un R ao rn cap w1 h3 (by rw [hul]; exact cmp_ok (chk_ok hq).1 h2 fun r hr => ((chk_ok hq).2 r hr).1) h.un hrn).mono ?_
    rintro e w2 ⟨c, rfl, _, hni⟩
    rw [eR, zb] at hni
    exact ⟨c, rfl, hid_of (all_n2 hul hu hN h.ru hl1 hl2 hfit (Bb.trans (h4.mono Bb.size)) (by have := h4.size; omega) e1 e2 hni)⟩)
  have HL : Hid (Below w.heap.size w wb) := hid_of Bb
  have c1 : wb.cell? ⟨w.heap.size, 0, none⟩ = some (.slice uo un uc) := blk_cell (cs := [.slice uo un uc]) b1 rfl
  have hd : decide (lim < 1) = false := by simp; omega
  have HN := hid_of hN
  obtain ⟨i0, hi, hz0, hz1, hz2⟩ := info_parts setsE.info
  obtain ⟨m, hm⟩ : ∃ m, m = (allF U rs).length := ⟨_, rfl⟩
  have hm2 : m ≤ 100000 := by omega
  have HM := hid_of hm
  have hum : un ≤ 9223372036854775807 := by omega
  clear h hq hl1 hl2 hN hfit hul Bb zb b1 b2 hb hrn hm hu
  subst hwb
  go_enter Try.func30, Try.ntmps30
  go_wp2_with (first
    | (go_at_call 44; ((with_reducible refine (HC.out).mono ?_); (rintro e w1 ⟨ao, cap, rfl, ⟨k1, k2⟩, H1⟩)))
    | (go_at_call 46; ((with_reducible refine (H1.out).mono ?_); (rintro e w2 ⟨c, rfl, H2⟩)))
    | (go_at_call 53; (have T3 := three_new0 w2 (.cells #[.pointer (some ⟨c, 0, none⟩)] 76) (.cells #[.int .i64 0] 3) (.cells #[.int .i64 0] 3)); have T4 := H2.out _ T3.1 T3.2.1 T3.2.2.1 T3.2.2.2; ((with_reducible refine T4.mono ?_); (rintro e w6 ⟨rfl, H6⟩)); have k5 := H6.out.1.1; have k6 := H6.out.1.2.1; rw [← HM.out] at k5; clear T3 T4 H2)
    | (at_make; (refine wpList_make_own _ rfl _ _ 45 rfl w6.heap.size 22 i0 (.slice none 0 0) 1 Try.underlying45 hi hz0 hz1 .i64 .i64 _ m rfl rfl rfl (by rw [hz2]; omega) (by unfold maxLen; omega) (Nat.le_refl _) ?_); intro w7 hown hgrow; have HO := hid_of hown; have HG := hid_of (ow_made hown hgrow).bel; have k7 := (((HG.out).trans ((bel_alloc w7 (.cells #[.slice (some ⟨w6.heap.size, 0, none⟩) 0 m] 45)).mono (HG.out).size)).cell (p := ⟨w2.heap.size, 0, none⟩) (World.block_lt_of_cell? w6 _ k6)).trans k6; clear hown hgrow)
    | (go_at_call 53; have T7 := H6.out.2 (w7.alloc (.cells #[.slice (some ⟨w6.heap.size, 0, none⟩) 0 m] 45)) w6.heap.size w7.heap.size ((HG.out).trans ((bel_alloc w7 _).mono (HG.out).size)) (by rw [← HM.out]; exact (HO.out).alloc _) (by rw [← HM.out]; exact heap_alloc_new w7 _) (HG.out).size; ((with_reducible refine T7.mono ?_); (rintro e w8 ⟨rfl, H8⟩)); clear T7; obtain ⟨ao8, cap8, k8, h8⟩ := H8.out; have H9 := hid_of h8; clear h8 H8))
  go_ret2
  exact H9.out
end Go.Proofs.Ytedohggbpmcehaa

/- The chapter's example. No condition. -/
namespace Go.Proofs.Ytedohggbpmcehaa
open Go.RowKit

def UABC : List Str := [[97], [98], [99]]
def RAB : List Gr := [([[97]], [98]), ([[98]], [99])]
theorem abc_chk : chkE UABC RAB = 0 := by decide
theorem abc_cws : cwsE UABC RAB [[97]] = 0 := by decide
theorem abc_all : (allF UABC RAB).length = 4 := by decide
theorem abc_ss : SS UABC := (chk_ok abc_chk).1
theorem rd_abc (w : World) : Rd (w.alloc (.cells #[.string ⟨#[97]⟩, .string ⟨#[98]⟩, .string ⟨#[99]⟩] 9)) (.slice (some ⟨w.heap.size, 0, none⟩) 3 3) (ss UABC) := rd_new rfl rfl (by decide)
theorem rd_a (w : World) (c : Str) : Rd (w.alloc (.cells #[.string (ba c)] 9)) (.slice (some ⟨w.heap.size, 0, none⟩) 1 1) (ss [c]) := rd_new rfl rfl (by simp [ss])
theorem rur_ab {n : Nat} {a1 a2 : Option Addr} (w : World) (k : w.heap.size = n) (R1 : Rd w (.slice a1 1 1) (ss [[97]])) (R2 : Rd w (.slice a2 1 1) (ss [[98]])) :
    RuR (w.alloc (.cells #[.slice a1 1 1, .string ⟨#[98]⟩, .slice a2 1 1, .string ⟨#[99]⟩] 41)) (.slice (some ⟨n, 0, none⟩) 2 2) RAB := by
  subst k
  have hb := heap_alloc_new w (.cells #[.slice a1 1 1, .string ⟨#[98]⟩, .slice a2 1 1, .string ⟨#[99]⟩] 41)
  have B := bel_alloc w (.cells #[.slice a1 1 1, .string ⟨#[98]⟩, .slice a2 1 1, .string ⟨#[99]⟩] 41)
  refine ⟨[(.slice a1 1 1, .string ⟨#[98]⟩), (.slice a2 1 1, .string ⟨#[99]⟩)], ⟨_, _, rfl, Nat.le_refl _, by decide, fun _ => ⟨_, _, rfl, by simp, fun i t hi => ?_⟩⟩, rfl, fun i t r ht hr => ?_⟩
  · have hi2 : i = 0 ∨ i = 1 := by have := (List.getElem?_eq_some_iff.1 hi).1; simp at this; omega
    rcases hi2 with rfl | rfl
    · simp only [List.getElem?_cons_zero, Option.some.injEq] at hi
      subst hi
      exact ⟨blk_cell (cs := [.slice a1 1 1, .string ⟨#[98]⟩, .slice a2 1 1, .string ⟨#[99]⟩]) hb (j := 0) rfl, blk_cell (cs := [.slice a1 1 1, .string ⟨#[98]⟩, .slice a2 1 1, .string ⟨#[99]⟩]) hb (j := 1) rfl⟩
    · simp only [List.getElem?_cons_succ, List.getElem?_cons_zero, Option.some.injEq] at hi
      subst hi
      exact ⟨blk_cell (cs := [.slice a1 1 1, .string ⟨#[98]⟩, .slice a2 1 1, .string ⟨#[99]⟩]) hb (j := 2) rfl, blk_cell (cs := [.slice a1 1 1, .string ⟨#[98]⟩, .slice a2 1 1, .string ⟨#[99]⟩]) hb (j := 3) rfl⟩
  · have hi2 : i = 0 ∨ i = 1 := by have := (List.getElem?_eq_some_iff.1 ht).1; simp at this; omega
    rcases hi2 with rfl | rfl
    · simp only [RAB, List.getElem?_cons_zero, Option.some.injEq] at ht hr
      subst ht hr
      exact ⟨R1.at B, rfl⟩
    · simp only [RAB, List.getElem?_cons_succ, List.getElem?_cons_zero, Option.some.injEq] at ht hr
      subst ht hr
      exact ⟨R2.at B, rfl⟩
theorem inu_abc {w : World} {uo ro : Option Addr} (R1 : Rd w (.slice uo 3 3) (ss UABC)) (R2 : RuR w (.slice ro 2 2) RAB) : InU w uo 3 3 UABC ro 2 2 RAB :=
  ⟨R1, R2, by decide, by omega, by omega, by decide⟩
theorem close_abc {l : List Str} (h1 : SS l) (h2 : ∀ x, x ∈ l ↔ DerS RAB (fun x => x ∈ [[97]]) x) (h3 : ∀ x ∈ l, x ∈ UABC) : l = UABC := by
  refine ss_ext h1 abc_ss fun x => ⟨h3 x, fun hx => (h2 x).2 ?_⟩
  have da : DerS RAB (fun x => x ∈ [[97]]) [97] := .base (by simp)
  have db : DerS RAB (fun x => x ∈ [[97]]) [98] := .rule (r := ([[97]], [98])) (by simp [RAB]) (fun y hy => by rw [List.mem_singleton.1 hy]; exact da)
  have dc : DerS RAB (fun x => x ∈ [[97]]) [99] := .rule (r := ([[98]], [99])) (by simp [RAB]) (fun y hy => by rw [List.mem_singleton.1 hy]; exact db)
  simp only [UABC, List.mem_cons, List.not_mem_nil, or_false] at hx
  rcases hx with rfl | rfl | rfl
  · exact da
  · exact db
  · exact dc

set_option maxRecDepth 100000 in
set_option maxHeartbeats 1600000 in
theorem awake_any (w : World) : Calls Try.prog 15 #[] w fun e w' => e = .returned (.bool true) ∧ Below w.heap.size w w' := by
  obtain ⟨W3, hW3⟩ : ∃ W3, W3 = ((w.alloc (.cells #[.string ⟨#[97]⟩] 9)).alloc (.cells #[.string ⟨#[98]⟩] 9)).alloc (.cells #[.slice (some ⟨w.heap.size, 0, none⟩) 1 1, .string ⟨#[98]⟩, .slice (some ⟨w.heap.size + 1, 0, none⟩) 1 1, .string ⟨#[99]⟩] 41) := ⟨_, rfl⟩
  have z3 : W3.heap.size = w.heap.size + 1 + 1 + 1 := by rw [hW3]; simp
  have B3 : Below w.heap.size w W3 := by
    rw [hW3]
    exact ((bel_alloc w _).trans ((bel_alloc _ _).mono (by simp))).trans ((bel_alloc _ _).mono (by simp; omega))
  have R3 : RuR W3 (.slice (some ⟨w.heap.size + 1 + 1, 0, none⟩) 2 2) RAB := by
    rw [hW3]
    refine rur_ab _ (by simp) ((rd_a w [97]).at (bel_alloc _ _)) ?_
    have := rd_a (w.alloc (.cells #[.string ⟨#[97]⟩] 9)) [98]
    simp only [World.size_alloc] at this
    exact this
  have HCL : Hid (Calls Try.prog 20 #[.slice (some ⟨W3.heap.size, 0, none⟩) 3 3, .slice (some ⟨w.heap.size + 1 + 1, 0, none⟩) 2 2, .slice (some ⟨W3.heap.size + 1, 0, none⟩) 1 1] ((W3.alloc (.cells #[.string ⟨#[97]⟩, .string ⟨#[98]⟩, .string ⟨#[99]⟩] 9)).alloc (.cells #[.string ⟨#[97]⟩] 9)) fun e w' => ∃ ao cap, e = .returned (.tuple #[.slice ao 3 cap, .int .i64 0]) ∧ Rd w' (.slice ao 3 cap) (ss UABC) ∧ Below W3.heap.size W3 w') := hid_of (by
    have b1 := bel_alloc W3 (.cells #[.string ⟨#[97]⟩, .string ⟨#[98]⟩, .string ⟨#[99]⟩] 9)
    have b2 := bel_alloc (W3.alloc (.cells #[.string ⟨#[97]⟩, .string ⟨#[98]⟩, .string ⟨#[99]⟩] 9)) (.cells #[.string ⟨#[97]⟩] 9)
    have b12 := b1.trans (b2.mono b1.size)
    have ra := rd_a (W3.alloc (.cells #[.string ⟨#[97]⟩, .string ⟨#[98]⟩, .string ⟨#[99]⟩] 9)) [97]
    have e : (W3.alloc (.cells #[.string ⟨#[97]⟩, .string ⟨#[98]⟩, .string ⟨#[99]⟩] 9)).heap.size = W3.heap.size + 1 := by simp
    rw [e] at ra
    refine (close_any _ 3 3 UABC _ 2 2 RAB _ 1 1 [[97]] _ (inu_abc ((rd_abc W3).at b2) (R3.at b12)) ra (by omega) abc_cws).mono ?_
    rintro ee w' ⟨l, ao, cap, rfl, h1, h2, h3, h4⟩
    have hl := close_abc h2 h3 h4
    subst hl
    exact ⟨ao, cap, rfl, own_rd h1.own, b12.trans (h1.bel.mono b12.size)⟩)
  have HAL : Hid (∀ w6, Below W3.heap.size W3 w6 → Calls Try.prog 30 #[.slice (some ⟨w6.heap.size, 0, none⟩) 3 3, .slice (some ⟨w.heap.size + 1 + 1, 0, none⟩) 2 2, .int .i64 9] (w6.alloc (.cells #[.string ⟨#[97]⟩, .string ⟨#[98]⟩, .string ⟨#[99]⟩] 9)) fun e w' => ∃ ao cap, e = .returned (.tuple #[.slice ao 4 cap, .int .i64 0]) ∧ Below w6.heap.size w6 w') := hid_of (fun w6 hb => by
    have b1 := bel_alloc w6 (.cells #[.string ⟨#[97]⟩, .string ⟨#[98]⟩, .string ⟨#[99]⟩] 9)
    refine (all_good _ 3 3 UABC _ 2 2 RAB 9 _ (inu_abc (rd_abc w6) (R3.at (hb.trans (b1.mono hb.size)))) abc_chk (by omega) (by omega) (by omega) (by rw [abc_all]; omega) (by rw [abc_all]; omega)).mono ?_
    rintro ee w' ⟨ao, cap, h1, _, h3⟩
    rw [abc_all] at h1
    exact ⟨ao, cap, h1, b1.trans (h3.mono b1.size)⟩)
  have HSM : Hid (∀ w7 ao cap, Rd w7 (.slice ao 3 cap) (ss UABC) → Calls Try.prog 22 #[.slice ao 3 cap, .slice (some ⟨w7.heap.size, 0, none⟩) 3 3] (w7.alloc (.cells #[.string ⟨#[97]⟩, .string ⟨#[98]⟩, .string ⟨#[99]⟩] 9)) fun e w' => e = .returned (.bool true) ∧ Below w7.heap.size w7 w') := hid_of (fun w7 ao cap hr => by
    have b1 := bel_alloc w7 (.cells #[.string ⟨#[97]⟩, .string ⟨#[98]⟩, .string ⟨#[99]⟩] 9)
    have := rsame_any ao 3 cap _ 3 3 UABC UABC _ (hr.at b1) (rd_abc w7)
    rw [decide_eq_true rfl] at this
    exact this.mono fun e w' ⟨h1, h2⟩ => ⟨h1, b1.trans (h2.mono b1.size)⟩)
  have HB3 := hid_of B3
  rw [z3] at HCL HAL
  have HZ := hid_of z3
  clear R3 B3 z3
  subst hW3
  go_enter Try.func15, Try.ntmps15
  go_wp2_with (first
    | (go_at_call 20; ((with_reducible refine (HCL.out).mono ?_); (rintro ee w5 ⟨co, cc, rfl, h1, h2⟩; have R5 := hid_of h1; have B5 := hid_of h2; clear h1 h2)))
    | (go_at_call 30; ((with_reducible refine (HAL.out w5 B5.out).mono ?_); (rintro ee w6 ⟨lo, lc, rfl, h1⟩; have B6 := hid_of h1; clear h1)))
    | (go_at_call 22; ((with_reducible refine (HSM.out w6 co cc ((R5.out).at B6.out)).mono ?_); (rintro ee w7 ⟨rfl, h1⟩; have B7 := hid_of h1; clear h1))))
  go_ret
  exact ⟨rfl, ((HB3.out.trans (B5.out.mono (by omega))).trans (B6.out.mono (by have := HB3.out.size; have := B5.out.size; omega))).trans (B7.out.mono (by have := HB3.out.size; have := B5.out.size; have := B6.out.size; omega))⟩
end Go.Proofs.Ytedohggbpmcehaa

/- ClosureOperator. Bounds on sizes alone. -/
namespace Go.Proofs.Ytedohggbpmcehaa
open Go.RowKit

/-- The closure of a set, in names. -/
noncomputable def clF (U : List Str) (rs : List Gr) (s : List Str) : List Str := U.filter fun x => @decide (DerS rs (fun x => x ∈ s) x) (Classical.propDecidable _)
section
variable {U s s' : List Str} {rs : List Gr}
theorem cws_open (hq : cwsE U rs s = 0) : chkE U rs = 0 ∧ SS s ∧ ∀ x ∈ s, x ∈ U := by
  have h0 : chkE U rs = 0 := by unfold cwsE at hq; split at hq; assumption; assumption
  have e0 : setE U s = 0 := by unfold cwsE at hq; rwa [if_pos h0] at hq
  exact ⟨h0, setE_zero.1 e0⟩
theorem cws_mk (h0 : chkE U rs = 0) (h1 : SS s) (h2 : ∀ x ∈ s, x ∈ U) : cwsE U rs s = 0 := by
  unfold cwsE
  rw [if_pos h0]
  exact setE_zero.2 ⟨h1, h2⟩
theorem mem_clF (hq : cwsE U rs s = 0) {x : Str} : x ∈ clF U rs s ↔ DerS rs (fun x => x ∈ s) x := by
  obtain ⟨h0, h1, h2⟩ := cws_open hq
  obtain ⟨_, hok⟩ := chk_ok h0
  unfold clF
  rw [List.mem_filter]
  refine ⟨fun h => by simpa using h.2, fun h => ⟨derS_least (C := fun x => x ∈ U) (fun r hr _ => (hok r hr).2.2) h2 h, by simpa using h⟩⟩
theorem ss_clF (h0 : chkE U rs = 0) : SS (clF U rs s) := ss_filter _ (chk_ok h0).1
theorem clF_sub : ∀ x ∈ clF U rs s, x ∈ U := fun x hx => (List.mem_filter.1 hx).1
theorem cws_clF (hq : cwsE U rs s = 0) : cwsE U rs (clF U rs s) = 0 := cws_mk (cws_open hq).1 (ss_clF (cws_open hq).1) clF_sub
theorem clF_cld (hq : cwsE U rs s = 0) : clsB rs (clF U rs s) = true := clsB_iff.2 fun r hr hp => (mem_clF hq).2 (.rule hr fun y hy => (mem_clF hq).1 (hp y hy))
theorem clF_in (hq : cwsE U rs s = 0) : subB s (clF U rs s) = true := subB_iff.2 fun x hx => (mem_clF hq).2 (.base hx)
theorem clF_mono (hq : cwsE U rs s = 0) (hq' : cwsE U rs s' = 0) (h : subB s s' = true) : subB (clF U rs s) (clF U rs s') = true := subB_iff.2 fun x hx => (mem_clF hq').2 (derS_mono (fun y hy => .base (subB_iff.1 h y hy)) ((mem_clF hq).1 hx))
theorem clF_self (hq : cwsE U rs s = 0) (hc : clsB rs s = true) : clF U rs s = s := ss_ext (ss_clF (cws_open hq).1) (cws_open hq).2.1 fun x => by
  rw [mem_clF hq]
  exact ⟨fun h => derS_least (C := fun x => x ∈ s) (clsB_iff.1 hc) (fun y hy => hy) h, fun h => .base h⟩
theorem clF_len : (clF U rs s).length ≤ U.length := List.length_filter_le _ _
def meetS (a b : List Str) : List Str := a.filter fun x => decide (x ∈ b)
theorem cws_meet {a b : List Str} (ha : cwsE U rs a = 0) : cwsE U rs (meetS a b) = 0 := cws_mk (cws_open ha).1 (ss_filter _ (cws_open ha).2.1) fun x hx => (cws_open ha).2.2 x (List.mem_filter.1 hx).1
theorem cld_meet {a b : List Str} (ha : clsB rs a = true) (hb : clsB rs b = true) : clsB rs (meetS a b) = true := clsB_iff.2 fun r hr hp => by
  have h1 : ∀ y ∈ r.1, y ∈ a ∧ y ∈ b := fun y hy => by
    have := List.mem_filter.1 (hp y hy)
    exact ⟨this.1, of_decide_eq_true this.2⟩
  exact List.mem_filter.2 ⟨clsB_iff.1 ha r hr fun y hy => (h1 y hy).1, decide_eq_true (clsB_iff.1 hb r hr fun y hy => (h1 y hy).2)⟩
theorem meet_snoc {a b : List Str} {k : Nat} {x : Str} (h : a[k]? = some x) : meetS (a.take (k + 1)) b = meetS (a.take k) b ++ if x ∈ b then [x] else [] := by
  unfold meetS
  rw [take_snoc_get h, List.filter_append]
  by_cases e : x ∈ b <;> simp [e]
end
theorem close_good {uo : Option Addr} {un uc : Nat} {U : List Str} {ro : Option Addr} {rn rc : Nat} {rs : List Gr} {so : Option Addr} {sn sc : Nat} {s : List Str} {w : World} (h : InU w uo un uc U ro rn rc rs) (hS : Rd w (.slice so sn sc) (ss s)) (hsn : sn ≤ 1000000) (hq : cwsE U rs s = 0) :
    Calls Try.prog 20 #[.slice uo un uc, .slice ro rn rc, .slice so sn sc] w fun e w' => ∃ ao cap, e = .returned (.tuple #[.slice ao (clF U rs s).length cap, .int .i64 0]) ∧ Rd w' (.slice ao (clF U rs s).length cap) (ss (clF U rs s)) ∧ Below w.heap.size w w' :=
  (close_any uo un uc U ro rn rc rs so sn sc s w h hS hsn hq).mono fun e w' ⟨l, ao, cap, h1, h2, h3, h4, h5⟩ => by
    have e : l = clF U rs s := ss_ext h3 (ss_clF (cws_open hq).1) fun x => by rw [h4, mem_clF hq]
    subst e
    exact ⟨ao, cap, h1, own_rd h2.own, h2.bel⟩
/-- What Close answers, in any case. -/
theorem close_some {uo : Option Addr} {un uc : Nat} {U : List Str} {ro : Option Addr} {rn rc : Nat} {rs : List Gr} {so : Option Addr} {sn sc : Nat} {s : List Str} {w : World} (h : InU w uo un uc U ro rn rc rs) (hS : Rd w (.slice so sn sc) (ss s)) (hsn : sn ≤ 1000000) :
    Calls Try.prog 20 #[.slice uo un uc, .slice ro rn rc, .slice so sn sc] w fun e w' => ∃ ao m cap, e = .returned (.tuple #[.slice ao m cap, .int .i64 (cwsE U rs s : Nat)]) ∧ Below w.heap.size w w' := by
  by_cases hq : cwsE U rs s = 0
  · rw [hq]
    exact (close_good h hS hsn hq).mono fun e w' ⟨ao, cap, h1, _, h3⟩ => ⟨ao, _, cap, h1, h3⟩
  · exact (close_err uo un uc U ro rn rc rs so sn sc s w h hS hsn _ rfl hq).mono fun e w' ⟨h1, h2⟩ => ⟨none, 0, 0, h1, h2⟩

set_option maxRecDepth 100000 in
set_option maxHeartbeats 1600000 in
theorem op_heavy (uo : Option Addr) (un uc : Nat) (U : List Str) (ro : Option Addr) (rn rc : Nat) (rs : List Gr) (a0 : Option Addr) (n0 c0 : Nat) (s0 : List Str) (a1 : Option Addr) (n1 c1 : Nat) (s1 : List Str) (w : World) (hU : Rd w (.slice uo un uc) (ss U)) (hz : ∀ y ∈ U, y.length ≤ 9223372036854775807) (hR : RuR w (.slice ro rn rc) rs) (h0 : Rd w (.slice a0 n0 c0) (ss s0)) (h1 : Rd w (.slice a1 n1 c1) (ss s1)) (hh : hvB U rs = true) :
    Calls Try.prog 4 #[.slice uo un uc, .slice ro rn rc, .agg #[.slice a0 n0 c0, .slice a1 n1 c1]] w fun e w' => e = .returned (.bool true) ∧ Below w.heap.size w w' := by
  obtain ⟨wb, hwb⟩ : ∃ wb, wb = (w.alloc (.cells #[.slice a0 n0 c0, .slice a1 n1 c1] 37)) := ⟨_, rfl⟩
  have B0 : Below w.heap.size w wb := by rw [hwb]; exact bel_alloc w _
  have hbx : wb.heap[w.heap.size]? = some (.cells #[.slice a0 n0 c0, .slice a1 n1 c1] 37 (0, 0)) := by rw [hwb]; exact heap_alloc_new w _
  have CB : Hid (∀ W, Below wb.heap.size wb W → W.cell? ⟨w.heap.size, 0, none⟩ = some (.slice a0 n0 c0) ∧ W.cell? ⟨w.heap.size, 1, none⟩ = some (.slice a1 n1 c1)) := hid_of (fun W hb => by
    have e := (hb.block _ (lt_of_block hbx)).trans hbx
    exact ⟨blk_cell (cs := [.slice a0 n0 c0, .slice a1 n1 c1]) e (j := 0) rfl, blk_cell (cs := [.slice a0 n0 c0, .slice a1 n1 c1]) e (j := 1) rfl⟩)
  have AW : Hid (Calls Try.prog 15 #[] wb fun e w' => e = .returned (.bool true) ∧ Below wb.heap.size wb w') := hid_of (awake_any wb)
  obtain ⟨hv, ehv⟩ : ∃ hv, hv = hvB U rs := ⟨_, rfl⟩
  have HV : Hid (∀ W, Below wb.heap.size wb W → Calls Try.prog 16 #[.slice uo un uc, .slice ro rn rc] W fun e w' => e = .returned (.bool hv) ∧ W = w') := hid_of (fun W hb => by rw [ehv]; exact heavy_any uo un uc U ro rn rc rs W ((hU.at B0).at hb) ((hR.at B0).at hb))
  have HB0 := hid_of B0
  have hn0 : n0 ≤ 9223372036854775807 := by have := (rds_open h0).2; omega
  have hn1 : n1 ≤ 9223372036854775807 := by have := (rds_open h1).2; omega
  rw [hh] at ehv
  subst ehv
  clear hU hz hR h0 h1 hh B0 hbx
  subst hwb
  go_enter Try.func4, Try.ntmps4
  go_wp2_with (first
    | (go_at_call 15; ((with_reducible refine (AW.out).mono ?_); (rintro ee w1 ⟨rfl, q1⟩)); have B1 := hid_of q1; obtain ⟨k10, k11⟩ := CB.out w1 q1; clear q1)
    | (go_at_call 16; ((with_reducible refine (HV.out w1 B1.out).mono ?_); (rintro ee w' ⟨rfl, rfl⟩))))
  go_ret
  exact ⟨rfl, HB0.out.trans (B1.out.mono HB0.out.size)⟩
set_option maxRecDepth 100000 in
set_option maxHeartbeats 1600000 in
theorem op_long0 (uo : Option Addr) (un uc : Nat) (U : List Str) (ro : Option Addr) (rn rc : Nat) (rs : List Gr) (a0 : Option Addr) (n0 c0 : Nat) (s0 : List Str) (a1 : Option Addr) (n1 c1 : Nat) (s1 : List Str) (w : World) (hU : Rd w (.slice uo un uc) (ss U)) (hz : ∀ y ∈ U, y.length ≤ 9223372036854775807) (hR : RuR w (.slice ro rn rc) rs) (h0 : Rd w (.slice a0 n0 c0) (ss s0)) (h1 : Rd w (.slice a1 n1 c1) (ss s1)) (hh : hvB U rs = false) (hl : 41 < n0) :
    Calls Try.prog 4 #[.slice uo un uc, .slice ro rn rc, .agg #[.slice a0 n0 c0, .slice a1 n1 c1]] w fun e w' => e = .returned (.bool true) ∧ Below w.heap.size w w' := by
  obtain ⟨wb, hwb⟩ : ∃ wb, wb = (w.alloc (.cells #[.slice a0 n0 c0, .slice a1 n1 c1] 37)) := ⟨_, rfl⟩
  have B0 : Below w.heap.size w wb := by rw [hwb]; exact bel_alloc w _
  have hbx : wb.heap[w.heap.size]? = some (.cells #[.slice a0 n0 c0, .slice a1 n1 c1] 37 (0, 0)) := by rw [hwb]; exact heap_alloc_new w _
  have CB : Hid (∀ W, Below wb.heap.size wb W → W.cell? ⟨w.heap.size, 0, none⟩ = some (.slice a0 n0 c0) ∧ W.cell? ⟨w.heap.size, 1, none⟩ = some (.slice a1 n1 c1)) := hid_of (fun W hb => by
    have e := (hb.block _ (lt_of_block hbx)).trans hbx
    exact ⟨blk_cell (cs := [.slice a0 n0 c0, .slice a1 n1 c1]) e (j := 0) rfl, blk_cell (cs := [.slice a0 n0 c0, .slice a1 n1 c1]) e (j := 1) rfl⟩)
  have AW : Hid (Calls Try.prog 15 #[] wb fun e w' => e = .returned (.bool true) ∧ Below wb.heap.size wb w') := hid_of (awake_any wb)
  obtain ⟨hv, ehv⟩ : ∃ hv, hv = hvB U rs := ⟨_, rfl⟩
  have HV : Hid (∀ W, Below wb.heap.size wb W → Calls Try.prog 16 #[.slice uo un uc, .slice ro rn rc] W fun e w' => e = .returned (.bool hv) ∧ W = w') := hid_of (fun W hb => by rw [ehv]; exact heavy_any uo un uc U ro rn rc rs W ((hU.at B0).at hb) ((hR.at B0).at hb))
  have HB0 := hid_of B0
  have hn0 : n0 ≤ 9223372036854775807 := by have := (rds_open h0).2; omega
  have hn1 : n1 ≤ 9223372036854775807 := by have := (rds_open h1).2; omega
  rw [hh] at ehv
  subst ehv
  have ga_0 : decide ((41 : Int) < (n0 : Int)) = true := by simp; omega
  have ga_1 : decide (41 < n0) = true := by simp; omega
  have ga_2 : decide ((n0 : Int) > 41) = true := by simp; omega
  clear hU hz hR h0 h1 hh B0 hbx hl
  subst hwb
  go_enter Try.func4, Try.ntmps4
  go_wp2_with (first
    | (go_at_call 15; ((with_reducible refine (AW.out).mono ?_); (rintro ee w1 ⟨rfl, q1⟩)); have B1 := hid_of q1; obtain ⟨k10, k11⟩ := CB.out w1 q1; clear q1)
    | (go_at_call 16; ((with_reducible refine (HV.out w1 B1.out).mono ?_); (rintro ee w' ⟨rfl, rfl⟩))))
  go_ret
  exact ⟨rfl, HB0.out.trans (B1.out.mono HB0.out.size)⟩
set_option maxRecDepth 100000 in
set_option maxHeartbeats 1600000 in
theorem op_long1 (uo : Option Addr) (un uc : Nat) (U : List Str) (ro : Option Addr) (rn rc : Nat) (rs : List Gr) (a0 : Option Addr) (n0 c0 : Nat) (s0 : List Str) (a1 : Option Addr) (n1 c1 : Nat) (s1 : List Str) (w : World) (hU : Rd w (.slice uo un uc) (ss U)) (hz : ∀ y ∈ U, y.length ≤ 9223372036854775807) (hR : RuR w (.slice ro rn rc) rs) (h0 : Rd w (.slice a0 n0 c0) (ss s0)) (h1 : Rd w (.slice a1 n1 c1) (ss s1)) (hh : hvB U rs = false) (hl0 : ¬ 41 < n0) (hl : 41 < n1) :
    Calls Try.prog 4 #[.slice uo un uc, .slice ro rn rc, .agg #[.slice a0 n0 c0, .slice a1 n1 c1]] w fun e w' => e = .returned (.bool true) ∧ Below w.heap.size w w' := by
  obtain ⟨wb, hwb⟩ : ∃ wb, wb = (w.alloc (.cells #[.slice a0 n0 c0, .slice a1 n1 c1] 37)) := ⟨_, rfl⟩
  have B0 : Below w.heap.size w wb := by rw [hwb]; exact bel_alloc w _
  have hbx : wb.heap[w.heap.size]? = some (.cells #[.slice a0 n0 c0, .slice a1 n1 c1] 37 (0, 0)) := by rw [hwb]; exact heap_alloc_new w _
  have CB : Hid (∀ W, Below wb.heap.size wb W → W.cell? ⟨w.heap.size, 0, none⟩ = some (.slice a0 n0 c0) ∧ W.cell? ⟨w.heap.size, 1, none⟩ = some (.slice a1 n1 c1)) := hid_of (fun W hb => by
    have e := (hb.block _ (lt_of_block hbx)).trans hbx
    exact ⟨blk_cell (cs := [.slice a0 n0 c0, .slice a1 n1 c1]) e (j := 0) rfl, blk_cell (cs := [.slice a0 n0 c0, .slice a1 n1 c1]) e (j := 1) rfl⟩)
  have AW : Hid (Calls Try.prog 15 #[] wb fun e w' => e = .returned (.bool true) ∧ Below wb.heap.size wb w') := hid_of (awake_any wb)
  obtain ⟨hv, ehv⟩ : ∃ hv, hv = hvB U rs := ⟨_, rfl⟩
  have HV : Hid (∀ W, Below wb.heap.size wb W → Calls Try.prog 16 #[.slice uo un uc, .slice ro rn rc] W fun e w' => e = .returned (.bool hv) ∧ W = w') := hid_of (fun W hb => by rw [ehv]; exact heavy_any uo un uc U ro rn rc rs W ((hU.at B0).at hb) ((hR.at B0).at hb))
  have HB0 := hid_of B0
  have hn0 : n0 ≤ 9223372036854775807 := by have := (rds_open h0).2; omega
  have hn1 : n1 ≤ 9223372036854775807 := by have := (rds_open h1).2; omega
  rw [hh] at ehv
  subst ehv
  have ga_0 : decide ((41 : Int) < (n0 : Int)) = false := by simp; omega
  have ga_1 : decide (41 < n0) = false := by simp; omega
  have ga_2 : decide ((n0 : Int) > 41) = false := by simp; omega
  have gb_0 : decide ((41 : Int) < (n1 : Int)) = true := by simp; omega
  have gb_1 : decide (41 < n1) = true := by simp; omega
  have gb_2 : decide ((n1 : Int) > 41) = true := by simp; omega
  clear hU hz hR h0 h1 hh B0 hbx hl hl0
  subst hwb
  go_enter Try.func4, Try.ntmps4
  go_wp2_with (first
    | (go_at_call 15; ((with_reducible refine (AW.out).mono ?_); (rintro ee w1 ⟨rfl, q1⟩)); have B1 := hid_of q1; obtain ⟨k10, k11⟩ := CB.out w1 q1; clear q1)
    | (go_at_call 16; ((with_reducible refine (HV.out w1 B1.out).mono ?_); (rintro ee w' ⟨rfl, rfl⟩))))
  go_ret
  exact ⟨rfl, HB0.out.trans (B1.out.mono HB0.out.size)⟩
set_option maxRecDepth 100000 in
set_option maxHeartbeats 1600000 in
theorem op_chk (uo : Option Addr) (un uc : Nat) (U : List Str) (ro : Option Addr) (rn rc : Nat) (rs : List Gr) (a0 : Option Addr) (n0 c0 : Nat) (s0 : List Str) (a1 : Option Addr) (n1 c1 : Nat) (s1 : List Str) (w : World) (hU : Rd w (.slice uo un uc) (ss U)) (hz : ∀ y ∈ U, y.length ≤ 9223372036854775807) (hR : RuR w (.slice ro rn rc) rs) (h0 : Rd w (.slice a0 n0 c0) (ss s0)) (h1 : Rd w (.slice a1 n1 c1) (ss s1)) (hh : hvB U rs = false) (hl0 : ¬ 41 < n0) (hl1 : ¬ 41 < n1) (hc : chkE U rs ≠ 0) :
    Calls Try.prog 4 #[.slice uo un uc, .slice ro rn rc, .agg #[.slice a0 n0 c0, .slice a1 n1 c1]] w fun e w' => e = .returned (.bool true) ∧ Below w.heap.size w w' := by
  obtain ⟨wb, hwb⟩ : ∃ wb, wb = (w.alloc (.cells #[.slice a0 n0 c0, .slice a1 n1 c1] 37)) := ⟨_, rfl⟩
  have B0 : Below w.heap.size w wb := by rw [hwb]; exact bel_alloc w _
  have hbx : wb.heap[w.heap.size]? = some (.cells #[.slice a0 n0 c0, .slice a1 n1 c1] 37 (0, 0)) := by rw [hwb]; exact heap_alloc_new w _
  have CB : Hid (∀ W, Below wb.heap.size wb W → W.cell? ⟨w.heap.size, 0, none⟩ = some (.slice a0 n0 c0) ∧ W.cell? ⟨w.heap.size, 1, none⟩ = some (.slice a1 n1 c1)) := hid_of (fun W hb => by
    have e := (hb.block _ (lt_of_block hbx)).trans hbx
    exact ⟨blk_cell (cs := [.slice a0 n0 c0, .slice a1 n1 c1]) e (j := 0) rfl, blk_cell (cs := [.slice a0 n0 c0, .slice a1 n1 c1]) e (j := 1) rfl⟩)
  have AW : Hid (Calls Try.prog 15 #[] wb fun e w' => e = .returned (.bool true) ∧ Below wb.heap.size wb w') := hid_of (awake_any wb)
  obtain ⟨hv, ehv⟩ : ∃ hv, hv = hvB U rs := ⟨_, rfl⟩
  have HV : Hid (∀ W, Below wb.heap.size wb W → Calls Try.prog 16 #[.slice uo un uc, .slice ro rn rc] W fun e w' => e = .returned (.bool hv) ∧ W = w') := hid_of (fun W hb => by rw [ehv]; exact heavy_any uo un uc U ro rn rc rs W ((hU.at B0).at hb) ((hR.at B0).at hb))
  have HB0 := hid_of B0
  have hn0 : n0 ≤ 9223372036854775807 := by have := (rds_open h0).2; omega
  have hn1 : n1 ≤ 9223372036854775807 := by have := (rds_open h1).2; omega
  obtain ⟨e1, e2, e3⟩ := hvB_no hh
  have hul := (rds_open hU).1
  have hrl := hR.len.1
  have IU : InU wb uo un uc U ro rn rc rs := ⟨hU.at B0, hR.at B0, hz, by omega, by omega, fun r hr => by have := e3 r hr; omega⟩
  rw [hh] at ehv
  subst ehv
  obtain ⟨q, hq⟩ : ∃ q, q = chkE U rs := ⟨_, rfl⟩
  have HK : Hid (∀ W, Below wb.heap.size wb W → Calls Try.prog 18 #[.slice uo un uc, .slice ro rn rc] W fun e w' => e = .returned (.int .i64 q) ∧ Below wb.heap.size wb w') := hid_of (fun W hb => by rw [hq]; exact (check_any uo un uc U ro rn rc rs W (IU.at hb)).mono fun e w' ⟨h1, h2⟩ => ⟨h1, hb.trans (h2.mono hb.size)⟩)
  have ga_0 : decide ((41 : Int) < (n0 : Int)) = false := by simp; omega
  have ga_1 : decide (41 < n0) = false := by simp; omega
  have ga_2 : decide ((n0 : Int) > 41) = false := by simp; omega
  have gb_0 : decide ((41 : Int) < (n1 : Int)) = false := by simp; omega
  have gb_1 : decide (41 < n1) = false := by simp; omega
  have gb_2 : decide ((n1 : Int) > 41) = false := by simp; omega
  have t1 : ((q : Int) != 0) = true := by simp; omega
  clear hU hz hR h0 h1 hh B0 hbx hl1 hl0 IU e1 e2 e3 hul hrl hc hq
  subst hwb
  go_enter Try.func4, Try.ntmps4
  go_wp2_with (first
    | (go_at_call 15; ((with_reducible refine (AW.out).mono ?_); (rintro ee w1 ⟨rfl, q1⟩)); have B1 := hid_of q1; obtain ⟨k10, k11⟩ := CB.out w1 q1; clear q1)
    | (go_at_call 16; ((with_reducible refine (HV.out w1 B1.out).mono ?_); (rintro ee w' ⟨rfl, rfl⟩)))
    | (go_at_call 18; ((with_reducible refine (HK.out w1 B1.out).mono ?_); (rintro ee w2 ⟨rfl, q1⟩)); have B2 := hid_of q1; obtain ⟨k20, k21⟩ := CB.out w2 q1; clear q1))
  go_ret
  exact ⟨rfl, HB0.out.trans (B2.out.mono HB0.out.size)⟩
set_option maxRecDepth 100000 in
set_option maxHeartbeats 1600000 in
theorem op_err (uo : Option Addr) (un uc : Nat) (U : List Str) (ro : Option Addr) (rn rc : Nat) (rs : List Gr) (a0 : Option Addr) (n0 c0 : Nat) (s0 : List Str) (a1 : Option Addr) (n1 c1 : Nat) (s1 : List Str) (w : World) (hU : Rd w (.slice uo un uc) (ss U)) (hz : ∀ y ∈ U, y.length ≤ 9223372036854775807) (hR : RuR w (.slice ro rn rc) rs) (h0 : Rd w (.slice a0 n0 c0) (ss s0)) (h1 : Rd w (.slice a1 n1 c1) (ss s1)) (hh : hvB U rs = false) (hl0 : ¬ 41 < n0) (hl1 : ¬ 41 < n1) (hc : chkE U rs = 0) (he : cwsE U rs s0 ≠ 0 ∨ cwsE U rs s1 ≠ 0) :
    Calls Try.prog 4 #[.slice uo un uc, .slice ro rn rc, .agg #[.slice a0 n0 c0, .slice a1 n1 c1]] w fun e w' => e = .returned (.bool true) ∧ Below w.heap.size w w' := by
  obtain ⟨wb, hwb⟩ : ∃ wb, wb = (w.alloc (.cells #[.slice a0 n0 c0, .slice a1 n1 c1] 37)) := ⟨_, rfl⟩
  have B0 : Below w.heap.size w wb := by rw [hwb]; exact bel_alloc w _
  have hbx : wb.heap[w.heap.size]? = some (.cells #[.slice a0 n0 c0, .slice a1 n1 c1] 37 (0, 0)) := by rw [hwb]; exact heap_alloc_new w _
  have CB : Hid (∀ W, Below wb.heap.size wb W → W.cell? ⟨w.heap.size, 0, none⟩ = some (.slice a0 n0 c0) ∧ W.cell? ⟨w.heap.size, 1, none⟩ = some (.slice a1 n1 c1)) := hid_of (fun W hb => by
    have e := (hb.block _ (lt_of_block hbx)).trans hbx
    exact ⟨blk_cell (cs := [.slice a0 n0 c0, .slice a1 n1 c1]) e (j := 0) rfl, blk_cell (cs := [.slice a0 n0 c0, .slice a1 n1 c1]) e (j := 1) rfl⟩)
  have AW : Hid (Calls Try.prog 15 #[] wb fun e w' => e = .returned (.bool true) ∧ Below wb.heap.size wb w') := hid_of (awake_any wb)
  obtain ⟨hv, ehv⟩ : ∃ hv, hv = hvB U rs := ⟨_, rfl⟩
  have HV : Hid (∀ W, Below wb.heap.size wb W → Calls Try.prog 16 #[.slice uo un uc, .slice ro rn rc] W fun e w' => e = .returned (.bool hv) ∧ W = w') := hid_of (fun W hb => by rw [ehv]; exact heavy_any uo un uc U ro rn rc rs W ((hU.at B0).at hb) ((hR.at B0).at hb))
  have HB0 := hid_of B0
  have hn0 : n0 ≤ 9223372036854775807 := by have := (rds_open h0).2; omega
  have hn1 : n1 ≤ 9223372036854775807 := by have := (rds_open h1).2; omega
  obtain ⟨e1, e2, e3⟩ := hvB_no hh
  have hul := (rds_open hU).1
  have hrl := hR.len.1
  have IU : InU wb uo un uc U ro rn rc rs := ⟨hU.at B0, hR.at B0, hz, by omega, by omega, fun r hr => by have := e3 r hr; omega⟩
  rw [hh] at ehv
  subst ehv
  have HK : Hid (∀ W, Below wb.heap.size wb W → Calls Try.prog 18 #[.slice uo un uc, .slice ro rn rc] W fun e w' => e = .returned (.int .i64 0) ∧ Below wb.heap.size wb w') := hid_of (fun W hb => by
    have := check_any uo un uc U ro rn rc rs W (IU.at hb)
    rw [hc] at this
    exact this.mono fun e w' ⟨h1, h2⟩ => ⟨h1, hb.trans (h2.mono hb.size)⟩)
  obtain ⟨p0, hp0⟩ : ∃ p, p = cwsE U rs s0 := ⟨_, rfl⟩
  obtain ⟨p1, hp1⟩ : ∃ p, p = cwsE U rs s1 := ⟨_, rfl⟩
  have C0 : Hid (∀ W, Below wb.heap.size wb W → Calls Try.prog 20 #[.slice uo un uc, .slice ro rn rc, .slice a0 n0 c0] W fun e w' => ∃ ao m cap, e = .returned (.tuple #[.slice ao m cap, .int .i64 p0]) ∧ Below wb.heap.size wb w') := hid_of (fun W hb => by rw [hp0]; exact (close_some (IU.at hb) ((h0.at B0).at hb) (by omega)).mono fun e w' ⟨x, y, z, h1, h2⟩ => ⟨x, y, z, h1, hb.trans (h2.mono hb.size)⟩)
  have C1 : Hid (∀ W, Below wb.heap.size wb W → Calls Try.prog 20 #[.slice uo un uc, .slice ro rn rc, .slice a1 n1 c1] W fun e w' => ∃ ao m cap, e = .returned (.tuple #[.slice ao m cap, .int .i64 p1]) ∧ Below wb.heap.size wb w') := hid_of (fun W hb => by rw [hp1]; exact (close_some (IU.at hb) ((h1.at B0).at hb) (by omega)).mono fun e w' ⟨x, y, z, h1, h2⟩ => ⟨x, y, z, h1, hb.trans (h2.mono hb.size)⟩)
  have ga_0 : decide ((41 : Int) < (n0 : Int)) = false := by simp; omega
  have ga_1 : decide (41 < n0) = false := by simp; omega
  have ga_2 : decide ((n0 : Int) > 41) = false := by simp; omega
  have gb_0 : decide ((41 : Int) < (n1 : Int)) = false := by simp; omega
  have gb_1 : decide (41 < n1) = false := by simp; omega
  have gb_2 : decide ((n1 : Int) > 41) = false := by simp; omega
  have u : p0 ≠ 0 ∨ (p0 = 0 ∧ p1 ≠ 0) := by omega
  clear hU hz hR h0 h1 hh B0 hbx hl1 hl0 IU e1 e2 e3 hul hrl hc hp0 hp1 he
  subst hwb
  rcases u with u | ⟨u, v⟩
  · have t1 : ((p0 : Int) != 0) = true := by simp; omega
    clear u
    go_enter Try.func4, Try.ntmps4
    go_wp2_with (first
      | (go_at_call 15; ((with_reducible refine (AW.out).mono ?_); (rintro ee w1 ⟨rfl, q1⟩)); have B1 := hid_of q1; obtain ⟨k10, k11⟩ := CB.out w1 q1; clear q1)
      | (go_at_call 16; ((with_reducible refine (HV.out w1 B1.out).mono ?_); (rintro ee w' ⟨rfl, rfl⟩)))
      | (go_at_call 18; ((with_reducible refine (HK.out w1 B1.out).mono ?_); (rintro ee w2 ⟨rfl, q1⟩)); have B2 := hid_of q1; obtain ⟨k20, k21⟩ := CB.out w2 q1; clear q1)
      | (go_at_call 20; ((with_reducible refine (C0.out w2 B2.out).mono ?_); (rintro ee w3 ⟨xo, xm, xc, rfl, q1⟩)); have B3 := hid_of q1; obtain ⟨k30, k31⟩ := CB.out w3 q1; clear q1)
      | (go_at_call 20; ((with_reducible refine (C1.out w3 B3.out).mono ?_); (rintro ee w4 ⟨yo, ym, yc, rfl, q1⟩)); have B4 := hid_of q1; clear q1))
    go_ret
    exact ⟨rfl, HB0.out.trans (B4.out.mono HB0.out.size)⟩
  · subst u
    have t1 : ((p1 : Int) != 0) = true := by simp; omega
    clear v
    go_enter Try.func4, Try.ntmps4
    go_wp2_with (first
      | (go_at_call 15; ((with_reducible refine (AW.out).mono ?_); (rintro ee w1 ⟨rfl, q1⟩)); have B1 := hid_of q1; obtain ⟨k10, k11⟩ := CB.out w1 q1; clear q1)
      | (go_at_call 16; ((with_reducible refine (HV.out w1 B1.out).mono ?_); (rintro ee w' ⟨rfl, rfl⟩)))
      | (go_at_call 18; ((with_reducible refine (HK.out w1 B1.out).mono ?_); (rintro ee w2 ⟨rfl, q1⟩)); have B2 := hid_of q1; obtain ⟨k20, k21⟩ := CB.out w2 q1; clear q1)
      | (go_at_call 20; ((with_reducible refine (C0.out w2 B2.out).mono ?_); (rintro ee w3 ⟨xo, xm, xc, rfl, q1⟩)); have B3 := hid_of q1; obtain ⟨k30, k31⟩ := CB.out w3 q1; clear q1)
      | (go_at_call 20; ((with_reducible refine (C1.out w3 B3.out).mono ?_); (rintro ee w4 ⟨yo, ym, yc, rfl, q1⟩)); have B4 := hid_of q1; clear q1))
    go_ret
    exact ⟨rfl, HB0.out.trans (B4.out.mono HB0.out.size)⟩
end Go.Proofs.Ytedohggbpmcehaa

/- The reference's Sorted, Close and Entails. Bounds on sizes alone. -/
namespace Go.Proofs.Ytedohggbpmcehaa
open Go.RowKit

theorem srt_next {U l : List Str} {k : Nat} {x : Str} (h : U[k]? = some x) : meetS (U.take (k + 1)) l = meetS (U.take k) l ++ (if x ∈ l then [x] else []) := by
  unfold meetS
  rw [take_snoc_get h, List.filter_append]
  by_cases e : x ∈ l <;> simp [e]

set_option maxRecDepth 100000 in
set_option maxHeartbeats 1600000 in
theorem rsrt_any (uo : Option Addr) (un uc : Nat) (U : List Str) (lo : Option Addr) (ln lc : Nat) (l : List Str) (w : World) (hU : Rd w (.slice uo un uc) (ss U)) (hL : Rd w (.slice lo ln lc) (ss l)) (hun : un ≤ 1000000) :
    Calls Try.prog 51 #[.slice uo un uc, .slice lo ln lc] w fun e w' => ∃ ao n cap, e = .returned (.slice ao n cap) ∧ n = (meetS U l).length ∧ Ow 9 w.heap.size w w' (.slice ao n cap) (ss (meetS U l)) := by
  obtain ⟨hn, h1, h2, h3⟩ := rds_open hU
  have HN := hid_of hn
  have HCE : Hid (∀ k wr, k < un → Below w.heap.size w wr → ∃ g o bx x, uo = some ⟨g, o, none⟩ ∧ U[k]? = some x ∧ bx = ba x ∧ wr.cell? ⟨g, o + k, none⟩ = some (.string bx) ∧
      Hid (Calls Try.prog 26 #[.slice lo ln lc, .string bx] wr fun e w' => e = .returned (.bool (decide (x ∈ l))) ∧ wr = w')) := hid_of (fun k wr hk hb => by
    obtain ⟨x, hx⟩ : ∃ x, U[k]? = some x := ⟨_, List.getElem?_eq_getElem (by omega)⟩
    obtain ⟨_, _, _, q3⟩ := rds_open (hU.at hb)
    rcases q3 with q3 | ⟨g, o, e2, _, q2⟩
    · rw [q3] at hx; simp at hx
    · exact ⟨g, o, _, x, e2, hx, rfl, q2 k x hx, hid_of (rhas_any lo ln lc l x wr (hL.at hb))⟩)
  clear hn h3 hU hL
  go_enter Try.func51, Try.ntmps51
  go_wp2
  go_loopw [5, 6] (fun ov iv wr => ∃ (k : Nat) (oo : Option Addr) (n oc : Nat), ov = .slice oo n oc ∧ n ≤ k ∧ k ≤ un ∧ iv = .int .i64 k ∧ Hid ((ss (meetS (U.take k) l)).length = n) ∧ Hid (Ow 9 w.heap.size w wr (.slice oo n oc) (ss (meetS (U.take k) l)))) (fun _ iv _ => un - (intOf iv).toNat)
  case atStart => exact ⟨0, _, 0, 0, rfl, Nat.le_refl _, Nat.zero_le _, rfl, hid_of rfl, hid_of (ow_empty 9 w)⟩
  case round =>
    obtain ⟨k, oo, n, oc, rfl, hnk, hk, rfl, hl, how⟩ := hrel
    by_cases hlt : k < un
    · have hd : decide (k < un) = true := by simp; omega
      obtain ⟨g, o, bx, x, rfl, e1, e2, c1, HH⟩ := HCE.out k wr hlt how.out.bel
      have E1 := hid_of e1
      have E2 := hid_of e2
      obtain ⟨b, hb⟩ : ∃ b, b = decide (x ∈ l) := ⟨_, rfl⟩
      rw [← hb] at HH
      have HB := hid_of hb
      clear e1 e2 hb
      cases b
      · have HE : Hid (meetS (U.take (k + 1)) l = meetS (U.take k) l) := hid_of (by rw [srt_next E1.out, if_neg (of_decide_eq_false HB.out.symm), List.append_nil])
        go_wp2_with (go_at_call 26; ((with_reducible refine (HH.out).mono ?_); (rintro ee w' ⟨rfl, rfl⟩)))
        go_roundw
        case rel => exact ⟨k + 1, oo, n, oc, rfl, by omega, by omega, by go_num, hid_of (by rw [HE.out]; exact hl.out), hid_of (by rw [HE.out]; exact how.out)⟩
        case measure => simp [intOf]; omega
      · have HE : Hid (ss (meetS (U.take (k + 1)) l) = ss (meetS (U.take k) l) ++ [.string bx]) := hid_of (by rw [srt_next E1.out, if_pos (of_decide_eq_true HB.out.symm), E2.out]; simp [ss])
        go_wp2_with (first
          | (go_at_call 26; ((with_reducible refine (HH.out).mono ?_); (rintro ee w' ⟨rfl, rfl⟩)))
          | (at_builtin; (refine wpList_app strsE rfl (.tmp 20) (.tmp 25) rfl (v := .slice oo n oc) (l := ss (meetS (U.take k) l)) rfl (how.out.alloc _) (vx := .slice (some ⟨wr.heap.size, 0, none⟩) 1 1) (m := [.string bx]) rfl (rd_new rfl rfl (by simp)) (by intro u hu; rw [List.mem_singleton.1 hu]; rfl) (by rw [hl.out]; simp only [List.length_singleton]; omega) (by rw [hl.out]; simp only [List.length_singleton]; omega) ?_); intro ao2 n2 cap2 w4 e1 h5; have HN2 : Hid (n2 = n + 1) := hid_of (by rw [hl.out] at e1; simpa using e1); have HO2 := hid_of h5; clear e1 h5))
        go_roundw
        case rel => exact ⟨k + 1, ao2, n2, cap2, rfl, by have := HN2.out; omega, by omega, by go_num, hid_of (by rw [HE.out, List.length_append, hl.out, HN2.out]; rfl), hid_of (by rw [HE.out]; exact HO2.out)⟩
        case measure => simp [intOf]; omega
    · have hd : decide (k < un) = false := by simp; omega
      have HF : Hid (n = (meetS U l).length ∧ Ow 9 w.heap.size w wr (.slice oo n oc) (ss (meetS U l))) := hid_of (by
        have h1 := how.out
        have h2 := hl.out
        rw [List.take_of_length_le (by have := HN.out; omega)] at h1 h2
        exact ⟨by rw [← h2]; simp [ss], h1⟩)
      go_wp2
      go_ret
      exact ⟨oo, n, oc, rfl, HF.out⟩

section
variable (uo : Option Addr) (un uc : Nat) (U : List Str) (ro : Option Addr) (rn rc : Nat) (rs : List Gr) (so : Option Addr) (sn sc : Nat) (s : List Str) (x : Str) (w : World)
set_option maxRecDepth 100000 in
set_option maxHeartbeats 1600000 in
theorem rclose_any (hU : Rd w (.slice uo un uc) (ss U)) (hun : un ≤ 1000000) (hR : RuR w (.slice ro rn rc) rs) (hrn : rn ≤ 1000000) (hS : Rd w (.slice so sn sc) (ss s)) (hsn : sn ≤ 1000000) :
    Calls Try.prog 23 #[.slice uo un uc, .slice ro rn rc, .slice so sn sc] w fun e w' => ∃ ao n cap, e = .returned (.slice ao n cap) ∧ n = (clF U rs s).length ∧ Ow 9 w.heap.size w w' (.slice ao n cap) (ss (clF U rs s)) := by
  have HC := hid_of (rchn_any ro rn rc rs so sn sc s w hR hS hrn hsn)
  have HS : Hid (∀ w1 l is oo n oc vo m vc, TR w l is oo n oc vo m vc w1 → (∀ x, x ∈ l ↔ DerS rs (fun x => x ∈ s) x) → Calls Try.prog 51 #[.slice uo un uc, .slice oo n oc] w1 fun e w' => ∃ ao n cap, e = .returned (.slice ao n cap) ∧ Hid (n = (clF U rs s).length ∧ Ow 9 w.heap.size w w' (.slice ao n cap) (ss (clF U rs s)))) := hid_of (fun w1 l is oo n oc vo m vc ht hd => (rsrt_any uo un uc U oo n oc l w1 (hU.at ht.bel) ht.rd hun).mono (by
    rintro e w' ⟨ao, k, cap, rfl, h1, h2⟩
    have e : meetS U l = clF U rs s := List.filter_congr fun y _ => by
      by_cases hy : y ∈ l
      · have := (hd y).1 hy
        simp [hy, this]
      · have : ¬ DerS rs (fun x => x ∈ s) y := fun h => hy ((hd y).2 h)
        simp [hy, this]
    rw [e] at h1 h2
    exact ⟨ao, k, cap, rfl, hid_of ⟨h1, ow_later0 h2 ht.bel⟩⟩))
  clear hU hR hS hun hrn hsn
  go_enter Try.func23, Try.ntmps23
  go_wp2_with (first
    | (go_at_call 50; ((with_reducible refine (HC.out).mono ?_); (rintro e w1 ⟨l, is, oo, n, oc, vo, m, vc, rfl, h1, h2⟩)); have HT := hid_of h1; have HD := hid_of h2; clear h1 h2)
    | (go_at_call 51; ((with_reducible refine (HS.out w1 l is oo n oc vo m vc HT.out HD.out).mono ?_); (rintro e w2 ⟨ao, k, cap, rfl, H2⟩))))
  go_ret
  exact ⟨ao, k, cap, rfl, H2.out⟩

set_option maxRecDepth 100000 in
set_option maxHeartbeats 1600000 in
theorem rent_any (hU : Rd w (.slice uo un uc) (ss U)) (hun : un ≤ 1000000) (hR : RuR w (.slice ro rn rc) rs) (hrn : rn ≤ 1000000) (hS : Rd w (.slice so sn sc) (ss s)) (hsn : sn ≤ 1000000) (b : Bool) (hb : b = decide (x ∈ clF U rs s)) :
    Calls Try.prog 29 #[.slice uo un uc, .slice ro rn rc, .agg #[.slice so sn sc, .string (ba x)]] w fun e w' => e = .returned (.bool b) ∧ Below w.heap.size w w' := by
  obtain ⟨bx, hbx⟩ : ∃ bx, bx = ba x := ⟨_, rfl⟩
  have e0 := heap_alloc_new w (.cells #[.slice so sn sc, .string (ba x)] 41)
  have B : Below w.heap.size w (w.alloc (.cells #[.slice so sn sc, .string (ba x)] 41)).drew := (bel_alloc w (.cells #[.slice so sn sc, .string (ba x)] 41)).drew
  have K0 : Hid ((w.alloc (.cells #[.slice so sn sc, .string bx] 41)).drew.cell? ⟨w.heap.size, 0, none⟩ = some (.slice so sn sc) ∧ (w.alloc (.cells #[.slice so sn sc, .string bx] 41)).drew.cell? ⟨w.heap.size, 1, none⟩ = some (.string bx)) := hid_of (by
    rw [hbx]
    exact ⟨blk_cell (cs := [.slice so sn sc, .string (ba x)]) e0 (j := 0) rfl, blk_cell (cs := [.slice so sn sc, .string (ba x)]) e0 (j := 1) rfl⟩)
  have HC : Hid (Calls Try.prog 23 #[.slice uo un uc, .slice ro rn rc, .slice so sn sc] (w.alloc (.cells #[.slice so sn sc, .string bx] 41)).drew fun e w1 => ∃ ao n cap, e = .returned (.slice ao n cap) ∧ (w1.cell? ⟨w.heap.size, 0, none⟩ = some (.slice so sn sc) ∧ w1.cell? ⟨w.heap.size, 1, none⟩ = some (.string bx)) ∧ Below w.heap.size w w1 ∧
      Hid (Calls Try.prog 26 #[.slice ao n cap, .string bx] w1 fun e w' => e = .returned (.bool b) ∧ w1 = w')) := hid_of (by
    rw [hbx]
    refine (rclose_any uo un uc U ro rn rc rs so sn sc s _ (hU.at B) hun (hR.at B) hrn (hS.at B) hsn).mono ?_
    rintro e w1 ⟨ao, n, cap, rfl, h1, h2⟩
    have e1 := (h2.bel.block _ (by show w.heap.size < (w.alloc (.cells #[.slice so sn sc, .string (ba x)] 41)).heap.size; simp)).trans e0
    refine ⟨ao, n, cap, rfl, ⟨blk_cell (cs := [.slice so sn sc, .string (ba x)]) e1 (j := 0) rfl, blk_cell (cs := [.slice so sn sc, .string (ba x)]) e1 (j := 1) rfl⟩, B.trans (h2.bel.mono B.size), hid_of ?_⟩
    rw [hb]
    have h3 := h2.own
    have h4 : (ss (clF U rs s)).length = n := by rw [h1]; simp [ss]
    rw [h4] at h3
    exact rhas_any ao n cap (clF U rs s) x w1 (rd_of_own1 h3 h4))
  rw [← hbx]
  clear hU hR hS hun hrn hsn hb hbx e0 B
  go_enter Try.func29, Try.ntmps29
  go_wp2
  go_region_held_law (fun W => W.cell? ⟨w.heap.size, 0, none⟩ = some (.slice so sn sc) ∧ W.cell? ⟨w.heap.size, 1, none⟩ = some (.string bx)) (first | exact K0.out | exact K1.out) (first
    | (go_at_call 23; ((with_reducible refine (HC.out).mono ?_); (rintro ee w1 ⟨ao, n, cap, rfl, q1, q2, q3⟩; have K1 := hid_of q1; have B1 := hid_of q2; have H1 := q3; clear q1 q2 q3)))
    | (go_at_call 26; ((with_reducible refine (H1.out).mono ?_); (rintro ee w2 ⟨rfl, rfl⟩))))
  all_goals go_wp2
  go_ret
  exact ⟨rfl, B1.out⟩
end
end Go.Proofs.Ytedohggbpmcehaa
