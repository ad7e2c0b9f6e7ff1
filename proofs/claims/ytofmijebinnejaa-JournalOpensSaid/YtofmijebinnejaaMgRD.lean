/- Texts in one: JfM, JfN, JfO, JfP, JwC, JnOp, JfQ, JnOq, JfR, JrA, JrB. -/
import Derived.Test.YtofmijebinnejaaMgRC
set_option linter.unusedVariables false
set_option linter.unusedSimpArgs false
/- The journal's Append. Bounds on sizes alone. -/
namespace Go.Proofs.Ytofmijebinnejaa
open Go.RowKit
set_option maxRecDepth 100000
set_option maxHeartbeats 6400000

/-- The same at a step of a region that draws. -/
theorem step_appj {ops : Array Oper} {o : Oper} {a : Act} {K : Act → World → Prop} {Q : Exit → Act → World → Prop} {E : Prop} (hgd : o.guard = none) (s x : Operand)
    (ho : o.op = .call { callee := .builtin .append, args := #[s, x], argTypes := #[46, 46] })
    {w : World} {v : Value} {l m : List Int} {g : Nat} (hv : a.eval s = v) (hown : w.ownsRow 0 5 1 v l.length (by8 l)) (hx : a.eval x = .slice (some ⟨g, 0, none⟩) m.length m.length) (hg : w.heap[g]? = some (.cells (by8 m).toArray 5 (0, 0))) (hl : l.length + m.length ≤ 1000000000)
    (h : ∀ (ao : Option Addr) (n cap : Nat) (w' : World), n = (l ++ m).length → w'.ownsRow 0 5 1 (.slice ao n cap) n (by8 (l ++ m)) → w.grownBy w' v.ownBlock → ((Value.slice ao n cap).ownBlock = v.ownBlock ∨ (Value.slice ao n cap).ownBlock = some w.heap.size) → w'.ownsRow 0 5 1 v l.length (by8 l) → K (a.put o.dst (.slice ao n cap)) w') :
    if Region.wanted o (yielded ops a.tmps) = true then Oper.wp Try.prog o a w K Q else E := by
  have hw : Region.wanted o (yielded ops a.tmps) = true := by simp [Region.wanted, hgd]
  rw [if_pos hw]
  obtain ⟨i, hi, hz, h1, h2⟩ := u8I
  obtain ⟨v', w', hr, q1, q2, q3, q4, q5⟩ := run_append_two (P := Try.prog) w 0 46 46 o.type 5 i (.int .u8 0) 1 1 u8E.und hi hz h1 h2 rfl (by decide) v l.length (by8 l) hown (.slice (some ⟨g, 0, none⟩) m.length m.length) m.length (by8 m) (Src.ofSlice w u8E.und ⟨g, 0, none⟩ m.length m.length (by8 m) (by rw [by8_length, Nat.mul_one]) (fun j u hu => by rw [Addr.add_mid, Nat.zero_add]; exact cell_blk hg hu) (by8_cells m)) (by unfold maxLen; omega) (by omega) (Nat.zero_le _)
  obtain ⟨ao, cap, rfl⟩ := own_shape q1
  unfold Oper.wp execOp
  simp only [ho, resolve, invoke, builtin, Sem.run_bind, Sem.run_pure, Result.andThen_ok, List.map_toArray, List.map_cons, List.map_nil, hv, hx, hr]
  refine h ao _ cap w' List.length_append.symm ?_ q2 q4 q5
  rw [show by8 (l ++ m) = by8 l ++ by8 m by simp [by8]]
  exact q1
theorem sync_cache (M : DM) : (syncF M).2.cache.length ≤ M.cache.length := by
  obtain ⟨e1, e2, e3⟩ := stepF_same M
  unfold syncF
  split
  · simp [e3]
  · simp
theorem fillF_same (M : DM) (fs : Nat) (L : List Int) (st n : Nat) : (fillF M fs L st n).2.secs.length = M.secs.length ∧ (fillF M fs L st n).2.sz = M.sz ∧ (fillF M fs L st n).2.cache.length ≤ M.cache.length + n := by
  obtain ⟨h1, h2, h3⟩ := filF_same M fs L st n
  obtain ⟨s1, s2⟩ := sync_same (filF M fs L st n).2
  have s3 := sync_cache (filF M fs L st n).2
  unfold fillF
  split
  · exact ⟨by simp only [s1, h1], by simp only [s2, h2], by simp only []; omega⟩
  · exact ⟨by rw [h1], h2, h3⟩
/-- All of fill as Append calls it. -/
def filA (M : DM) (fs : Nat) (d L : List Int) : Bool × DM := fillF M fs L (d.length / M.sz) ((L.length + M.sz - 1) / M.sz - d.length / M.sz)
theorem filA_same (M : DM) (fs ct : Nat) (d L : List Int) (hz : 16 ≤ M.sz) (hL : L.length ≤ (ct - 1) * M.sz) (hct : ct ≤ 65536) : (filA M fs d L).2.secs.length = M.secs.length ∧ (filA M fs d L).2.sz = M.sz ∧ (filA M fs d L).2.cache.length ≤ M.cache.length + 65536 := by
  obtain ⟨h1, h2, h3⟩ := fillF_same M fs L (d.length / M.sz) ((L.length + M.sz - 1) / M.sz - d.length / M.sz)
  refine ⟨h1, h2, Nat.le_trans h3 (Nat.add_le_add_left ?_ _)⟩
  obtain ⟨z, hz2⟩ : ∃ z, z = M.sz := ⟨_, rfl⟩
  rw [← hz2] at hz hL ⊢
  have a1 : (L.length + z - 1) / z ≤ ((ct - 1) * z + z - 1) / z := Nat.div_le_div_right (by omega)
  have a2 : ((ct - 1) * z + z - 1) / z = ct - 1 := by
    rw [show (ct - 1) * z + z - 1 = z * (ct - 1) + (z - 1) by rw [Nat.mul_comm]; omega, Nat.mul_add_div (by omega), Nat.div_eq_of_lt (by omega)]
    omega
  rw [a2] at a1
  exact Nat.le_trans (Nat.sub_le _ _) (by omega)
/-- Append's work: fill, and commit. -/
def appF (M : DM) (fs : Nat) (d L : List Int) : Bool × DM := if (filA M fs d L).1 = true then comF (filA M fs d L).2 fs L.length else filA M fs d L
section
variable {S SD SD2 : Nat → Prop} {w w3 w4 w5 : World} {jb b : Nat} {M M2 : DM} {fs ct : Nat} {d L : List Int} {wk x : Bool} {vs v2 : Value}
theorem app_in (h : JK S SD w jb b M fs ct d wk vs) (hlt : ∀ k, S k → k < w.heap.size) (s3 : w.heap.size ≤ w3.heap.size) (q1 : w4.ownsRow 0 5 1 v2 L.length (by8 L)) (q3 : v2.ownBlock = vs.ownBlock ∨ v2.ownBlock = some w3.heap.size) : ∀ k, v2.ownBlock = some k → k < w4.heap.size ∧ k ≠ jb ∧ ¬ SD k ∧ (S k ∨ w.heap.size ≤ k) := by
  intro k hk
  have h4 := (q1.lt k hk).2
  rcases q3 with e | e
  · have h5 := h.si k (by rw [← e]; exact hk)
    exact ⟨h4, h5.2.1, h5.2.2, Or.inl h5.1⟩
  · have h6 : k = w3.heap.size := by rw [hk] at e; injection e
    have h7 := hlt jb h.sj
    exact ⟨h4, by omega, fun hs => by have := hlt k (h.sd k hs); omega, Or.inr (by omega)⟩
theorem nw_up (h : w.heap.size ≤ w4.heap.size) {k : Nat} (hk : Nw S w4 w5 k) : Nw S w w5 k := by
  rcases hk with h1 | h1
  · exact Or.inl h1
  · exact Or.inr ⟨by omega, h1.2⟩
theorem own_fill (q1 : w4.ownsRow 0 5 1 v2 L.length (by8 L)) (hq : ∀ k, v2.ownBlock = some k → k < w4.heap.size ∧ k ≠ jb ∧ ¬ SD k ∧ (S k ∨ w.heap.size ≤ k)) (k5 : Kept (fun k => k = jb ∨ SD k) w4 w5) : w5.ownsRow 0 5 1 v2 L.length (by8 L) :=
  own_same q1 fun k hk => k5.block k (hq k hk).1 (fun e => by
    rcases e with e | e
    · exact (hq k hk).2.1 e
    · exact (hq k hk).2.2.1 e)
theorem own_free (hq : ∀ k, v2.ownBlock = some k → k < w4.heap.size ∧ k ≠ jb ∧ ¬ SD k ∧ (S k ∨ w.heap.size ≤ k)) (hd : ∀ k, SD2 k → SD k ∨ w4.heap.size ≤ k) (hs : w4.heap.size ≤ w5.heap.size) : ∀ k, v2.ownBlock = some k → Nw S w w5 k ∧ k ≠ jb ∧ ¬ SD2 k := fun k hk => by
  obtain ⟨h1, h2, h3, h4⟩ := hq k hk
  refine ⟨?_, h2, fun e => ?_⟩
  · rcases h4 with h4 | h4
    · exact Or.inl h4
    · exact Or.inr ⟨h4, by omega⟩
  · rcases hd k e with h5 | h5
    · exact h3 h5
    · omega
theorem own_rd (q1 : w4.ownsRow 0 5 1 v2 L.length (by8 L)) (hl : L.length ≤ 1000000000) : Rd w4 v2 (by8 L) :=
  (show Ow 5 0 w4 w4 v2 (by8 L) from ⟨Nat.zero_le _, Below.refl _ _, by rw [by8_length]; exact q1⟩).rd (by rw [by8_length]; omega)
theorem in_of (hq : ∀ k, v2.ownBlock = some k → k < w4.heap.size ∧ k ≠ jb ∧ ¬ SD k ∧ (S k ∨ w.heap.size ≤ k)) : In (fun k => k < w4.heap.size ∧ k ≠ jb ∧ ¬ SD k) v2 := fun a n c e => by
  have := hq a.block (by rw [e]; rfl)
  exact ⟨this.1, this.2.1, this.2.2.1⟩
end
section
variable (S SD T : Nat → Prop) (w : World) (jb b : Nat) (M : DM) (fs ct : Nat) (d : List Int) (vs : Value)
theorem append_go (R : List (List Int)) (a : Option Addr) (n c : Nat) (h : JK S SD w jb b M fs ct d true vs) (hlt : ∀ k, S k → k < w.heap.size) (ho : M.off = false) (hT : ∀ k, T k → k < w.heap.size ∧ k ≠ jb) (hR : RB T w (.slice a n c) R) (hf : d.length + (streamF R).length ≤ (ct - 1) * M.sz) (hne : R ≠ []) (hc : M.cache.length + 65536 < 1000000) :
    Calls Try.prog 32 #[.pointer (some ⟨jb, 0, none⟩), .slice a n c] w fun e w' => e = .returned (.int .i64 (if (appF M fs d (d ++ streamF R)).1 = true then 0 else 8)) ∧ (∃ SD2 vs2, JK (Nw S w w') SD2 w' jb b (appF M fs d (d ++ streamF R)).2 fs ct (if (appF M fs d (d ++ streamF R)).1 = true then d ++ streamF R else d) (appF M fs d (d ++ streamF R)).1 vs2) ∧ Kept S w w' := by
  obtain ⟨a0, k0, rfl⟩ := own_shape h.str
  have hb := h.bounds
  have hl : (streamF R).length ≤ 268435456 := by omega
  have CB := hid_of (begin_any S SD w jb b M fs ct d true (.slice a0 d.length k0) h)
  rw [ho, show (true && !false) = true from rfl] at CB
  have HRB : Hid (∀ (X : World), Kept (fun k => k = jb) w X → RB (fun k => k < X.heap.size) X (.slice a n c) R) := hid_of (fun X hk => (hR.keep ⟨hk.size, fun k hq _ => hk.block k (hT k hq).1 (hT k hq).2⟩).mono fun k hq => Nat.lt_of_lt_of_le (hT k hq).1 hk.size)
  have CF := hid_of (fun (X : World) (hj : JK S SD X jb b M fs ct d true (.slice a0 d.length k0)) (hk : Kept (fun k => k = jb) w X) => fits_any S SD X jb b M fs ct d true (.slice a0 d.length k0) R (by omega) a n c (HRB.out X hk) hj)
  rw [decide_eq_true hf] at CF
  have CE := hid_of (fun (X : World) (hk : Kept (fun k => k = jb) w X) => encode_any R a n c X (HRB.out X hk) (by omega))
  obtain ⟨L, hL⟩ : ∃ L, L = d ++ streamF R := ⟨_, rfl⟩
  have hLl : L.length = d.length + (streamF R).length := by rw [hL, List.length_append]
  rw [← hL]
  obtain ⟨f1, f2, f3⟩ := filA_same M fs ct d L h.sz (by omega) (by omega)
  have CL := hid_of (fun (X : World) (ao : Option Addr) (cap : Nat) (hj : JK S SD X jb b M fs ct d true (.slice a0 d.length k0)) (hs : w.heap.size ≤ X.heap.size) (hr : Rd X (.slice ao L.length cap) (by8 L)) (hi : In (fun k => k < X.heap.size ∧ k ≠ jb ∧ ¬ SD k) (.slice ao L.length cap)) => fill_any S SD X jb b M fs ct d (.slice a0 d.length k0) hj (fun k hk => Nat.lt_of_lt_of_le (hlt k hk) hs) L ao cap d.length hr (fun _ => hi) (by omega) (by omega) hc)
  obtain ⟨A, hA⟩ : ∃ A, A = appF M fs d L := ⟨_, rfl⟩
  rw [← hA]
  have hA2 := hA
  rw [appF] at hA2
  obtain ⟨F, hF⟩ : ∃ F, F = filA M fs d L := ⟨_, rfl⟩
  rw [← hF] at hA2 f1 f2 f3
  have hF2 := hF
  rw [filA] at hF2
  rw [← hF2] at CL
  obtain ⟨f, M2⟩ := F
  have CC := hid_of (fun (X : World) (S5 SD5 : Nat → Prop) (hj : JK S5 SD5 X jb b M2 fs ct d true (.slice a0 d.length k0)) (hl5 : ∀ k, S5 k → k < X.heap.size) (v2 : Value) (q1 : X.ownsRow 0 5 1 v2 L.length (by8 L)) (q2 : ∀ k, v2.ownBlock = some k → S5 k ∧ k ≠ jb ∧ ¬ SD5 k) => commit_any S5 SD5 X jb b M2 fs ct d (.slice a0 d.length k0) hj hl5 v2 L q1 q2 (by have : M2.sz = M.sz := f2; rw [this]; omega) (by have : M2.cache.length ≤ M.cache.length + 65536 := f3; omega))
  have HLL := hid_of (show L.length ≤ 268435456 ∧ d.length ≤ 268435456 ∧ (streamF R).length ≤ 268435456 from ⟨by omega, by omega, by omega⟩)
  have HLE := hid_of hL
  have HH := hid_of h
  have HLT := hid_of hlt
  have hn := hR.len.1
  have hn0 : n ≠ 0 := by
    rw [hn]
    intro e
    exact hne (List.eq_nil_of_length_eq_zero e)
  have hni : ¬ (n : Int) = 0 := by omega
  have hnb : decide ((n : Int) = 0) = false := decide_eq_false hni
  clear h hlt ho hT hR hf hne hc hb hl hLl f1 f2 f3 hA hF hF2 hn hL
  cases f with
  | false =>
    have HA : Hid (A = (false, M2)) := hid_of (by rw [hA2]; rfl)
    rw [HA.out]
    clear hA2
    go_enter Try.func32, Try.ntmps32
    go_wp2_with (first
      | (go_at_call 52; ((with_reducible refine (CB.out).mono ?_); (rintro e w1 ⟨rfl, q1, q2⟩)); have J1 := hid_of q1; have K1 := hid_of q2; obtain ⟨y0, y1, y2, y3, y4⟩ := J1.out.cells; clear q1 q2)
      | (go_at_call 53; ((with_reducible refine (CF.out w1 J1.out K1.out).mono ?_); (rintro e w2 ⟨rfl, q1⟩)); have K2 := hid_of (K1.out.trans (Kept.ofBelow q1)); have J2 := hid_of (J1.out.keep (w' := w2) ⟨q1.size, fun k _ hk => q1.block k hk⟩); obtain ⟨z0, z1, z2, z3, z4⟩ := J2.out.cells; clear q1))
    have K2d := hid_of (K2.out.drew)
    have J2d := hid_of (J2.out.keep (w' := w2.drew) ⟨Nat.le_refl _, fun _ _ _ => rfl⟩)
    obtain ⟨t0, t1, t2, t3, t4⟩ := J2d.out.cells
    (go_region_held3 (fun w' => w'.cell? ⟨jb, 3, none⟩ = some (.slice a0 d.length k0)) (first | assumption | go_keep) (first
      | (go_at_call 54; ((with_reducible refine (CE.out w2.drew K2d.out).mono ?_); (rintro e w3 ⟨g, rfl, q0, q2, q3⟩)); have R3 := hid_of q2; have K3 := hid_of (K2d.out.trans (Kept.ofBelow q3)); have J3 := hid_of (J2d.out.keep (w' := w3) ⟨q3.size, fun k _ hk => q3.block k hk⟩); obtain ⟨u0, u1, u2, u3, u4⟩ := J3.out.cells; clear q0 q2 q3)
      | ((refine step_appj (by kernel_rfl) (.tmp 19) (.tmp 21) (by kernel_rfl) (v := .slice a0 d.length k0) (l := d) (m := streamF R) (g := g) (by kernel_rfl) J3.out.str (by kernel_rfl) R3.out (by have := HLL.out; omega) ?_; intro ao n4 cap w4 hn4 q1 q2 q3 q4; rw [← HLE.out] at hn4 q1; subst hn4; have G4 := hid_of q2; have O4 := hid_of q1; have H4 := hid_of (app_in HH.out HLT.out K3.out.size q1 q3); have J4 := hid_of (J3.out.grown q2 q4 (fun k hk => Nat.lt_of_lt_of_le (HLT.out k hk) K3.out.size)); clear q1 q2 q3 q4; obtain ⟨v0, v1, v2, v3, v4⟩ := J4.out.cells))))
    have HSZ : Hid (w.heap.size ≤ w4.heap.size) := hid_of (Nat.le_trans K3.out.size G4.out.size)
    all_goals go_wp2_with (first
      | (go_at_call 55; ((with_reducible refine (CL.out w4 ao cap J4.out HSZ.out (own_rd O4.out (by have := HLL.out; omega)) (in_of H4.out)).mono ?_); (rintro e w5 ⟨rfl, ⟨SD2, q1, q3⟩, q2⟩)); have J5 := hid_of q1; have K5 := hid_of q2; have D5 := hid_of q3; clear q1 q2 q3; obtain ⟨p0, p1, p2, p3, p4⟩ := J5.out.cells))
    all_goals go_ret
    have s5 := K5.out.size
    have s4 := HSZ.out
    have hk4 : Kept S w w4 := (K3.out.mono (fun k e => by rw [e]; exact HH.out.sj)).grown G4.out (fun k e => Or.inl (HH.out.si k e).1)
    have hk5 : Kept S w w5 := hk4.trans (K5.out.mono fun k e => by
      rcases e with e | e
      · rw [e]; exact HH.out.sj
      · exact HH.out.sd k e)
    exact ⟨rfl, ⟨_, _, J5.out.mono (fun k hk => by
      rcases hk with h1 | h1
      · exact Or.inl h1
      · exact Or.inr ⟨by omega, h1.2⟩)⟩, hk5⟩
  | true =>
    have HA : Hid (A = comF M2 fs L.length) := hid_of (by rw [hA2]; rfl)
    obtain ⟨B, hB⟩ : ∃ B, B = comF M2 fs L.length := ⟨_, rfl⟩
    rw [HA.out, ← hB]
    rw [← hB] at CC
    obtain ⟨cd, hcd⟩ : ∃ cd, cd = (if B.1 = true then (0 : Int) else 8) := ⟨_, rfl⟩
    obtain ⟨dd, hdd⟩ : ∃ dd, dd = (if B.1 = true then L else d) := ⟨_, rfl⟩
    rw [← hcd, ← hdd] at CC ⊢
    have CC2 : Hid (∀ (X : World) (S5 SD5 : Nat → Prop) (hj : JK S5 SD5 X jb b M2 fs ct d true (.slice a0 d.length k0)) (hl5 : ∀ k, S5 k → k < X.heap.size) (v2 : Value) (q1 : X.ownsRow 0 5 1 v2 L.length (by8 L)) (q2 : ∀ k, v2.ownBlock = some k → S5 k ∧ k ≠ jb ∧ ¬ SD5 k), Calls Try.prog 56 #[.pointer (some ⟨jb, 0, none⟩), v2] X fun e w' => e = .returned (.int .i64 cd) ∧ (∃ SD2 vs2, JK (Nw S5 X w') SD2 w' jb b B.2 fs ct dd B.1 vs2) ∧ Kept S5 X w') := hid_of (fun X S5 SD5 hj hl5 v2 q1 q2 => (CC.out X S5 SD5 hj hl5 v2 q1 q2).mono (by
      rintro e w' ⟨h1, ⟨S2, h2⟩, h3⟩
      exact ⟨h1, ⟨S2, _, h2⟩, h3⟩))
    clear hA2 hB hcd hdd CC HA
    go_enter Try.func32, Try.ntmps32
    go_wp2_with (first
      | (go_at_call 52; ((with_reducible refine (CB.out).mono ?_); (rintro e w1 ⟨rfl, q1, q2⟩)); have J1 := hid_of q1; have K1 := hid_of q2; obtain ⟨y0, y1, y2, y3, y4⟩ := J1.out.cells; clear q1 q2)
      | (go_at_call 53; ((with_reducible refine (CF.out w1 J1.out K1.out).mono ?_); (rintro e w2 ⟨rfl, q1⟩)); have K2 := hid_of (K1.out.trans (Kept.ofBelow q1)); have J2 := hid_of (J1.out.keep (w' := w2) ⟨q1.size, fun k _ hk => q1.block k hk⟩); obtain ⟨z0, z1, z2, z3, z4⟩ := J2.out.cells; clear q1))
    have K2d := hid_of (K2.out.drew)
    have J2d := hid_of (J2.out.keep (w' := w2.drew) ⟨Nat.le_refl _, fun _ _ _ => rfl⟩)
    obtain ⟨t0, t1, t2, t3, t4⟩ := J2d.out.cells
    (go_region_held3 (fun w' => w'.cell? ⟨jb, 3, none⟩ = some (.slice a0 d.length k0)) (first | assumption | go_keep) (first
      | (go_at_call 54; ((with_reducible refine (CE.out w2.drew K2d.out).mono ?_); (rintro e w3 ⟨g, rfl, q0, q2, q3⟩)); have R3 := hid_of q2; have K3 := hid_of (K2d.out.trans (Kept.ofBelow q3)); have J3 := hid_of (J2d.out.keep (w' := w3) ⟨q3.size, fun k _ hk => q3.block k hk⟩); obtain ⟨u0, u1, u2, u3, u4⟩ := J3.out.cells; clear q0 q2 q3)
      | ((refine step_appj (by kernel_rfl) (.tmp 19) (.tmp 21) (by kernel_rfl) (v := .slice a0 d.length k0) (l := d) (m := streamF R) (g := g) (by kernel_rfl) J3.out.str (by kernel_rfl) R3.out (by have := HLL.out; omega) ?_; intro ao n4 cap w4 hn4 q1 q2 q3 q4; rw [← HLE.out] at hn4 q1; subst hn4; have G4 := hid_of q2; have O4 := hid_of q1; have H4 := hid_of (app_in HH.out HLT.out K3.out.size q1 q3); have J4 := hid_of (J3.out.grown q2 q4 (fun k hk => Nat.lt_of_lt_of_le (HLT.out k hk) K3.out.size)); clear q1 q2 q3 q4; obtain ⟨v0, v1, v2, v3, v4⟩ := J4.out.cells))))
    have HSZ : Hid (w.heap.size ≤ w4.heap.size) := hid_of (Nat.le_trans K3.out.size G4.out.size)
    all_goals go_wp2_with (first
      | (go_at_call 55; ((with_reducible refine (CL.out w4 ao cap J4.out HSZ.out (own_rd O4.out (by have := HLL.out; omega)) (in_of H4.out)).mono ?_); (rintro e w5 ⟨rfl, ⟨SD2, q1, q3⟩, q2⟩)); have J5 := hid_of q1; have K5 := hid_of q2; have D5 := hid_of q3; clear q1 q2 q3; have J6 := hid_of (J5.out.mono (T := Nw S w w5) (fun k hk => nw_up HSZ.out hk)); have O5 := hid_of (own_fill O4.out H4.out K5.out); have P5 := hid_of (own_free H4.out D5.out K5.out.size); obtain ⟨p0, p1, p2, p3, p4⟩ := J5.out.cells)
      | (go_at_call 56; go_loud ((with_reducible refine (CC2.out w5 (Nw S w w5) SD2 J6.out (nw_lt HLT.out (Nat.le_trans HSZ.out K5.out.size)) (.slice ao L.length cap) O5.out P5.out).mono ?_); (rintro e w6 ⟨rfl, ⟨SD3, vs3, q1⟩, q2⟩)); have J7 := hid_of q1; have K7 := hid_of q2; clear q1 q2))
    all_goals go_ret
    have s5 := K5.out.size
    have s4 := HSZ.out
    have hk4 : Kept S w w4 := (K3.out.mono (fun k e => by rw [e]; exact HH.out.sj)).grown G4.out (fun k e => Or.inl (HH.out.si k e).1)
    have hk5 : Kept S w w5 := hk4.trans (K5.out.mono fun k e => by
      rcases e with e | e
      · rw [e]; exact HH.out.sj
      · exact HH.out.sd k e)
    have s7 := K7.out.size
    exact ⟨rfl, ⟨_, _, J7.out.mono (fun k hk => by
      rcases hk with h1 | h1
      · rcases h1 with h1 | h1
        · exact Or.inl h1
        · exact Or.inr ⟨by omega, by omega⟩
      · exact Or.inr ⟨by omega, h1.2⟩)⟩, ⟨K7.out.os.trans hk5.os, K7.out.tape.trans hk5.tape, K7.out.output.trans hk5.output, by omega, fun k hk hn => (K7.out.block k (by omega) (fun e => by
        rcases e with h1 | h1
        · exact hn h1
        · omega)).trans (hk5.block k hk hn)⟩⟩
end
end Go.Proofs.Ytofmijebinnejaa

/- What the journal's read puts together, as mathematics. -/
namespace Go.Proofs.Ytofmijebinnejaa
open Go.RowKit
set_option maxRecDepth 100000

/-- A row of l bytes into which i sectors have been copied. -/
def rowF (c : Nat → List Int) (l i : Nat) : List Int := (areaF c i).take l ++ List.replicate (l - (areaF c i).length) 0
theorem rowF_zero (c : Nat → List Int) (l : Nat) : rowF c l 0 = List.replicate l 0 := by simp [rowF, areaF]
theorem rowF_len (c : Nat → List Int) (l i : Nat) : (rowF c l i).length = l := by
  simp only [rowF, List.length_append, List.length_take, List.length_replicate]
  omega
theorem rowF_full {c : Nat → List Int} {l i : Nat} (h : l ≤ (areaF c i).length) : rowF c l i = (areaF c i).take l := by
  rw [rowF, show l - (areaF c i).length = 0 by omega, List.replicate_zero, List.append_nil]
theorem rowF_next {c : Nat → List Int} {l i : Nat} (h : (areaF c i).length ≤ l) : rowF c l (i + 1) = splice (rowF c l i) (areaF c i).length ((c i).take (l - (areaF c i).length)) := by
  have e1 : (areaF c i).take l = areaF c i := List.take_of_length_le h
  rw [splice, rowF, rowF, e1, areaF, List.take_append, e1, List.take_left, List.drop_append, List.drop_eq_nil_of_le (by omega), List.nil_append, List.append_assoc, List.drop_replicate, List.length_append, List.length_take]
  congr 2
  congr 1
  omega
theorem by8_splice (L x : List Int) (o : Nat) : splice (by8 L) o (by8 x) = by8 (splice L o x) := by
  simp [splice, by8, List.map_take, List.map_drop]
/-- More sectors than are needed change nothing. -/
theorem areaF_more {c : Nat → List Int} {l i : Nat} (h : l ≤ (areaF c i).length) : ∀ k, (areaF c (i + k)).take l = (areaF c i).take l
  | 0 => rfl
  | k + 1 => by
    have e := areaF_more h k
    have hl : (areaF c i).length ≤ (areaF c (i + k)).length := by
      clear e h
      induction k with
      | zero => exact Nat.le_refl _
      | succ k ih => rw [← Nat.add_assoc, areaF, List.length_append]; omega
    rw [← Nat.add_assoc, areaF, List.take_append_of_le_length (by omega), e]
end Go.Proofs.Ytofmijebinnejaa

/- The journal's read. Bounds on sizes alone. -/
namespace Go.Proofs.Ytofmijebinnejaa
open Go.RowKit
set_option maxRecDepth 100000
set_option maxHeartbeats 6400000

/-- Sector i of the area. -/
def secC (M : DM) (fs i : Nat) : List Int := (readF M (fs + 1 + i : Nat)).1
section
variable (S SD : Nat → Prop) (w : World) (jb b : Nat) (M : DM) (fs ct : Nat) (d : List Int) (wk : Bool) (vs : Value)
theorem read_any (h : JK S SD w jb b M fs ct d wk vs) (hlt : ∀ k, S k → k < w.heap.size) (l : Nat) (hl : l ≤ (ct - 1) * M.sz) (hs : ∀ i, i < ct - 1 → (secC M fs i).length = M.sz) (hc : M.cache.length ≤ 1000000) :
    Calls Try.prog 59 #[.pointer (some ⟨jb, 0, none⟩), .int .i64 l] w fun e w' => ∃ g, e = .returned (.slice (some ⟨g, 0, none⟩) l l) ∧ w.heap.size ≤ g ∧ w'.heap[g]? = some (.cells (by8 ((areaF (secC M fs) (ct - 1)).take l)).toArray 5 (0, 0)) ∧ Below w.heap.size w w' := by
  have hb := h.bounds
  have hreg := h.reg
  have hz16 := h.sz
  have CN := hid_of (fun (X : World) (hX : Below w.heap.size w X) => needed_any S SD X jb b M fs ct d wk vs l (by omega) (h.keep ⟨hX.size, fun k hk _ => hX.block k (hlt k hk)⟩))
  have CZ := hid_of (fun (X : World) (hX : Below w.heap.size w X) => sizeQ_any (h.keep (w' := X) ⟨hX.size, fun k hk _ => hX.block k (hlt k hk)⟩).dk)
  have MK : ∀ w : World, (Instr.makeSlice 46 (.int .i64 l) (.int .i64 l)).run Try.prog w = .ok (.slice (some ⟨w.heap.size, 0, none⟩) l l) (w.alloc (.cells (Array.replicate l (.int .u8 0)) 5)) := fun w => by
    have h := run_make_row' (P := Try.prog) 46 5 (.int .u8 0) 1 u8E.und u8E.info rfl .i64 .i64 l (by omega) (by omega) w
    rw [show madeCells #[Value.int .u8 0] l = Array.replicate l (.int .u8 0) by rw [← Array.toList_inj]; simp [toList_madeCells_one]] at h
    exact h
  have HB1 := hid_of (bel_alloc w (.cells (Array.replicate l (.int .u8 0)) 5))
  obtain ⟨c0, c1, c2, c3, c4⟩ := h.cells
  obtain ⟨z, hz⟩ : ∃ z, z = M.sz := ⟨_, rfl⟩
  rw [← hz] at CN CZ hb hz16 hl hs
  have hneed : ∀ k, k < (l + z - 1) / z → k * z < l := fun k hk => need_lt (by omega) hk
  have hn1 : (l + z - 1) / z ≤ ct - 1 := by
    have h1 : (l + z - 1) / z ≤ ((ct - 1) * z + z - 1) / z := Nat.div_le_div_right (by omega)
    have h2 : ((ct - 1) * z + z - 1) / z = ct - 1 := by
      rw [show (ct - 1) * z + z - 1 = z * (ct - 1) + (z - 1) by rw [Nat.mul_comm]; omega, Nat.mul_add_div (by omega), Nat.div_eq_of_lt (by omega)]
      omega
    omega
  have hdm := Nat.div_add_mod (l + z - 1) z
  have hml := Nat.mod_lt (l + z - 1) (show 0 < z by omega)
  obtain ⟨n, hn⟩ : ∃ n, n = (l + z - 1) / z := ⟨_, rfl⟩
  rw [← hn] at CN hneed hn1 hdm
  have hal : ∀ i, i ≤ ct - 1 → (areaF (secC M fs) i).length = i * z := fun i hi => areaF_len i fun k hk => hs k (by omega)
  have hln : l ≤ n * z := by rw [Nat.mul_comm]; omega
  have HFIN : Hid (rowF (secC M fs) l n = (areaF (secC M fs) (ct - 1)).take l) := hid_of (by
    have h1 : l ≤ (areaF (secC M fs) n).length := by rw [hal n hn1]; exact hln
    rw [rowF_full h1]
    have h2 := areaF_more h1 (ct - 1 - n)
    rw [show n + (ct - 1 - n) = ct - 1 by omega] at h2
    exact h2.symm)
  have HM := hid_of (And.intro hb (And.intro hn1 (And.intro hreg hz16)))
  have HNE := hid_of hneed
  have HAL := hid_of hal
  have HS := hid_of hs
  have HLT := hid_of hlt
  have HH := hid_of h
  have HC := hid_of hc
  have HL := hid_of hl
  have HZ := hid_of hz
  have HW0 : Hid ((w.alloc (.cells (Array.replicate l (.int .u8 0)) 5)).heap[w.heap.size]? = some (.cells (by8 (rowF (secC M fs) l 0)).toArray 5 (0, 0))) := hid_of (by
    have h9 := heap_alloc_new w (.cells (Array.replicate l (.int .u8 0)) 5)
    rw [h9, rowF_zero]
    simp [by8])
  clear h hlt hb hreg hz16 hl hs hc hz hneed hn1 hdm hml hn hal hln c0 c1 c2 c3 c4
  go_enter Try.func59, Try.ntmps59
  go_wp2_with (first
    | (go_at_call 72; ((with_reducible refine (CN.out _ HB1.out).mono ?_); (rintro e w1 ⟨rfl, ⟨m1, rfl⟩⟩))))
  go_loopw [6, 7, 8, 14] (fun v6 v7 v8 iv wr => ∃ i : Nat, i ≤ n ∧ iv = .int .i64 i ∧ Hid (Below w.heap.size w wr ∧ wr.heap[w.heap.size]? = some (.cells (by8 (rowF (secC M fs) l i)).toArray 5 (0, 0)))) (fun _ _ _ iv _ => n - (intOf iv).toNat)
  case atStart => exact ⟨0, Nat.zero_le _, rfl, hid_of ⟨bel_drewN HB1.out m1, HW0.out⟩⟩
  case round =>
    obtain ⟨i, hi, rfl, hf⟩ := hrel
    by_cases hlt : i < n
    · have hdd : decide (i < n) = true := decide_eq_true hlt
      have hdi : (i : Int) < (n : Int) := Int.ofNat_lt.2 hlt
      have hHM := HM.out
      obtain ⟨lo, hlo⟩ : ∃ lo, lo = i * z := ⟨_, rfl⟩
      have hlol : lo < l := by rw [hlo]; exact HNE.out i hlt
      have hl9 : l ≤ 268435456 := Nat.le_trans HL.out hHM.1.1
      have a2 := wrap_mul hlo (by omega)
      have b1 : (lo : Int) ≤ (l : Int) := by omega
      have b3 : lo ≤ l := by omega
      obtain ⟨sc, hsc⟩ : ∃ sc, sc = fs + 1 + i := ⟨_, rfl⟩
      have JD := hid_of (HH.out.keep (w' := wr.drew) ⟨hf.out.1.size, fun k hk _ => hf.out.1.block k (HLT.out k hk)⟩)
      have CSC := hid_of (sector_any S SD wr.drew jb b M fs ct d wk vs i (by omega) JD.out)
      rw [← hsc] at CSC
      have CR := hid_of (IG.read (sc : Int) ⟨by omega, by omega⟩ HC.out JD.out.dk)
      obtain ⟨q, hq⟩ : ∃ q, q = (readF M sc).1 := ⟨_, rfl⟩
      obtain ⟨e0, he0⟩ : ∃ e0, e0 = (readF M sc).2 := ⟨_, rfl⟩
      have hqs : q = secC M fs i := by rw [hq, secC, ← hsc]
      have hql : q.length = z := by rw [hqs]; exact HS.out i (by omega)
      rw [← hq, ← he0] at CR
      have HQL := hid_of hql
      have hai : (areaF (secC M fs) i).length = lo := by rw [hlo]; exact HAL.out i (by omega)
      have HNX : Hid (splice (by8 (rowF (secC M fs) l i)) lo (by8 (q.take (l - lo))) = by8 (rowF (secC M fs) l (i + 1))) := hid_of (by
        have h9 := rowF_next (c := secC M fs) (l := l) (i := i) (by omega)
        rw [h9, by8_splice, hai, hqs])
      have HQN : Hid ((by8 (q.take (l - lo))).length = Nat.min z (l - lo)) := hid_of (by rw [by8_length, List.length_take, hql]; exact Nat.min_comm _ _)
      have HQF : Hid (lo + (by8 (q.take (l - lo))).length ≤ (by8 (rowF (secC M fs) l i)).length) := hid_of (by rw [by8_length, by8_length, rowF_len, List.length_take]; omega)
      have HLT2 := hid_of hlt
      have HWR : Hid (wrap64 ((i : Int) + 1) = ((i + 1 : Nat) : Int)) := hid_of (by unfold wrap64; omega)
      clear hHM hlo hsc hq he0 hqs hql hai hlt
      go_wp2
      obtain ⟨y0, y1, y2, y3, y4⟩ := JD.out.cells
      (go_region_with (first
        | (go_at_call 73; ((with_reducible refine (CSC.out).mono ?_); (rintro e w2 ⟨rfl, rfl⟩)))
        | (go_at_call 33; go_loud (((with_reducible refine (CR.out).mono ?_); (rintro e w3 ⟨⟨x, nn, cc, rfl, q1, q2⟩, q3⟩)); have h5 := (rd_cut q1).1; rw [by8_length, HQL.out] at h5; subst h5; have R3 := hid_of q1; have B3 := hid_of (show Below w.heap.size w w3 from hf.out.1.drew.trans (q2.mono hf.out.1.size)); have W3 := hid_of ((q2.block w.heap.size (lt_of_block hf.out.2)).trans hf.out.2); have J3 := hid_of (HH.out.keep (w' := w3) ⟨B3.out.size, fun k hk _ => B3.out.block k (HLT.out k hk)⟩); obtain ⟨z0, z1, z2, z3, z4⟩ := J3.out.cells; clear q1 q2 q3))))
      all_goals go_wp2_with (first
        | (go_at_call 65; ((with_reducible refine (CZ.out w3 B3.out).mono ?_); (rintro e w4 ⟨rfl, ⟨m2, rfl⟩⟩)))
        | (refine wpList_copy_splice rfl _ _ 46 46 rfl 5 Try.underlying46 sizeB (some ⟨w.heap.size, lo, none⟩) x (l - lo) (l - lo) nn cc rfl rfl w.heap.size lo (by8 (rowF (secC M fs) l i)) 5 W3.out (by8 (q.take (l - lo))) HQN.out (fun h0 => by
            obtain ⟨_, ad, e1, e2⟩ := src_cells R3.out (Nat.le_refl _) (g := 0) (by rw [by8_length]; rw [by8_length, List.length_take] at h0; omega)
            refine ⟨rfl, ad, e1, fun j v hv => e2 j v ?_⟩
            rw [by8, List.map_take, List.getElem?_take] at hv
            split at hv
            · exact hv
            · cases hv) HQF.out (by8_cells _) w.heap.size w (bel_drewN B3.out m2) (Nat.le_refl _) ?_; intro w5 h6 h7; rw [HNX.out] at h6; have W5 := hid_of h6; have B5 := hid_of h7; clear h6 h7))
      all_goals go_roundw
      all_goals first
        | exact ⟨i + 1, HLT2.out, by rw [HWR.out], hid_of ⟨B5.out, W5.out⟩⟩
        | (have h8 := HLT2.out; rw [HWR.out]; show n - ((i + 1 : Nat) : Int).toNat < n - ((i : Nat) : Int).toNat; omega)
    · have him : i = n := by omega
      subst him
      have hdd : decide (i < i) = false := decide_eq_false hlt
      have hdi : ¬ (i : Int) < (i : Int) := Int.lt_irrefl _
      go_wp2
      go_ret
      exact ⟨_, rfl, Nat.le_refl _, by rw [← HFIN.out]; exact hf.out.2, hf.out.1⟩
end
end Go.Proofs.Ytofmijebinnejaa

/- The journal's load. Bounds on sizes alone. -/
namespace Go.Proofs.Ytofmijebinnejaa
open Go.RowKit
set_option maxRecDepth 100000
set_option maxHeartbeats 6400000

/-- The head of a region and its area, as Read gives them. -/
def headC (M : DM) (fs : Nat) : List Int := (readF M (fs : Int)).1
def areaC (M : DM) (fs ct : Nat) : List Int := areaF (secC M fs) (ct - 1)
/-- Every sector of the region reads as bytes. -/
structure RdOk (M : DM) (fs ct : Nat) : Prop where
  hl : (headC M fs).length = M.sz
  hr : ∀ x ∈ headC M fs, 0 ≤ x ∧ x ≤ 255
  sl : ∀ i, i < ct - 1 → (secC M fs i).length = M.sz
  sr : ∀ i, i < ct - 1 → ∀ x ∈ secC M fs i, 0 ≤ x ∧ x ≤ 255
theorem areaF_mem {c : Nat → List Int} {x : Int} : ∀ k, x ∈ areaF c k → ∃ i, i < k ∧ x ∈ c i
  | 0, h => by simp [areaF] at h
  | k + 1, h => by
    rw [areaF] at h
    rcases List.mem_append.1 h with h | h
    · obtain ⟨i, h1, h2⟩ := areaF_mem k h
      exact ⟨i, by omega, h2⟩
    · exact ⟨k, by omega, h⟩
theorem RdOk.al {M : DM} {fs ct : Nat} (h : RdOk M fs ct) : (areaC M fs ct).length = (ct - 1) * M.sz := areaF_len _ fun i hi => h.sl i hi
theorem RdOk.ar {M : DM} {fs ct : Nat} (h : RdOk M fs ct) : ∀ x ∈ areaC M fs ct, 0 ≤ x ∧ x ≤ 255 := fun x hx => by
  obtain ⟨i, h1, h2⟩ := areaF_mem _ hx
  exact h.sr i h1 x h2
section
variable (S SD : Nat → Prop) (w : World) (jb b : Nat) (M : DM) (fs ct : Nat) (d : List Int) (wk : Bool) (vs : Value)
theorem load_no (h : JK S SD w jb b M fs ct d wk vs) (_hlt : ∀ k, S k → k < w.heap.size) (hg : RdOk M fs ct) (hc : M.cache.length ≤ 1000000) (hno : hdF (headC M fs) = none ∨ ∃ n, hdF (headC M fs) = some n ∧ (ct - 1) * M.sz < n) :
    Calls Try.prog 37 #[.pointer (some ⟨jb, 0, none⟩)] w fun e w' => e = .returned (.tuple #[.slice none 0 0, .bool false]) ∧ Below w.heap.size w w' := by
  have hb := h.bounds
  obtain ⟨c0, c1, c2, c3, c4⟩ := h.cells
  have JD := hid_of (h.keep (w' := w.drew) ⟨Nat.le_refl _, fun _ _ _ => rfl⟩)
  have CR := hid_of (IG.read (fs : Int) ⟨by omega, by omega⟩ hc JD.out.dk)
  obtain ⟨q, hq⟩ : ∃ q, q = headC M fs := ⟨_, rfl⟩
  obtain ⟨e0, he0⟩ : ∃ e0, e0 = (readF M fs).2 := ⟨_, rfl⟩
  rw [show (readF M (fs : Int)).1 = headC M fs from rfl, ← hq, ← he0] at CR
  have hhr := hg.hr
  have hhl := hg.hl
  rw [← hq] at hno hhr hhl
  have hql : q.length ≤ 1000000000 := by omega
  obtain ⟨r, hr⟩ : ∃ r, r = (ct - 1) * M.sz := ⟨_, rfl⟩
  have CM := hid_of (fun (X : World) (hX : Below w.heap.size w X) => room_any S SD X jb b M fs ct d wk vs (h.keep ⟨hX.size, fun k hk _ => hX.block k (_hlt k hk)⟩))
  rw [← hr] at CM hno hb
  rcases hno with hno | ⟨n, hno, hn⟩
  · have CL := hid_of (fun (x : Option Addr) (cc : Nat) (X : World) (R : Rd X (.slice x q.length cc) (by8 q)) => show Calls Try.prog 58 #[.slice x q.length cc] X (fun e w' => ∃ m : Int, e = .returned (.tuple #[.int .u64 m, .bool false]) ∧ Below X.heap.size X w') from (streamLen_any q x cc X hhr hql R).mono fun e w' h1 => by
      rcases h1 with ⟨m, h2, _⟩ | ⟨m, _, h2, h3⟩
      · rw [hno] at h2; cases h2
      · exact ⟨m, h2, h3⟩)
    clear h hb hg hc hhr hhl hql hr hno hq he0
    go_enter Try.func37, Try.ntmps37
    go_wp2
    (go_region_with (first
      | (go_at_call 33; ((with_reducible refine (CR.out).mono ?_); (rintro e w3 ⟨⟨x, nn, cc, rfl, q1, q2⟩, q3⟩)); have h5 := (rd_cut q1).1; rw [by8_length] at h5; subst h5; have R3 := hid_of q1; have B3 := hid_of (show Below w.heap.size w w3 from (Below.refl _ _).drew.trans q2); clear q1 q2 q3)))
    all_goals go_wp2_with (first
      | (go_at_call 58; ((with_reducible refine (CL.out x cc w3 R3.out).mono ?_); (rintro e w4 ⟨m, rfl, q4⟩)); have B4 := hid_of (B3.out.trans (q4.mono B3.out.size)); clear q4))
    all_goals go_ret2
    all_goals exact ⟨rfl, B4.out⟩
  · have CL := hid_of (fun (x : Option Addr) (cc : Nat) (X : World) (R : Rd X (.slice x q.length cc) (by8 q)) => show Calls Try.prog 58 #[.slice x q.length cc] X (fun e w' => e = .returned (.tuple #[.int .u64 n, .bool true]) ∧ Below X.heap.size X w') from (streamLen_any q x cc X hhr hql R).mono fun e w' h1 => by
      rcases h1 with ⟨m, h2, _, h3, h4⟩ | ⟨m, h2, _⟩
      · rw [hno] at h2; cases h2; exact ⟨h3, h4⟩
      · rw [hno] at h2; cases h2)
    have d0 : r < n := hn
    have d5 : decide (r < n) = true := decide_eq_true hn
    have d1 : decide ((n : Int) > (r : Int)) = true := by simp; omega
    have d2 : decide ((r : Int) < (n : Int)) = true := by simp; omega
    have d3 : IntKind.u64.wrap (r : Int) = (r : Int) := IntWalk.u64_in _ (by omega)
    clear h hb hg hc hhr hhl hql hr hno hq he0 hn
    go_enter Try.func37, Try.ntmps37
    go_wp2
    (go_region_with (first
      | (go_at_call 33; ((with_reducible refine (CR.out).mono ?_); (rintro e w3 ⟨⟨x, nn, cc, rfl, q1, q2⟩, q3⟩)); have h5 := (rd_cut q1).1; rw [by8_length] at h5; subst h5; have R3 := hid_of q1; have B3 := hid_of (show Below w.heap.size w w3 from (Below.refl _ _).drew.trans q2); clear q1 q2 q3)))
    all_goals go_wp2_with (first
      | (go_at_call 58; ((with_reducible refine (CL.out x cc w3 R3.out).mono ?_); (rintro e w4 ⟨rfl, q4⟩)); have B4 := hid_of (B3.out.trans (q4.mono B3.out.size)); clear q4)
      | (go_at_call 40; ((with_reducible refine (CM.out w4 B4.out).mono ?_); (rintro e w5 ⟨rfl, ⟨m5, rfl⟩⟩))))
    all_goals go_ret2
    all_goals exact ⟨rfl, bel_drewN B4.out _⟩
theorem load_yes (h : JK S SD w jb b M fs ct d wk vs) (_hlt : ∀ k, S k → k < w.heap.size) (hg : RdOk M fs ct) (hc : M.cache.length ≤ 1000000) (n : Nat) (hno : hdF (headC M fs) = some n) (hn : n ≤ (ct - 1) * M.sz) :
    Calls Try.prog 37 #[.pointer (some ⟨jb, 0, none⟩)] w fun e w' => ∃ g, e = .returned (.tuple #[.slice (some ⟨g, 0, none⟩) n n, .bool (recsF ((areaC M fs ct).take n) (n + 1) 0).isSome]) ∧ w.heap.size ≤ g ∧ w'.heap[g]? = some (.cells (by8 ((areaC M fs ct).take n)).toArray 5 (0, 0)) ∧ Below w.heap.size w w' := by
  have hb := h.bounds
  obtain ⟨c0, c1, c2, c3, c4⟩ := h.cells
  have JD := hid_of (h.keep (w' := w.drew) ⟨Nat.le_refl _, fun _ _ _ => rfl⟩)
  have CR := hid_of (IG.read (fs : Int) ⟨by omega, by omega⟩ hc JD.out.dk)
  obtain ⟨q, hq⟩ : ∃ q, q = headC M fs := ⟨_, rfl⟩
  obtain ⟨e0, he0⟩ : ∃ e0, e0 = (readF M fs).2 := ⟨_, rfl⟩
  rw [show (readF M (fs : Int)).1 = headC M fs from rfl, ← hq, ← he0] at CR
  have hhr := hg.hr
  have hhl := hg.hl
  rw [← hq] at hno hhr hhl
  have hql : q.length ≤ 1000000000 := by omega
  have hal := hg.al
  obtain ⟨L, hL⟩ : ∃ L, L = (areaC M fs ct).take n := ⟨_, rfl⟩
  have hLn : L.length = n := by rw [hL, List.length_take, hal]; omega
  have hLr : ∀ x ∈ L, 0 ≤ x ∧ x ≤ 255 := fun x hx => hg.ar x (by rw [hL] at hx; exact List.mem_of_mem_take hx)
  have CA := hid_of (fun (X : World) (hX : Below w.heap.size w X) => show Calls Try.prog 59 #[.pointer (some ⟨jb, 0, none⟩), .int .i64 n] X fun e w' => ∃ g, e = .returned (.slice (some ⟨g, 0, none⟩) n n) ∧ X.heap.size ≤ g ∧ w'.heap[g]? = some (.cells (by8 L).toArray 5 (0, 0)) ∧ Below X.heap.size X w' from by
    rw [hL]
    exact read_any S SD X jb b M fs ct d wk vs (h.keep ⟨hX.size, fun k hk _ => hX.block k (_hlt k hk)⟩) (fun k hk => Nat.lt_of_lt_of_le (_hlt k hk) hX.size) n hn hg.sl hc)
  obtain ⟨r, hr⟩ : ∃ r, r = (ct - 1) * M.sz := ⟨_, rfl⟩
  have CM := hid_of (fun (X : World) (hX : Below w.heap.size w X) => room_any S SD X jb b M fs ct d wk vs (h.keep ⟨hX.size, fun k hk _ => hX.block k (_hlt k hk)⟩))
  rw [← hr] at CM hb hn
  have CL := hid_of (fun (x : Option Addr) (cc : Nat) (X : World) (R : Rd X (.slice x q.length cc) (by8 q)) => show Calls Try.prog 58 #[.slice x q.length cc] X (fun e w' => e = .returned (.tuple #[.int .u64 n, .bool true]) ∧ Below X.heap.size X w') from (streamLen_any q x cc X hhr hql R).mono fun e w' h1 => by
      rcases h1 with ⟨m, h2, _, h3, h4⟩ | ⟨m, h2, _⟩
      · rw [hno] at h2; cases h2; exact ⟨h3, h4⟩
      · rw [hno] at h2; cases h2)
  obtain ⟨bo, hbo⟩ : ∃ bo, bo = (recsF L (n + 1) 0).isSome := ⟨_, rfl⟩
  have CD := hid_of (fun (X : World) (g : Nat) (R : Rd X (.slice (some ⟨g, 0, none⟩) n n) (by8 L)) => show Calls Try.prog 39 #[.slice (some ⟨g, 0, none⟩) n n] X (fun e w' => ∃ x n2 m, e = .returned (.tuple #[.slice x n2 m, .bool bo]) ∧ Below X.heap.size X w') from by
    have h1 := decode_any L (some ⟨g, 0, none⟩) n X hLr (by omega) (by rw [hLn]; exact R)
    rw [hLn] at h1
    refine h1.mono fun e w' h2 => ?_
    rcases h2 with ⟨Rs, x, n2, m, h3, h4, _, h5⟩ | ⟨h3, h4, h5⟩
    · refine ⟨x, n2, m, ?_, h5⟩
      rw [h4, hbo, h3]
      rfl
    · refine ⟨none, 0, 0, ?_, h5⟩
      rw [h4, hbo, h3]
      rfl)
  rw [← hL, ← hbo]
  have HLN := hid_of hLn
  have hn64 : n ≤ 268435456 := by omega
  have HN64 := hid_of hn64
  have d0 : ¬ r < n := by omega
  have d5 : decide (r < n) = false := decide_eq_false d0
  have d1 : decide ((n : Int) > (r : Int)) = false := by simp; omega
  have d2 : decide ((r : Int) < (n : Int)) = false := by simp; omega
  have d3 : IntKind.u64.wrap (r : Int) = (r : Int) := IntWalk.u64_in _ (by omega)
  have d4 : IntKind.i64.wrap (n : Int) = (n : Int) := IntWalk.i64_in _ (by omega)
  clear h hb hg hc hhr hhl hql hr hno hq he0 hn hal hL hLn hLr hbo hn64
  go_enter Try.func37, Try.ntmps37
  go_wp2
  (go_region_with (first
    | (go_at_call 33; ((with_reducible refine (CR.out).mono ?_); (rintro e w3 ⟨⟨x, nn, cc, rfl, q1, q2⟩, q3⟩)); have h5 := (rd_cut q1).1; rw [by8_length] at h5; subst h5; have R3 := hid_of q1; have B3 := hid_of (show Below w.heap.size w w3 from (Below.refl _ _).drew.trans q2); clear q1 q2 q3)))
  all_goals go_wp2_with (first
    | (go_at_call 58; ((with_reducible refine (CL.out x cc w3 R3.out).mono ?_); (rintro e w4 ⟨rfl, q4⟩)); have B4 := hid_of (B3.out.trans (q4.mono B3.out.size)); clear q4)
    | (go_at_call 40; ((with_reducible refine (CM.out w4 B4.out).mono ?_); (rintro e w5 ⟨rfl, ⟨m5, rfl⟩⟩)); have B5 := hid_of (bel_drewN B4.out m5))
    | (go_at_call 59; ((with_reducible refine (CA.out _ B5.out).mono ?_); (rintro e w6 ⟨g, rfl, q1, q2, q3⟩)); have G6 := hid_of (Nat.le_trans B5.out.size q1); have W6 := hid_of q2; have B6 := hid_of (B5.out.trans (q3.mono B5.out.size)); have R6 := hid_of (show Rd w6 (.slice (some ⟨g, 0, none⟩) n n) (by8 L) from ⟨some ⟨g, 0, none⟩, n, by rw [by8_length, HLN.out], by rw [by8_length, HLN.out]; exact Nat.le_refl _, by have := HN64.out; omega, fun _ => ⟨g, 0, rfl, lt_of_block q2, fun i t ht => by rw [Nat.zero_add]; exact cell_blk q2 ht⟩⟩); clear q1 q2 q3)
    | (go_at_call 39; ((with_reducible refine (CD.out w6 g R6.out).mono ?_); (rintro e w7 ⟨x7, n7, m7, rfl, q1⟩)); have W7 := hid_of ((q1.block g (lt_of_block W6.out)).trans W6.out); have B7 := hid_of (B6.out.trans (q1.mono B6.out.size)); clear q1))
  all_goals go_ret2
  all_goals exact ⟨g, rfl, G6.out, W7.out, B7.out⟩
end
end Go.Proofs.Ytofmijebinnejaa

/- What is read as a number is written so. No condition. -/
namespace Go.Proofs.Ytofmijebinnejaa.Wr
open Go.RowKit

theorem decAt_canon : ∀ (f i acc : Nat) (l : List Int) (n k : Nat), f + i = 10 → (∀ y ∈ l, 0 ≤ y ∧ y ≤ 255) → decAt f i acc l = some (n, k) → ∃ q, n = acc + q * 128 ^ i ∧ i < k ∧ l.take (k - i) = enc q ∧ (0 < q ∨ i = 0) := by
  intro f
  induction f with
  | zero => intro i acc l n k _ _ h; cases h
  | succ f ih =>
    intro i acc l n k hf hr h
    cases l with
    | nil => cases h
    | cons y r =>
      have hy := hr y (by simp)
      rw [decAt] at h
      split at h
      · rename_i h128
        obtain ⟨q, h1, h2, h3, h4⟩ := ih (i + 1) _ r n k (by omega) (fun z hz => hr z (by simp [hz])) h
        have hq : 0 < q := by omega
        refine ⟨(y - 128).toNat + q * 128, ?_, by omega, ?_, Or.inl (by omega)⟩
        · rw [h1, Nat.add_mul, Nat.pow_succ, Nat.mul_assoc q 128, Nat.mul_comm 128 (128 ^ i)]
          omega
        · have hk : k - i = (k - (i + 1)) + 1 := by omega
          rw [hk, List.take_succ_cons, h3, enc_ge (n := (y - 128).toNat + q * 128) (by omega)]
          congr 1
          · omega
          · congr 1; omega
      · split at h
        · rename_i h128 hm
          simp only [Option.some.injEq, Prod.mk.injEq] at h
          obtain ⟨rfl, rfl⟩ := h
          refine ⟨y.toNat, rfl, by omega, ?_, ?_⟩
          · rw [show i + 1 - i = 1 by omega, enc_lt (by omega)]
            simp; omega
          · unfold mayEnd at hm
            by_cases h0 : i = 0
            · exact Or.inr h0
            · simp [h0] at hm
              left
              have := hm.1
              omega
        · cases h

theorem dec_canon {l : List Int} {n k : Nat} (hr : ∀ y ∈ l, 0 ≤ y ∧ y ≤ 255) (h : dec l = some (n, k)) : l.take k = enc n := by
  obtain ⟨q, h1, _, h3, _⟩ := decAt_canon 10 0 0 l n k (by omega) hr h
  have : n = q := by rw [h1]; simp
  rw [this]; simpa using h3
end Go.Proofs.Ytofmijebinnejaa.Wr

/- What the journal's operations do to a disk and to what its region holds, as mathematics. Bounds on sizes alone. -/
namespace Go.Proofs.Ytofmijebinnejaa
open Wr (enc decRun decRun_some dec dec_canon enc_length_pos enc_byte)
set_option maxRecDepth 100000

/-- A stream that was read is the stream of its records. -/
theorem recs_le {d : List Int} : ∀ {f o : Nat} {R : List (List Int)}, recsF d f o = some R → o ≤ d.length
  | 0, o, R, h => by cases h
  | f + 1, o, R, h => by
    by_cases ho : o ≤ d.length
    · exact ho
    · exfalso
      rw [recsF, if_neg (by omega), List.drop_eq_nil_of_le (by omega)] at h
      have : decRun [] = none := rfl
      rw [this] at h
      cases h
theorem recs_canon {d : List Int} (hr : ∀ y ∈ d, 0 ≤ y ∧ y ≤ 255) : ∀ {f o : Nat} {R : List (List Int)}, recsF d f o = some R → d.drop o = streamF R
  | 0, o, R, h => by cases h
  | f + 1, o, R, h => by
    rw [recsF] at h
    split at h
    · rename_i ho
      cases h
      rw [ho, List.drop_length]
      rfl
    · split at h
      · rename_i k n hd
        obtain ⟨R2, h2, rfl⟩ := Option.map_eq_some_iff.1 h
        have hle := recs_le h2
        obtain ⟨h3, _⟩ := decRun_some hd
        have h4 := dec_canon (fun y hy => hr y (List.mem_of_mem_drop hy)) h3
        have ih := recs_canon hr h2
        have hl : ((d.drop (o + k)).take n).length = n := by rw [List.length_take, List.length_drop]; omega
        rw [streamF_cons, hl, ← h4, ← ih, show o + k + n = (o + k) + n by omega, ← List.drop_drop (i := n), List.take_append_drop, ← List.drop_drop (i := k), List.take_append_drop]
      · cases h
theorem recs_whole {d : List Int} (hr : ∀ y ∈ d, 0 ≤ y ∧ y ≤ 255) {f : Nat} {R : List (List Int)} (h : recsF d f 0 = some R) : d = streamF R := by
  have := recs_canon hr h
  rwa [List.drop_zero] at this
theorem recs_of (R : List (List Int)) (hl : (streamF R).length < 18446744073709551616) : recsF (streamF R) ((streamF R).length + 1) 0 = some R := by
  have h := recs_stream R [] ((streamF R).length + 1) (fun x hx => by
    obtain ⟨i, hi⟩ := List.getElem?_of_mem hx
    have := rec_le hi
    omega) (by have := stream_len R; omega)
  simpa using h
/-- A region that a head and sectors give. -/
theorem hold_of {h : List Int} {c : Nat → List Int} {z k : Nat} {R : List (List Int)} (hh : hdF h = some (streamF R).length) (hk : (streamF R).length ≤ k * z) (hl : (streamF R).length < 18446744073709551616) (hc : ∀ i, i < k → (c i).length = z ∧ (c i).take ((streamF R).length - i * z) = ((streamF R).drop (i * z)).take z) : holdsF h (areaF c k) = some R := by
  have h1 := areaF_take (L := streamF R) k hc
  rw [List.take_of_length_le hk] at h1
  have h2 := areaF_len (c := c) (z := z) k fun i hi => (hc i hi).1
  rw [holds_hd, hh]
  show (if (streamF R).length ≤ (areaF c k).length then _ else _) = _
  rw [if_pos (by omega), h1]
  exact recs_of R hl
theorem hd_head {sz n : Nat} (hn : n < 18446744073709551616) : hdF (headF sz n) = some n := by
  have h : ∀ R0 : List Int, R0.length = n → holdsF (headF sz n) R0 = recsF (R0.take n) (n + 1) 0 := fun R0 h0 => holds_head hn (by omega)
  have e7 : enc 7 = [7] := Wr.enc_lt (by omega)
  have hz : ¬ zerosB (headF sz n) = true := by
    unfold headF headB zerosB
    rw [e7]
    simp
  have e1 : headF sz n = enc 7 ++ (jnT ++ (enc n ++ List.replicate (sz - (headB n).length) 0)) := by
    unfold headF
    rw [show headB n = enc 7 ++ (jnT ++ enc n) from rfl]
    simp [List.append_assoc]
  have e2 : decRun (headF sz n) = some (1, 7) := by
    rw [e1, decRun_enc 7 _ (by omega) (by simp [jnT]), e7]
    rfl
  have e3 : (headF sz n).drop 1 = jnT ++ (enc n ++ List.replicate (sz - (headB n).length) 0) := by
    rw [e1, e7]; rfl
  have e4 : (headF sz n).drop (1 + 7) = enc n ++ List.replicate (sz - (headB n).length) 0 := by
    rw [← List.drop_drop, e3]; rfl
  unfold hdF
  rw [if_neg hz, e2]
  simp only []
  rw [if_pos (by rw [e3]; rfl), e4, Wr.dec_enc n _ hn]
  simp only []
  rw [if_pos (by rw [← List.drop_drop, e4, List.drop_left]; exact all_zero _)]
theorem hd_zero (n : Nat) : hdF (List.replicate n 0) = some 0 := by
  unfold hdF
  rw [if_pos (show zerosB (List.replicate n 0) = true from all_zero n)]
theorem secL_agree (L : List Int) (sz k : Nat) : (secL L sz k).take (L.length - k * sz) = (L.drop (k * sz)).take sz := by
  unfold secL
  have h1 : ((L.drop (k * sz)).take sz).length = min sz (L.length - k * sz) := by simp
  rcases Nat.le_total sz (L.length - k * sz) with h | h
  · rw [show sz - ((L.drop (k * sz)).take sz).length = 0 by rw [h1]; omega, List.replicate_zero, List.append_nil, List.take_of_length_le (by rw [h1]; omega)]
  · rw [List.take_append_of_le_length (by rw [h1]; omega), List.take_of_length_le (by rw [h1]; omega)]
/-- The region's state between operations: nothing in the cache, the power on, the head names the stream's length, the area begins with it. -/
structure Good (M : DM) (fs ct : Nat) (d : List Int) : Prop where
  clean : M.cache = []
  on : M.off = false
  hd : hdF (M.secs.getD fs []) = some d.length
  ar : ∀ i, i < ct - 1 → (M.secs.getD (fs + 1 + i) []).take (d.length - i * M.sz) = (d.drop (i * M.sz)).take M.sz
/-- The region lies on the disk, and the stream fits it. -/
structure Fit (M : DM) (fs ct : Nat) (d : List Int) : Prop where
  ok : M.Ok
  reg : fs + ct ≤ M.secs.length ∧ 2 ≤ ct
  len : d.length ≤ (ct - 1) * M.sz
  sz : 16 ≤ M.sz
theorem Fit.bound {M : DM} {fs ct : Nat} {d : List Int} (h : Fit M fs ct d) : d.length ≤ 268435456 := by
  have h1 := h.ok.secs
  have h2 := h.ok.sz
  have h3 := h.reg
  have h4 := h.len
  have hm : (ct - 1) * M.sz ≤ 65536 * 4096 := Nat.mul_le_mul (by omega) h2
  omega
theorem sec_len {M : DM} (h : M.Ok) {s : Nat} (hs : s < M.secs.length) : (M.secs.getD s []).length = M.sz := by
  rw [List.getD_eq_getElem?_getD, List.getElem?_eq_getElem hs]
  exact h.con _ (List.getElem_mem hs)
theorem Good.holds {M : DM} {fs ct : Nat} {R : List (List Int)} (h : Good M fs ct (streamF R)) (f : Fit M fs ct (streamF R)) : holdsD M fs ct = some R := by
  have h1 := f.reg
  exact hold_of h.hd f.len (by have := f.bound; omega) fun i hi => ⟨sec_len f.ok (by omega), h.ar i hi⟩
theorem step_ok {M : DM} (h : (stepF M).1 = true) : (stepF M).2.off = false ∧ M.off = false := by
  unfold stepF at h ⊢
  split at h
  · cases h
  · rename_i hn
    rw [if_neg hn]
    have : M.off = false := by
      cases e : M.off
      · rfl
      · exact absurd (Or.inl e) hn
    exact ⟨this, this⟩
theorem write_ok {M : DM} {s : Int} {l : List Int} (h : (writeF M s l).1 = 0) : (writeF M s l).2.off = false ∧ (writeF M s l).2.secs = M.secs ∧ (writeF M s l).2.cache = M.cache ++ [(s.toNat, l)] ∧ (writeF M s l).2.sz = M.sz := by
  unfold writeF at h ⊢
  split
  · rename_i hn; rw [if_pos hn] at h; simp at h
  · rename_i hn
    rw [if_neg hn] at h
    split
    · rename_i hs; rw [if_pos hs] at h; simp at h
    · rename_i hs
      have hs2 : (stepF M).1 = true := by cases e : (stepF M).1; exact absurd e hs; rfl
      exact ⟨(step_ok hs2).1, (stepF_same M).2.1, rfl, (stepF_same M).1⟩
theorem sync_ok {M : DM} (h : (syncF M).1 = 0) : (syncF M).2.off = false ∧ (syncF M).2.secs = putF M.secs M.cache ∧ (syncF M).2.cache = [] ∧ (syncF M).2.sz = M.sz := by
  unfold syncF at h ⊢
  split
  · rename_i hs; rw [if_pos hs] at h; simp at h
  · rename_i hs
    have hs2 : (stepF M).1 = true := by cases e : (stepF M).1; exact absurd e hs; rfl
    exact ⟨(step_ok hs2).1, rfl, rfl, (stepF_same M).1⟩
theorem may_clean {M : DM} (h : M.cache = []) (s : Nat) : mayF M s = [M.secs.getD s []] := by rw [mayF, h]; rfl
theorem clean_may {M : DM} (h : M.cache = []) {s : Nat} {l : List Int} {x : List (List Int)} (e : mayF M s = x ++ [l]) : M.secs.getD s [] = l := by
  rw [may_clean h] at e
  cases x with
  | nil => simpa using e
  | cons a r => simp at e
/-- The head is written and synced. -/
theorem com_true {M : DM} {fs n : Nat} (hc : M.cache = []) (h : (comF M fs n).1 = true) : (comF M fs n).2.off = false ∧ (comF M fs n).2.secs = M.secs.set fs (headF M.sz n) ∧ (comF M fs n).2.cache = [] ∧ (comF M fs n).2.sz = M.sz := by
  unfold comF at h ⊢
  split
  · rename_i hw
    rw [if_pos hw] at h
    have hs : (syncF (writeF M fs (headF M.sz n)).2).1 = 0 := by simpa using h
    obtain ⟨a1, a2, a3, a4⟩ := write_ok hw
    obtain ⟨b1, b2, b3, b4⟩ := sync_ok hs
    refine ⟨b1, ?_, b3, b4.trans a4⟩
    show (syncF (writeF M fs (headF M.sz n)).2).2.secs = _
    rw [b2, a2, a3, hc]
    rfl
  · rename_i hw
    rw [if_neg hw] at h
    cases h
theorem com_false {M : DM} {fs n : Nat} (hc : M.cache = []) (h : (comF M fs n).1 = false) : ∀ s, mayF (comF M fs n).2 s = [M.secs.getD s []] ∨ (s = fs ∧ mayF (comF M fs n).2 s = [M.secs.getD s [], headF M.sz n]) := fun s => by
  unfold comF at h ⊢
  split
  · rename_i hw
    rw [if_pos hw] at h
    have hs : ¬ (syncF (writeF M fs (headF M.sz n)).2).1 = 0 := by simpa using h
    show mayF (syncF (writeF M fs (headF M.sz n)).2).2 s = _ ∨ _
    rw [may_sync_ne hs, (may_write hw).2 s, may_clean hc]
    by_cases e : s = fs
    · right
      rw [if_pos (by rw [e]; rfl)]
      exact ⟨e, rfl⟩
    · left
      rw [if_neg (by rw [Int.toNat_natCast]; exact e)]
  · rename_i hw
    left
    show mayF (writeF M fs (headF M.sz n)).2 s = _
    rw [may_write_ne hw, may_clean hc]
/-- The writes of fill. -/
theorem fil_may {M : DM} {fs : Nat} {L : List Int} {st : Nat} (hc : M.cache = []) : ∀ i, (∀ s, mayF (filF M fs L st i).2 s = [M.secs.getD s []] ∨ ∃ j, s = fs + 1 + j ∧ st ≤ j ∧ j < st + i ∧ mayF (filF M fs L st i).2 s = [M.secs.getD s [], secL L M.sz j]) ∧ ((filF M fs L st i).1 = true → ∀ j, st ≤ j → j < st + i → mayF (filF M fs L st i).2 (fs + 1 + j) = [M.secs.getD (fs + 1 + j) [], secL L M.sz j])
  | 0 => ⟨fun s => Or.inl (may_clean hc s), fun _ j h1 h2 => by omega⟩
  | i + 1 => by
    obtain ⟨ih1, ih2⟩ := fil_may hc (L := L) (fs := fs) (st := st) i
    by_cases h : (filF M fs L st i).1 = true
    · by_cases hw : (writeF (filF M fs L st i).2 (fs + 1 + (st + i) : Nat) (secL L M.sz (st + i))).1 = 0
      · rw [filF_good h hw]
        have hm := (may_write hw).2
        have hold : mayF (filF M fs L st i).2 (fs + 1 + (st + i)) = [M.secs.getD (fs + 1 + (st + i)) []] := by
          rcases ih1 (fs + 1 + (st + i)) with e | ⟨j, h1, _, h3, _⟩
          · exact e
          · omega
        have hnew : mayF (writeF (filF M fs L st i).2 (fs + 1 + (st + i) : Nat) (secL L M.sz (st + i))).2 (fs + 1 + (st + i)) = [M.secs.getD (fs + 1 + (st + i)) [], secL L M.sz (st + i)] := by
          rw [hm, if_pos (by rw [Int.toNat_natCast]), hold]
          rfl
        refine ⟨fun s => ?_, fun _ j h1 h2 => ?_⟩
        · by_cases e : s = fs + 1 + (st + i)
          · subst e
            exact Or.inr ⟨st + i, rfl, by omega, by omega, hnew⟩
          · show mayF (writeF (filF M fs L st i).2 (fs + 1 + (st + i) : Nat) (secL L M.sz (st + i))).2 s = _ ∨ _
            rw [hm, if_neg (by rw [Int.toNat_natCast]; exact e)]
            rcases ih1 s with e1 | ⟨j, h1, h2, h3, h4⟩
            · exact Or.inl e1
            · exact Or.inr ⟨j, h1, h2, by omega, h4⟩
        · by_cases e : j = st + i
          · subst e
            exact hnew
          · show mayF (writeF (filF M fs L st i).2 (fs + 1 + (st + i) : Nat) (secL L M.sz (st + i))).2 _ = _
            rw [hm, if_neg (by rw [Int.toNat_natCast]; omega)]
            exact ih2 h j h1 (by omega)
      · rw [show filF M fs L st (i + 1) = _ from filF_bad h hw 0]
        refine ⟨fun s => ?_, fun h9 => by cases h9⟩
        show mayF (writeF (filF M fs L st i).2 (fs + 1 + (st + i) : Nat) (secL L M.sz (st + i))).2 s = _ ∨ _
        rw [may_write_ne hw]
        rcases ih1 s with e1 | ⟨j, h1, h2, h3, h4⟩
        · exact Or.inl e1
        · exact Or.inr ⟨j, h1, h2, by omega, h4⟩
    · have e0 : filF M fs L st (i + 1) = filF M fs L st i := by rw [filF, if_neg h]
      rw [e0]
      refine ⟨fun s => ?_, fun h9 => absurd h9 h⟩
      rcases ih1 s with e1 | ⟨j, h1, h2, h3, h4⟩
      · exact Or.inl e1
      · exact Or.inr ⟨j, h1, h2, by omega, h4⟩
theorem fil_rest {M : DM} {fs : Nat} {L : List Int} {st n s : Nat} (hc : M.cache = []) (hs : ∀ j, st ≤ j → j < st + n → s ≠ fs + 1 + j) : mayF (filF M fs L st n).2 s = [M.secs.getD s []] := by
  rcases (fil_may hc n).1 s with e | ⟨j, h1, h2, h3, _⟩
  · exact e
  · exact absurd h1 (hs j h2 h3)
/-- All of fill went well. -/
theorem fill_true {M : DM} {fs : Nat} {L : List Int} {st n : Nat} (hc : M.cache = []) (hn : ∀ j, st ≤ j → j < st + n → fs + 1 + j < M.secs.length) (h : (fillF M fs L st n).1 = true) : (fillF M fs L st n).2.off = false ∧ (fillF M fs L st n).2.cache = [] ∧ (fillF M fs L st n).2.sz = M.sz ∧ (∀ j, st ≤ j → j < st + n → (fillF M fs L st n).2.secs.getD (fs + 1 + j) [] = secL L M.sz j) ∧ (∀ s, s < M.secs.length → (∀ j, st ≤ j → j < st + n → s ≠ fs + 1 + j) → (fillF M fs L st n).2.secs.getD s [] = M.secs.getD s []) := by
  unfold fillF at h ⊢
  split
  · rename_i hf
    rw [if_pos hf] at h
    have hs : (syncF (filF M fs L st n).2).1 = 0 := by simpa using h
    obtain ⟨b1, b2, b3, b4⟩ := sync_ok hs
    have hse := (filF_same M fs L st n).1
    refine ⟨b1, b3, b4.trans (filF_same M fs L st n).2.1, fun j h1 h2 => ?_, fun s h1 h2 => ?_⟩
    · have e := may_sync hs (s := fs + 1 + j) (by rw [hse]; exact hn j h1 h2)
      have e2 := (fil_may hc n).2 hf j h1 h2
      refine clean_may (x := []) b3 (e.trans ?_)
      simp only [e2]
      rfl
    · have e := may_sync hs (s := s) (by rw [hse]; exact h1)
      have e2 := fil_rest (L := L) hc h2
      refine clean_may (x := []) b3 (e.trans ?_)
      simp only [e2]
      rfl
  · rename_i hf
    rw [if_neg hf] at h
    exact absurd h hf
theorem fill_false {M : DM} {fs : Nat} {L : List Int} {st n : Nat} (hc : M.cache = []) (h : (fillF M fs L st n).1 = false) (s : Nat) : mayF (fillF M fs L st n).2 s = [M.secs.getD s []] ∨ ∃ j, s = fs + 1 + j ∧ mayF (fillF M fs L st n).2 s = [M.secs.getD s [], secL L M.sz j] := by
  have hk : ∀ s, mayF (filF M fs L st n).2 s = [M.secs.getD s []] ∨ ∃ j, s = fs + 1 + j ∧ mayF (filF M fs L st n).2 s = [M.secs.getD s [], secL L M.sz j] := fun s => by
    rcases (fil_may hc n).1 s with e | ⟨j, h1, _, _, h4⟩
    · exact Or.inl e
    · exact Or.inr ⟨j, h1, h4⟩
  unfold fillF at h ⊢
  split
  · rename_i hf
    rw [if_pos hf] at h
    have hs : ¬ (syncF (filF M fs L st n).2).1 = 0 := by simpa using h
    show mayF (syncF (filF M fs L st n).2).2 s = _ ∨ _
    rw [may_sync_ne hs]
    exact hk s
  · exact hk s
end Go.Proofs.Ytofmijebinnejaa

/- The journal's Open. Bounds on sizes alone. -/
namespace Go.Proofs.Ytofmijebinnejaa
open Go.RowKit
set_option maxRecDepth 100000
set_option maxHeartbeats 6400000

abbrev jnew (b fs ct : Nat) : Obj := .cells #[.pointer (some ⟨b, 0, none⟩), .int .i64 fs, .int .i64 ct, .slice none 0 0, .bool true] 71
theorem jk_new {S : Nat → Prop} {X : World} {b : Nat} {M : DM} {fs ct : Nat} (D : IG.DS S X b M) (hlt : ∀ k, S k → k < X.heap.size) (hreg : fs + ct ≤ M.secs.length ∧ 2 ≤ ct) (hz : 16 ≤ M.sz) : JK (fun k => S k ∨ k = X.heap.size) S (X.alloc (jnew b fs ct)) X.heap.size b M fs ct [] true (.slice none 0 0) :=
  ⟨Or.inr rfl, fun k hk => Or.inl hk, fun h => Nat.lt_irrefl _ (hlt _ h), heap_alloc_new X _, IG.keep D ⟨by simp, fun k hk hl => (bel_alloc X _).block k (hlt k hk)⟩, World.ownsRow_nil _ _ _ _, fun k hk => by simp [Value.ownBlock] at hk, hreg, Nat.zero_le _, hz⟩
/-- A row that a call has just made is owned. -/
theorem own_row {w : World} {B g n : Nat} {l : List Int} (hB : B ≤ g) (h : w.heap[g]? = some (.cells (by8 l).toArray 5 (0, 0))) (hn : l.length = n) (hl : n ≤ 1000000000) : w.ownsRow B 5 1 (.slice (some ⟨g, 0, none⟩) n n) n (by8 l) := by
  subst hn
  exact ⟨by rw [by8_length, Nat.mul_one], .inr ⟨_, _, _, rfl, hB, h, Nat.le_refl _, by unfold maxLen; omega, by simp [by8_length], by simp only [Nat.mul_one]; exact List.take_of_length_le (by rw [by8_length]; exact Nat.le_refl _)⟩⟩
section
variable (S : Nat → Prop) (w : World) (b : Nat) (M : DM)
/-- Open of a region that is none. -/
theorem open_arg (first count : Int) (h1 : R64 first) (h2 : R64 count) (h : IG.DS S w b M) (hno : ¬ (2 ≤ count ∧ 0 ≤ first ∧ count ≤ M.secs.length - first)) :
    Calls Try.prog 15 #[.pointer (some ⟨b, 0, none⟩), .int .i64 first, .int .i64 count] w fun e w' => e = .returned (.tuple #[.pointer none, .int .i64 1]) ∧ Below w.heap.size w w' := by
  have hs := (IG.ok h).secs
  have CS := hid_of (IG.sectors h)
  obtain ⟨n, hn⟩ : ∃ n, n = M.secs.length := ⟨_, rfl⟩
  rw [← hn] at hs hno CS
  clear h hn
  by_cases c1 : count < 2
  · have d1 : decide (count < 2) = true := decide_eq_true c1
    clear hno CS
    go_enter Try.func15, Try.ntmps15
    go_wp2
    go_ret2
    exact ⟨rfl, Below.refl _ _⟩
  · have d1 : decide (count < 2) = false := decide_eq_false c1
    by_cases c2 : first < 0
    · have d2 : decide (first < 0) = true := decide_eq_true c2
      clear hno CS
      go_enter Try.func15, Try.ntmps15
      go_wp2
      go_ret2
      exact ⟨rfl, Below.refl _ _⟩
    · have d2 : decide (first < 0) = false := decide_eq_false c2
      have d3 : IntKind.i64.wrap ((n : Int) - first) = (n : Int) - first := IntWalk.i64_in _ (by omega)
      have c4 : (n : Int) - first < count := by omega
      have d4 : decide (count > (n : Int) - first) = true := decide_eq_true c4
      have d5 : decide ((n : Int) - first < count) = true := decide_eq_true c4
      clear hno hs
      go_enter Try.func15, Try.ntmps15
      go_wp2_with (first
        | (go_at_call 36; ((with_reducible refine (CS.out).mono ?_); (rintro e w1 ⟨rfl, q1⟩)); have B1 := hid_of q1; clear q1))
      go_ret2
      exact ⟨rfl, B1.out⟩
variable (fs ct : Nat)
/-- Open of a disk without power. -/
theorem open_off (h : IG.DS S w b M) (hlt : ∀ k, S k → k < w.heap.size) (hreg : fs + ct ≤ M.secs.length ∧ 2 ≤ ct) (ho : M.off = true) :
    Calls Try.prog 15 #[.pointer (some ⟨b, 0, none⟩), .int .i64 fs, .int .i64 ct] w fun e w' => e = .returned (.tuple #[.pointer none, .int .i64 8]) ∧ Below w.heap.size w w' := by
  have hs := (IG.ok h).secs
  have CS := hid_of (IG.sectors h)
  have CD := hid_of (fun (X : World) (hX : Below w.heap.size w X) => IG.downQ (IG.keep h ⟨hX.size, fun k hk _ => hX.block k (hlt k hk)⟩))
  rw [ho] at CD
  obtain ⟨n, hn⟩ : ∃ n, n = M.secs.length := ⟨_, rfl⟩
  rw [← hn] at hs hreg CS
  have d3 : IntKind.i64.wrap ((n : Int) - (fs : Int)) = (n : Int) - (fs : Int) := IntWalk.i64_in _ (by omega)
  have c1 : ¬ (ct : Int) < 2 := by omega
  have c2 : ¬ (fs : Int) < 0 := by omega
  have c4 : ¬ (n : Int) - (fs : Int) < (ct : Int) := by omega
  have d1 : decide ((ct : Int) < 2) = false := decide_eq_false c1
  have d2 : decide ((fs : Int) < 0) = false := decide_eq_false c2
  have d4 : decide ((ct : Int) > (n : Int) - (fs : Int)) = false := decide_eq_false c4
  have d5 : decide ((n : Int) - (fs : Int) < (ct : Int)) = false := decide_eq_false c4
  clear h hn hlt hreg hs ho
  go_enter Try.func15, Try.ntmps15
  go_wp2_with (first
    | (go_at_call 36; ((with_reducible refine (CS.out).mono ?_); (rintro e w1 ⟨rfl, q1⟩)); have B1 := hid_of q1; clear q1)
    | (go_at_call 31; ((with_reducible refine (CD.out w1 B1.out).mono ?_); (rintro e w2 ⟨rfl, ⟨m2, rfl⟩⟩))))
  go_ret2
  exact ⟨rfl, bel_drewN B1.out _⟩
/-- Open of a region that holds no list. -/
theorem open_no (h : IG.DS S w b M) (hlt : ∀ k, S k → k < w.heap.size) (hreg : fs + ct ≤ M.secs.length ∧ 2 ≤ ct) (ho : M.off = false) (hz : 16 ≤ M.sz) (hg : RdOk M fs ct) (hc : M.cache.length ≤ 1000000) (hno : holdsF (headC M fs) (areaC M fs ct) = none) :
    Calls Try.prog 15 #[.pointer (some ⟨b, 0, none⟩), .int .i64 fs, .int .i64 ct] w fun e w' => e = .returned (.tuple #[.pointer none, .int .i64 12]) ∧ Below w.heap.size w w' := by
  have hs := (IG.ok h).secs
  have CS := hid_of (IG.sectors h)
  have CD := hid_of (fun (X : World) (hX : Below w.heap.size w X) => IG.downQ (IG.keep h ⟨hX.size, fun k hk _ => hX.block k (hlt k hk)⟩))
  rw [ho] at CD
  have CL := hid_of (fun (X : World) (jb : Nat) (hj : jb = X.heap.size) (hX : Below w.heap.size w X) => show Calls Try.prog 37 #[.pointer (some ⟨jb, 0, none⟩)] (X.alloc (jnew b fs ct)) (fun e w' => ∃ x n m, e = .returned (.tuple #[.slice x n m, .bool false]) ∧ Below X.heap.size X w') from by
    subst hj
    have hl2 : ∀ k, S k → k < X.heap.size := fun k hk => Nat.lt_of_lt_of_le (hlt k hk) hX.size
    have J := jk_new (X := X) (fs := fs) (ct := ct) (IG.keep h ⟨hX.size, fun k hk _ => hX.block k (hlt k hk)⟩) hl2 hreg hz
    have hl3 : ∀ k, (S k ∨ k = X.heap.size) → k < (X.alloc (jnew b fs ct)).heap.size := fun k hk => by
      have sa : (X.alloc (jnew b fs ct)).heap.size = X.heap.size + 1 := by simp
      rw [sa]
      rcases hk with hk | hk
      · have := hl2 k hk; omega
      · omega
    have ba := bel_alloc X (jnew b fs ct)
    rw [holds_hd] at hno
    cases hd : hdF (headC M fs) with
    | none => exact (load_no _ _ _ _ _ _ _ _ _ _ _ J hl3 hg hc (Or.inl hd)).mono fun e w' ⟨q1, q2⟩ => ⟨_, _, _, q1, ba.trans (q2.mono (by simp))⟩
    | some n =>
      by_cases hn : n ≤ (ct - 1) * M.sz
      · refine (load_yes _ _ _ _ _ _ _ _ _ _ _ J hl3 hg hc n hd hn).mono fun e w' ⟨g, q1, q2, q3, q4⟩ => ⟨some ⟨g, 0, none⟩, n, n, ?_, ba.trans (q4.mono (by simp))⟩
        rw [hd] at hno
        have h9 : recsF ((areaC M fs ct).take n) (n + 1) 0 = none := by
          have h8 : (if n ≤ (areaC M fs ct).length then recsF ((areaC M fs ct).take n) (n + 1) 0 else none) = none := hno
          rwa [if_pos (by rw [hg.al]; exact hn)] at h8
        rw [q1, h9]
        rfl
      · exact (load_no _ _ _ _ _ _ _ _ _ _ _ J hl3 hg hc (Or.inr ⟨n, hd, by omega⟩)).mono fun e w' ⟨q1, q2⟩ => ⟨_, _, _, q1, ba.trans (q2.mono (by simp))⟩)
  obtain ⟨n, hn⟩ : ∃ n, n = M.secs.length := ⟨_, rfl⟩
  rw [← hn] at hs hreg CS
  have d3 : IntKind.i64.wrap ((n : Int) - (fs : Int)) = (n : Int) - (fs : Int) := IntWalk.i64_in _ (by omega)
  have c1 : ¬ (ct : Int) < 2 := by omega
  have c2 : ¬ (fs : Int) < 0 := by omega
  have c4 : ¬ (n : Int) - (fs : Int) < (ct : Int) := by omega
  have d1 : decide ((ct : Int) < 2) = false := decide_eq_false c1
  have d2 : decide ((fs : Int) < 0) = false := decide_eq_false c2
  have d4 : decide ((ct : Int) > (n : Int) - (fs : Int)) = false := decide_eq_false c4
  have d5 : decide ((n : Int) - (fs : Int) < (ct : Int)) = false := decide_eq_false c4
  clear h hn hlt hreg hs ho hz hg hc hno
  go_enter Try.func15, Try.ntmps15
  go_wp2_with (first
    | (go_at_call 36; ((with_reducible refine (CS.out).mono ?_); (rintro e w1 ⟨rfl, q1⟩)); have B1 := hid_of q1; clear q1)
    | (go_at_call 31; ((with_reducible refine (CD.out w1 B1.out).mono ?_); (rintro e w2 ⟨rfl, ⟨m2, rfl⟩⟩)); have B2 := hid_of (bel_drewN B1.out m2))
    | (go_at_call 37; go_loud (((with_reducible refine (CL.out (w1.drewN m2) w1.heap.size rfl B2.out).mono ?_); (rintro e w3 ⟨x3, n3, m3, rfl, q1⟩))); have B3 := hid_of (B2.out.trans (q1.mono B2.out.size)); clear q1))
  go_ret2
  exact ⟨rfl, B3.out⟩
/-- Open of a region that holds a list. -/
theorem open_yes (h : IG.DS S w b M) (hlt : ∀ k, S k → k < w.heap.size) (hreg : fs + ct ≤ M.secs.length ∧ 2 ≤ ct) (ho : M.off = false) (hz : 16 ≤ M.sz) (hg : RdOk M fs ct) (hc : M.cache.length ≤ 1000000) (R : List (List Int)) (hy : holdsF (headC M fs) (areaC M fs ct) = some R) :
    Calls Try.prog 15 #[.pointer (some ⟨b, 0, none⟩), .int .i64 fs, .int .i64 ct] w fun e w' => ∃ jb vs, e = .returned (.tuple #[.pointer (some ⟨jb, 0, none⟩), .int .i64 0]) ∧ JK (Nw S w w') S w' jb b M fs ct (streamF R) true vs ∧ Below w.heap.size w w' := by
  have hs := (IG.ok h).secs
  have CS := hid_of (IG.sectors h)
  have CD := hid_of (fun (X : World) (hX : Below w.heap.size w X) => IG.downQ (IG.keep h ⟨hX.size, fun k hk _ => hX.block k (hlt k hk)⟩))
  rw [ho] at CD
  obtain ⟨n, hd, hnl, hrec⟩ : ∃ n, hdF (headC M fs) = some n ∧ n ≤ (ct - 1) * M.sz ∧ recsF ((areaC M fs ct).take n) (n + 1) 0 = some R := by
    rw [holds_hd] at hy
    cases hd : hdF (headC M fs) with
    | none => rw [hd] at hy; cases hy
    | some n =>
      rw [hd] at hy
      have h8 : (if n ≤ (areaC M fs ct).length then recsF ((areaC M fs ct).take n) (n + 1) 0 else none) = some R := hy
      split at h8
      · rename_i h7; exact ⟨n, rfl, by rw [← hg.al]; exact h7, h8⟩
      · cases h8
  have hd2 : (areaC M fs ct).take n = streamF R := recs_whole (fun y hy => hg.ar y (List.mem_of_mem_take hy)) hrec
  have hdl : (streamF R).length = n := by rw [← hd2, List.length_take, hg.al]; omega
  have hn9 : n ≤ 268435456 := by
    have h1 := (IG.ok h).sz
    have hm : (ct - 1) * M.sz ≤ 65536 * 4096 := Nat.mul_le_mul (by omega) h1
    omega
  have CL := hid_of (fun (X : World) (jb : Nat) (hj : jb = X.heap.size) (hX : Below w.heap.size w X) => show Calls Try.prog 37 #[.pointer (some ⟨jb, 0, none⟩)] (X.alloc (jnew b fs ct)) (fun e w' => ∃ g, e = .returned (.tuple #[.slice (some ⟨g, 0, none⟩) n n, .bool true]) ∧ Below w.heap.size w w' ∧ w'.heap[jb]? = some (jnew b fs ct) ∧ JK (Nw S w w') S (w'.setCell ⟨jb, 3, none⟩ (.slice (some ⟨g, 0, none⟩) n n)) jb b M fs ct (streamF R) true (.slice (some ⟨g, 0, none⟩) n n)) from by
    subst hj
    have hl2 : ∀ k, S k → k < X.heap.size := fun k hk => Nat.lt_of_lt_of_le (hlt k hk) hX.size
    have J := jk_new (X := X) (fs := fs) (ct := ct) (IG.keep h ⟨hX.size, fun k hk _ => hX.block k (hlt k hk)⟩) hl2 hreg hz
    have hl3 : ∀ k, (S k ∨ k = X.heap.size) → k < (X.alloc (jnew b fs ct)).heap.size := fun k hk => by
      have sa : (X.alloc (jnew b fs ct)).heap.size = X.heap.size + 1 := by simp
      rw [sa]
      rcases hk with hk | hk
      · have := hl2 k hk; omega
      · omega
    have ba := bel_alloc X (jnew b fs ct)
    have sa : (X.alloc (jnew b fs ct)).heap.size = X.heap.size + 1 := by simp
    refine (load_yes _ _ _ _ _ _ _ _ _ _ _ J hl3 hg hc n hd hnl).mono fun e w' ⟨g, q1, q2, q3, q4⟩ => ⟨g, ?_, hX.trans ((ba.trans (q4.mono (by simp))).mono hX.size), (q4.block _ (by omega)).trans (heap_alloc_new X _), ?_⟩
    · rw [q1, hrec]
      rfl
    · have hsz := q4.size
      have hXs := hX.size
      have J2 := (J.keep (w' := w') ⟨q4.size, fun k hk hl => q4.block k hl⟩).mono (T := Nw S w w') fun k hk => by
        rcases hk with hk | hk
        · exact Or.inl hk
        · exact Or.inr ⟨by omega, by omega⟩
      rw [hd2] at q3
      have hgl := lt_of_block q3
      have O := own_row (B := 0) (Nat.zero_le _) q3 hdl (by omega)
      rw [← hdl] at O ⊢
      refine J2.stream O (fun k hk => ?_) (by rw [hdl]; exact hnl)
      have hk2 : k = g := by simpa [Value.ownBlock] using hk.symm
      subst hk2
      exact ⟨Or.inr ⟨by omega, hgl⟩, by omega, fun h9 => by have := hl2 _ h9; omega⟩)
  obtain ⟨n0, hn0⟩ : ∃ n, n = M.secs.length := ⟨_, rfl⟩
  rw [← hn0] at hs hreg CS
  have d3 : IntKind.i64.wrap ((n0 : Int) - (fs : Int)) = (n0 : Int) - (fs : Int) := IntWalk.i64_in _ (by omega)
  have c1 : ¬ (ct : Int) < 2 := by omega
  have c2 : ¬ (fs : Int) < 0 := by omega
  have c4 : ¬ (n0 : Int) - (fs : Int) < (ct : Int) := by omega
  have d1 : decide ((ct : Int) < 2) = false := decide_eq_false c1
  have d2 : decide ((fs : Int) < 0) = false := decide_eq_false c2
  have d4 : decide ((ct : Int) > (n0 : Int) - (fs : Int)) = false := decide_eq_false c4
  have d5 : decide ((n0 : Int) - (fs : Int) < (ct : Int)) = false := decide_eq_false c4
  clear h hlt hreg hs ho hz hg hc hy hrec hd hnl hd2 hdl hn9 hn0
  go_enter Try.func15, Try.ntmps15
  go_wp2_with (first
    | (go_at_call 36; ((with_reducible refine (CS.out).mono ?_); (rintro e w1 ⟨rfl, q1⟩)); have B1 := hid_of q1; clear q1)
    | (go_at_call 31; ((with_reducible refine (CD.out w1 B1.out).mono ?_); (rintro e w2 ⟨rfl, ⟨m2, rfl⟩⟩)); have B2 := hid_of (bel_drewN B1.out m2))
    | (go_at_call 37; go_loud (((with_reducible refine (CL.out (w1.drewN m2) w1.heap.size rfl B2.out).mono ?_); (rintro e w3 ⟨g3, rfl, q1, q2, q3⟩))); have B3 := hid_of q1; have J3 := hid_of q3; have f3 : w3.frozen? ⟨w1.heap.size, 3, none⟩ = false := fr_blk q2 3; have y3 : w3.cell? ⟨w1.heap.size, 3, none⟩ = some (.slice none 0 0) := cell_blk (j := 3) q2 rfl; clear q1 q2 q3))
  go_ret2
  exact ⟨_, _, rfl, J3.out.mono (fun k hk => by rcases hk with hk | hk; exact Or.inl hk; exact Or.inr ⟨hk.1, by simpa using hk.2⟩), B3.out.setCell B1.out.size _⟩
end
end Go.Proofs.Ytofmijebinnejaa

/- What the journal's operations do to its region, as mathematics: success, interruption, no failure at all. Bounds on sizes alone. -/
namespace Go.Proofs.Ytofmijebinnejaa
open Wr (enc decRun decRun_some dec dec_canon enc_length_pos enc_byte)
set_option maxRecDepth 100000

/-- Every sector of the area is, as far as the stream goes, the stream's. -/
def Agr (M : DM) (fs ct : Nat) (d : List Int) : Prop := ∀ i, i < ct - 1 → (M.secs.getD (fs + 1 + i) []).take (d.length - i * M.sz) = (d.drop (i * M.sz)).take M.sz
theorem agr_old {M : DM} {fs ct : Nat} {d T : List Int} (h : Agr M fs ct (d ++ T)) : Agr M fs ct d := fun i hi => agree_pre (h i hi)
/-- The sectors below those that are written are full of the old stream. -/
theorem agr_low {c d T : List Int} {i z : Nat} (hc : c.length = z) (h : c.take (d.length - i * z) = (d.drop (i * z)).take z) (hi : (i + 1) * z ≤ d.length) : c.take ((d ++ T).length - i * z) = ((d ++ T).drop (i * z)).take z := by
  rw [Nat.succ_mul] at hi
  obtain ⟨p, hp⟩ : ∃ p, p = i * z := ⟨_, rfl⟩
  rw [← hp] at h hi ⊢
  rw [List.take_of_length_le (by omega)] at h
  rw [List.take_of_length_le (by rw [List.length_append]; omega), List.drop_append_of_le_length (by omega), List.take_append_of_le_length (by rw [List.length_drop]; omega)]
  exact h
theorem agr_high {c L : List Int} {i z : Nat} (hi : L.length ≤ i * z) : c.take (L.length - i * z) = (L.drop (i * z)).take z := by
  rw [show L.length - i * z = 0 by omega, List.take_zero, List.drop_eq_nil_of_le hi, List.take_nil]
section
variable {M : DM} {fs ct : Nat} {d T : List Int}
theorem fil_range (f : Fit M fs ct d) (hL : (d ++ T).length ≤ (ct - 1) * M.sz) : d.length / M.sz + (((d ++ T).length + M.sz - 1) / M.sz - d.length / M.sz) = ((d ++ T).length + M.sz - 1) / M.sz ∧ ((d ++ T).length + M.sz - 1) / M.sz ≤ ct - 1 ∧ (d ++ T).length ≤ ((d ++ T).length + M.sz - 1) / M.sz * M.sz := by
  have hz := f.sz
  have h1 := need_le (z := M.sz) (l := (d ++ T).length) (k := d.length) (by omega) (by rw [List.length_append]; omega)
  have a1 : ((d ++ T).length + M.sz - 1) / M.sz ≤ ((ct - 1) * M.sz + M.sz - 1) / M.sz := Nat.div_le_div_right (by omega)
  have hr := f.reg
  have a2 : ((ct - 1) * M.sz + M.sz - 1) / M.sz = ct - 1 := by
    rw [show (ct - 1) * M.sz + M.sz - 1 = M.sz * (ct - 1) + (M.sz - 1) by rw [Nat.mul_comm]; omega, Nat.mul_add_div (by omega), Nat.div_eq_of_lt (by omega)]
    omega
  have h2 := Nat.div_add_mod ((d ++ T).length + M.sz - 1) M.sz
  have h3 := Nat.mod_lt ((d ++ T).length + M.sz - 1) (show 0 < M.sz by omega)
  refine ⟨by omega, by omega, ?_⟩
  rw [Nat.mul_comm]
  omega
/-- All of fill, as Append calls it: the area then begins with the whole stream. -/
theorem filA_true (g : Good M fs ct d) (f : Fit M fs ct d) (hL : (d ++ T).length ≤ (ct - 1) * M.sz) (h : (filA M fs d (d ++ T)).1 = true) : (filA M fs d (d ++ T)).2.off = false ∧ (filA M fs d (d ++ T)).2.cache = [] ∧ (filA M fs d (d ++ T)).2.sz = M.sz ∧ (∀ s, s < M.secs.length → s ≤ fs ∨ fs + ct ≤ s → (filA M fs d (d ++ T)).2.secs.getD s [] = M.secs.getD s []) ∧ Agr (filA M fs d (d ++ T)).2 fs ct (d ++ T) := by
  obtain ⟨r1, r2, r3⟩ := fil_range f hL
  have hreg := f.reg
  have hz := f.sz
  have hdm := Nat.div_add_mod d.length M.sz
  obtain ⟨st, hst⟩ : ∃ st, st = d.length / M.sz := ⟨_, rfl⟩
  obtain ⟨n, hn⟩ : ∃ n, n = ((d ++ T).length + M.sz - 1) / M.sz - d.length / M.sz := ⟨_, rfl⟩
  obtain ⟨q, hq⟩ : ∃ q, q = ((d ++ T).length + M.sz - 1) / M.sz := ⟨_, rfl⟩
  unfold filA at h ⊢
  rw [← hn] at r1 h ⊢
  rw [← hst] at r1 hdm h ⊢
  rw [← hq] at r1 r2 r3
  obtain ⟨t1, t2, t3, t4, t5⟩ := fill_true (L := d ++ T) g.clean (fun j h1 h2 => by omega) h
  refine ⟨t1, t2, t3, fun s h1 h2 => t5 s h1 fun j h3 h4 => by omega, fun i hi => ?_⟩
  rw [t3]
  by_cases c1 : i < st
  · rw [t5 _ (by omega) fun j h3 h4 => by omega]
    refine agr_low (sec_len f.ok (by omega)) (g.ar i hi) (Nat.le_trans (Nat.mul_le_mul_right _ c1) ?_)
    rw [Nat.mul_comm]
    omega
  · by_cases c2 : i < q
    · rw [t4 i (by omega) (by omega)]
      exact secL_agree _ _ _
    · exact agr_high (Nat.le_trans r3 (Nat.mul_le_mul_right _ (by omega)))
theorem getD_set {S : List (List Int)} {s : Nat} {l : List Int} (h : s < S.length) : (S.set s l).getD s [] = l := by
  rw [List.getD_eq_getElem?_getD, List.getElem?_set_self h]; rfl
theorem getD_ne {S : List (List Int)} {s t : Nat} {l : List Int} (h : s ≠ t) : (S.set s l).getD t [] = S.getD t [] := by
  rw [List.getD_eq_getElem?_getD, List.getElem?_set_ne h, ← List.getD_eq_getElem?_getD]
/-- The head is changed to a stream with which the area begins. -/
theorem com_good (hc : M.cache = []) (hf : fs < M.secs.length) (ha : Agr M fs ct d) (hd : d.length ≤ 268435456) (h : (comF M fs d.length).1 = true) : Good (comF M fs d.length).2 fs ct d ∧ (∀ s, s ≠ fs → (comF M fs d.length).2.secs.getD s [] = M.secs.getD s []) := by
  obtain ⟨a1, a2, a3, a4⟩ := com_true hc h
  refine ⟨⟨a3, a1, by rw [a2, getD_set hf]; exact hd_head (by omega), fun i hi => ?_⟩, fun s hs => by rw [a2, getD_ne (Ne.symm hs)]⟩
  rw [a4, a2, getD_ne (by omega)]
  exact ha i hi
/-- The head's change is interrupted. -/
theorem com_amb {R R2 : List (List Int)} (hc : M.cache = []) (hok : M.Ok) (hreg : fs + ct ≤ M.secs.length ∧ 2 ≤ ct) (hd : hdF (M.secs.getD fs []) = some (streamF R).length) (ha : Agr M fs ct (streamF R)) (ha2 : Agr M fs ct (streamF R2)) (hl : (streamF R).length ≤ (ct - 1) * M.sz) (hl2 : (streamF R2).length ≤ (ct - 1) * M.sz) (h : (comF M fs (streamF R2).length).1 = false) (hlen : (comF M fs (streamF R2).length).2.secs.length = M.secs.length) : Amb (comF M fs (streamF R2).length).2 fs ct R R2 := by
  have hb : (ct - 1) * M.sz ≤ 65536 * 4096 := Nat.mul_le_mul (by have := hok.secs; omega) hok.sz
  refine amb_of (by rw [hlen]; exact hreg.1) (by omega) fun head hh c hcc => ?_
  have hsec : ∀ i, i < ct - 1 → c i = M.secs.getD (fs + 1 + i) [] := fun i hi => by
    have h1 := hcc i hi
    rcases com_false (fs := fs) (n := (streamF R2).length) hc h (fs + 1 + i) with e | ⟨e, _⟩
    · rw [e] at h1; simpa using h1
    · omega
  rcases com_false (fs := fs) (n := (streamF R2).length) hc h fs with e | ⟨_, e⟩
  · rw [e] at hh
    left
    rw [List.mem_singleton.1 hh]
    exact hold_of hd hl (by omega) fun i hi => by rw [hsec i hi]; exact ⟨sec_len hok (by omega), ha i hi⟩
  · rw [e] at hh
    rcases List.mem_cons.1 hh with e2 | e2
    · left
      rw [e2]
      exact hold_of hd hl (by omega) fun i hi => by rw [hsec i hi]; exact ⟨sec_len hok (by omega), ha i hi⟩
    · right
      rw [List.mem_singleton.1 e2]
      exact hold_of (hd_head (by omega)) hl2 (by omega) fun i hi => by rw [hsec i hi]; exact ⟨sec_len hok (by omega), ha2 i hi⟩
end
theorem Good.agr {M : DM} {fs ct : Nat} {d : List Int} (g : Good M fs ct d) : Agr M fs ct d := g.ar
theorem comF_same (M : DM) (fs n : Nat) : (comF M fs n).2.secs.length = M.secs.length ∧ (comF M fs n).2.sz = M.sz ∧ (comF M fs n).2.cache.length ≤ M.cache.length + 1 := by
  obtain ⟨w1, w2⟩ := write_same M fs (headF M.sz n)
  have w3 := write_cache M fs (headF M.sz n)
  obtain ⟨s1, s2⟩ := sync_same (writeF M fs (headF M.sz n)).2
  have s3 := sync_cache (writeF M fs (headF M.sz n)).2
  unfold comF
  split
  · exact ⟨s1.trans (by rw [w1]), s2.trans w2, Nat.le_trans s3 w3⟩
  · exact ⟨by rw [w1], w2, w3⟩
section
variable {M : DM} {fs ct : Nat} {R : List (List Int)}
/-- Reset. -/
theorem reset_true (g : Good M fs ct (streamF R)) (f : Fit M fs ct (streamF R)) (h : (comF M fs 0).1 = true) : Good (comF M fs 0).2 fs ct [] ∧ (∀ s, s ≠ fs → (comF M fs 0).2.secs.getD s [] = M.secs.getD s []) :=
  com_good (d := []) g.clean (by have := f.reg; omega) (fun i hi => agr_high (by simp)) (by simp) h
theorem reset_false (g : Good M fs ct (streamF R)) (f : Fit M fs ct (streamF R)) (h : (comF M fs 0).1 = false) : Amb (comF M fs 0).2 fs ct R [] :=
  com_amb (R2 := []) g.clean f.ok f.reg g.hd g.ar (fun i hi => agr_high (by simp [streamF])) f.len (by simp [streamF]) h (comF_same M fs 0).1
variable {X : List (List Int)}
/-- Append. -/
theorem app_true (g : Good M fs ct (streamF R)) (f : Fit M fs ct (streamF R)) (hL : (streamF R ++ streamF X).length ≤ (ct - 1) * M.sz) (h : (appF M fs (streamF R) (streamF R ++ streamF X)).1 = true) : Good (appF M fs (streamF R) (streamF R ++ streamF X)).2 fs ct (streamF R ++ streamF X) ∧ (∀ s, s < M.secs.length → s < fs ∨ fs + ct ≤ s → (appF M fs (streamF R) (streamF R ++ streamF X)).2.secs.getD s [] = M.secs.getD s []) := by
  have hb : (ct - 1) * M.sz ≤ 65536 * 4096 := Nat.mul_le_mul (by have := f.ok.secs; have := f.reg; omega) f.ok.sz
  have hreg := f.reg
  have hsame := (filA_same M fs ct (streamF R) (streamF R ++ streamF X) f.sz hL (by have := f.ok.secs; omega)).1
  unfold appF at h ⊢
  split
  · rename_i hf
    rw [if_pos hf] at h
    obtain ⟨a1, a2, a3, a4, a5⟩ := filA_true g f hL hf
    obtain ⟨b1, b2⟩ := com_good a2 (by rw [hsame]; omega) a5 (by omega) h
    exact ⟨b1, fun s h1 h2 => (b2 s (by omega)).trans (a4 s h1 (by omega))⟩
  · rename_i hf
    rw [if_neg hf] at h
    exact absurd h hf
theorem app_false (g : Good M fs ct (streamF R)) (f : Fit M fs ct (streamF R)) (hL : (streamF R ++ streamF X).length ≤ (ct - 1) * M.sz) (h : (appF M fs (streamF R) (streamF R ++ streamF X)).1 = false) : Amb (appF M fs (streamF R) (streamF R ++ streamF X)).2 fs ct R (R ++ X) := by
  have hb : (ct - 1) * M.sz ≤ 65536 * 4096 := Nat.mul_le_mul (by have := f.ok.secs; have := f.reg; omega) f.ok.sz
  have hreg := f.reg
  have hok := filA_same M fs ct (streamF R) (streamF R ++ streamF X) f.sz hL (by have := f.ok.secs; omega)
  unfold appF at h ⊢
  split
  · rename_i hf
    rw [if_pos hf] at h
    obtain ⟨a1, a2, a3, a4, a5⟩ := filA_true g f hL hf
    have e1 : (filA M fs (streamF R) (streamF R ++ streamF X)).2.secs.getD fs [] = M.secs.getD fs [] := a4 fs (by omega) (by omega)
    have a6 : Agr (filA M fs (streamF R) (streamF R ++ streamF X)).2 fs ct (streamF R) := agr_old a5
    clear a4 hf
    rw [← stream_append] at h hL hok e1 a1 a2 a3 a5 a6 ⊢
    have hM : (filA M fs (streamF R) (streamF (R ++ X))).2.Ok := by
      unfold filA fillF
      have hk : ∀ i, (filF M fs (streamF (R ++ X)) ((streamF R).length / M.sz) i).2.Ok := fun i => by
        induction i with
        | zero => exact f.ok
        | succ i ih =>
          rw [filF]
          split
          · exact ih.write _ _
          · exact ih
      split
      · exact (hk _).sync
      · exact hk _
    exact com_amb a2 hM ⟨by rw [hok.1]; exact hreg.1, hreg.2⟩ (by rw [e1]; exact g.hd) a6 a5 (by rw [a3]; exact f.len) (by rw [a3]; exact hL) h (comF_same _ _ _).1
  · rename_i hf
    have hff : (filA M fs (streamF R) (streamF R ++ streamF X)).1 = false := by simpa using hf
    refine amb_of (by rw [hok.1]; exact hreg.1) (by omega) fun head hh c hcc => ?_
    left
    have e0 : mayF (filA M fs (streamF R) (streamF R ++ streamF X)).2 fs = [M.secs.getD fs []] := by
      rcases fill_false (fs := fs) g.clean hff fs with e | ⟨j, h1, _⟩
      · exact e
      · omega
    have hh' : head ∈ mayF (filA M fs (streamF R) (streamF R ++ streamF X)).2 fs := hh
    rw [e0] at hh'
    rw [List.mem_singleton.1 hh']
    refine hold_of g.hd f.len (by have := f.len; omega) fun i hi => ?_
    have h1 : c i ∈ mayF (filA M fs (streamF R) (streamF R ++ streamF X)).2 (fs + 1 + i) := hcc i hi
    rcases fill_false (fs := fs) g.clean hff (fs + 1 + i) with e | ⟨j, h3, e⟩
    · rw [show mayF (filA M fs (streamF R) (streamF R ++ streamF X)).2 (fs + 1 + i) = _ from e] at h1
      rw [List.mem_singleton.1 h1]
      exact ⟨sec_len f.ok (by omega), g.ar i hi⟩
    · rw [show mayF (filA M fs (streamF R) (streamF R ++ streamF X)).2 (fs + 1 + i) = _ from e] at h1
      have hji : j = i := by omega
      subst hji
      rcases List.mem_cons.1 h1 with e2 | e2
      · rw [e2]
        exact ⟨sec_len f.ok (by omega), g.ar j hi⟩
      · rw [List.mem_singleton.1 e2]
        exact ⟨secL_len _ _ _, agree_pre (secL_agree _ _ _)⟩
end
/-- A disk that does not fail. -/
def NF (M : DM) : Prop := M.off = false ∧ M.cnt = -1
theorem nf_step {M : DM} (h : NF M) : (stepF M).1 = true ∧ NF (stepF M).2 := by
  unfold stepF
  rw [if_neg (by rw [h.1, h.2]; simp)]
  exact ⟨rfl, h.1, by show (if 0 < M.cnt then M.cnt - 1 else M.cnt) = -1; rw [h.2]; rfl⟩
theorem nf_write {M : DM} (h : NF M) {s : Nat} {l : List Int} (hs : s < M.secs.length) (hl : l.length = M.sz) : (writeF M s l).1 = 0 ∧ NF (writeF M s l).2 := by
  have hf : M.fits s = true := by simp only [DM.fits, decide_eq_true_eq]; omega
  unfold writeF
  rw [if_neg (by rw [hf]; simp [hl]), if_neg (by rw [(nf_step h).1]; simp)]
  exact ⟨rfl, (nf_step h).2⟩
theorem nf_sync {M : DM} (h : NF M) : (syncF M).1 = 0 ∧ NF (syncF M).2 := by
  unfold syncF
  rw [if_neg (by rw [(nf_step h).1]; simp)]
  exact ⟨rfl, (nf_step h).2⟩
theorem nf_com {M : DM} (h : NF M) {fs n : Nat} (hs : fs < M.secs.length) (hz : 16 ≤ M.sz) (hn : n ≤ 268435456) : (comF M fs n).1 = true ∧ NF (comF M fs n).2 := by
  obtain ⟨a1, a2⟩ := nf_write h hs (headF_len hn hz)
  obtain ⟨b1, b2⟩ := nf_sync a2
  unfold comF
  rw [if_pos a1]
  exact ⟨decide_eq_true b1, b2⟩
theorem nf_fil {M : DM} (h : NF M) {fs st : Nat} {L : List Int} : ∀ i, fs + 1 + (st + i) ≤ M.secs.length → (filF M fs L st i).1 = true ∧ NF (filF M fs L st i).2
  | 0, _ => ⟨rfl, h⟩
  | i + 1, hi => by
    obtain ⟨h1, h2⟩ := nf_fil h (fs := fs) (st := st) (L := L) i (by omega)
    obtain ⟨e1, e2, _⟩ := filF_same M fs L st i
    obtain ⟨a1, a2⟩ := nf_write h2 (s := fs + 1 + (st + i)) (l := secL L M.sz (st + i)) (by rw [e1]; omega) (by rw [e2]; exact secL_len _ _ _)
    rw [filF_good h1 a1]
    exact ⟨rfl, a2⟩
theorem nf_app {M : DM} (h : NF M) {fs ct : Nat} {d T : List Int} (f : Fit M fs ct d) (hL : (d ++ T).length ≤ (ct - 1) * M.sz) : (appF M fs d (d ++ T)).1 = true ∧ NF (appF M fs d (d ++ T)).2 := by
  have hb : (ct - 1) * M.sz ≤ 65536 * 4096 := Nat.mul_le_mul (by have := f.ok.secs; have := f.reg; omega) f.ok.sz
  have hreg := f.reg
  obtain ⟨r1, r2, r3⟩ := fil_range f hL
  obtain ⟨a1, a2⟩ := nf_fil h (fs := fs) (st := d.length / M.sz) (L := d ++ T) (((d ++ T).length + M.sz - 1) / M.sz - d.length / M.sz) (by rw [r1]; omega)
  obtain ⟨b1, b2⟩ := nf_sync a2
  have hfi : (filA M fs d (d ++ T)).1 = true ∧ NF (filA M fs d (d ++ T)).2 := by
    unfold filA fillF
    rw [if_pos a1]
    exact ⟨decide_eq_true b1, b2⟩
  obtain ⟨s1, s2, _⟩ := filA_same M fs ct d (d ++ T) f.sz hL (by have := f.ok.secs; omega)
  unfold appF
  rw [if_pos hfi.1]
  exact nf_com hfi.2 (by rw [s1]; omega) (by rw [s2]; exact f.sz) (by omega)
/-- All contents are bytes. -/
def RngM (M : DM) : Prop := (∀ l ∈ M.secs, ∀ x ∈ l, 0 ≤ x ∧ x ≤ 255) ∧ ∀ p ∈ M.cache, ∀ x ∈ p.2, 0 ≤ x ∧ x ≤ 255
theorem rng_step {M : DM} (h : RngM M) : RngM (stepF M).2 := by
  obtain ⟨e1, e2, e3⟩ := stepF_same M
  exact ⟨by rw [e2]; exact h.1, by rw [e3]; exact h.2⟩
theorem rng_write {M : DM} (h : RngM M) {s : Int} {l : List Int} (hl : ∀ x ∈ l, 0 ≤ x ∧ x ≤ 255) : RngM (writeF M s l).2 := by
  unfold writeF
  split
  · exact h
  · split
    · exact rng_step h
    · have k := rng_step h
      refine ⟨k.1, fun p hp => ?_⟩
      rcases List.mem_append.1 hp with h1 | h1
      · exact h.2 p h1
      · rw [List.mem_singleton.1 h1]; exact hl
theorem rng_put : ∀ (c : List (Nat × List Int)) (S : List (List Int)), (∀ l ∈ S, ∀ x ∈ l, 0 ≤ x ∧ x ≤ 255) → (∀ p ∈ c, ∀ x ∈ p.2, 0 ≤ x ∧ x ≤ 255) → ∀ l ∈ putF S c, ∀ x ∈ l, 0 ≤ x ∧ x ≤ 255
  | [], S, h, _, l, hl => h l hl
  | p :: r, S, h, hc, l, hl => rng_put r (S.set p.1 p.2) (fun y hy => by rcases mem_set_of hy with h1 | h1; exact h y h1; rw [h1]; exact hc p (by simp)) (fun q hq => hc q (by simp [hq])) l hl
theorem rng_sync {M : DM} (h : RngM M) : RngM (syncF M).2 := by
  unfold syncF
  split
  · exact rng_step h
  · exact ⟨rng_put _ _ h.1 h.2, fun p hp => by simp at hp⟩
theorem rng_keep (S : List (List Int)) (c : List (Nat × List Int)) (keep : List Bool) (h : ∀ l ∈ S, ∀ x ∈ l, 0 ≤ x ∧ x ≤ 255) (hc : ∀ p ∈ c, ∀ x ∈ p.2, 0 ≤ x ∧ x ≤ 255) : ∀ k, ∀ l ∈ keepF S c keep k, ∀ x ∈ l, 0 ≤ x ∧ x ≤ 255
  | 0, l, hl => h l hl
  | k + 1, l, hl => by
    rw [keepF] at hl
    split at hl
    · rename_i p e _
      rcases mem_set_of hl with h1 | h1
      · exact rng_keep S c keep h hc k l h1
      · rw [h1]; exact hc p (List.mem_of_getElem? e)
    · exact rng_keep S c keep h hc k l hl
theorem rng_crash {M : DM} (h : RngM M) (keep : List Bool) : RngM (crashF M keep) := ⟨rng_keep _ _ _ h.1 h.2 _, fun p hp => by simp [crashF] at hp⟩
theorem rng_fail {M : DM} (h : RngM M) (n : Int) : RngM (failF M n) := by
  unfold failF
  split
  · exact h
  · exact h
theorem rng_new (n z : Nat) : RngM (newF n z) := ⟨fun l hl x hx => by
  simp only [newF, List.mem_replicate] at hl
  rw [hl.2, List.mem_replicate] at hx
  omega, fun p hp => by simp [newF] at hp⟩
theorem rng_head (sz n : Nat) : ∀ x ∈ headF sz n, 0 ≤ x ∧ x ≤ 255 := fun x hx => by
  unfold headF headB at hx
  simp only [List.mem_append, List.mem_replicate] at hx
  rcases hx with (h | h | h) | h
  · exact enc_byte 7 x h
  · unfold jnT at h; simp at h; omega
  · exact enc_byte n x h
  · omega
theorem rng_com {M : DM} (h : RngM M) (fs n : Nat) : RngM (comF M fs n).2 := by
  have h1 := rng_write (s := (fs : Int)) h (rng_head M.sz n)
  unfold comF
  split
  · exact rng_sync h1
  · exact h1
theorem rng_sec {L : List Int} (hL : ∀ x ∈ L, 0 ≤ x ∧ x ≤ 255) (sz k : Nat) : ∀ x ∈ secL L sz k, 0 ≤ x ∧ x ≤ 255 := fun x hx => by
  unfold secL at hx
  rcases List.mem_append.1 hx with h | h
  · exact hL x (List.mem_of_mem_drop (List.mem_of_mem_take h))
  · rw [List.mem_replicate] at h; omega
theorem rng_app {M : DM} (h : RngM M) (fs : Nat) (d : List Int) {L : List Int} (hL : ∀ x ∈ L, 0 ≤ x ∧ x ≤ 255) : RngM (appF M fs d L).2 := by
  have hk : ∀ st i, RngM (filF M fs L st i).2 := fun st i => by
    induction i with
    | zero => exact h
    | succ i ih =>
      rw [filF]
      split
      · exact rng_write ih (rng_sec hL _ _)
      · exact ih
  have hf : RngM (filA M fs d L).2 := by
    unfold filA fillF
    split
    · exact rng_sync (hk _ _)
    · exact hk _ _
  unfold appF
  split
  · exact rng_com hf _ _
  · exact hf
/-- What Read gives of a clean disk whose power is on. -/
theorem read_clean {M : DM} (hc : M.cache = []) (ho : M.off = false) {s : Nat} (hs : s < M.secs.length) : (readF M (s : Int)).1 = M.secs.getD s [] := by
  have hf : M.fits s = true := by simp only [DM.fits, decide_eq_true_eq]; omega
  rw [readF, if_neg (by rw [hf]; simp), if_neg (by rw [ho]; simp)]
  show M.content (s : Int).toNat = _
  rw [Int.toNat_natCast, DM.content, hc]
  rfl
theorem rng_get {M : DM} (h : RngM M) (s : Nat) : ∀ x ∈ M.secs.getD s [], 0 ≤ x ∧ x ≤ 255 := fun x hx => by
  rw [List.getD_eq_getElem?_getD] at hx
  cases e : M.secs[s]? with
  | none => rw [e] at hx; simp at hx
  | some l => rw [e] at hx; exact h.1 l (List.mem_of_getElem? e) x hx
theorem rd_ok {M : DM} {fs ct : Nat} (hok : M.Ok) (hr : RngM M) (hc : M.cache = []) (ho : M.off = false) (hreg : fs + ct ≤ M.secs.length ∧ 2 ≤ ct) : RdOk M fs ct := by
  have h1 : headC M fs = M.secs.getD fs [] := read_clean hc ho (by omega)
  have h2 : ∀ i, i < ct - 1 → secC M fs i = M.secs.getD (fs + 1 + i) [] := fun i hi => read_clean hc ho (by omega)
  exact ⟨by rw [h1]; exact sec_len hok (by omega), by rw [h1]; exact rng_get hr _, fun i hi => by rw [h2 i hi]; exact sec_len hok (by omega), fun i hi => by rw [h2 i hi]; exact rng_get hr _⟩
theorem holds_rd {M : DM} {fs ct : Nat} (hc : M.cache = []) (ho : M.off = false) (hreg : fs + ct ≤ M.secs.length ∧ 2 ≤ ct) : holdsF (headC M fs) (areaC M fs ct) = holdsD M fs ct := by
  have h1 : headC M fs = M.secs.getD fs [] := read_clean hc ho (by omega)
  have h2 : areaC M fs ct = areaF (fun i => M.secs.getD (fs + 1 + i) []) (ct - 1) := areaF_congr _ fun i hi => read_clean hc ho (by omega)
  rw [holdsD, h1, h2]
/-- What is opened is good. -/
theorem good_open {M : DM} {fs ct : Nat} {R : List (List Int)} (hok : M.Ok) (hr : RngM M) (hc : M.cache = []) (ho : M.off = false) (hreg : fs + ct ≤ M.secs.length ∧ 2 ≤ ct) (h : holdsD M fs ct = some R) : Good M fs ct (streamF R) ∧ ∀ x ∈ streamF R, 0 ≤ x ∧ x ≤ 255 := by
  have hlen := areaF_len (c := fun i => M.secs.getD (fs + 1 + i) []) (z := M.sz) (ct - 1) fun i hi => sec_len hok (by omega)
  rw [holdsD, holds_hd] at h
  cases hd : hdF (M.secs.getD fs []) with
  | none => rw [hd] at h; cases h
  | some n =>
    rw [hd] at h
    have h8 : (if n ≤ (areaF (fun i => M.secs.getD (fs + 1 + i) []) (ct - 1)).length then recsF ((areaF (fun i => M.secs.getD (fs + 1 + i) []) (ct - 1)).take n) (n + 1) 0 else none) = some R := h
    split at h8
    · rename_i hn
      obtain ⟨A, hA⟩ : ∃ A, A = areaF (fun i => M.secs.getD (fs + 1 + i) []) (ct - 1) := ⟨_, rfl⟩
      rw [← hA] at h8 hn hlen
      have hAr : ∀ x ∈ A, 0 ≤ x ∧ x ≤ 255 := fun x hx => by
        rw [hA] at hx
        obtain ⟨i, _, h2⟩ := areaF_mem _ hx
        exact rng_get hr _ x h2
      have hd2 := recs_whole (fun y hy => hAr y (List.mem_of_mem_take hy)) h8
      have hdl : (streamF R).length = n := by rw [← hd2, List.length_take]; omega
      refine ⟨⟨hc, ho, by rw [hd, hdl], fun i hi => ?_⟩, fun x hx => hAr x (by rw [← hd2] at hx; exact List.mem_of_mem_take hx)⟩
      have hsec : M.secs.getD (fs + 1 + i) [] = (A.drop (i * M.sz)).take M.sz := by
        have hk : ∀ k, i < k → k ≤ ct - 1 → ((areaF (fun i => M.secs.getD (fs + 1 + i) []) k).drop (i * M.sz)).take M.sz = M.secs.getD (fs + 1 + i) [] := fun k => by
          induction k with
          | zero => intro h1; omega
          | succ k ih =>
            intro h1 h2
            have hl := areaF_len (c := fun i => M.secs.getD (fs + 1 + i) []) (z := M.sz) k fun i hi => sec_len hok (by omega)
            rw [areaF]
            by_cases e : i = k
            · subst e
              rw [← hl, List.drop_left, List.take_of_length_le (by rw [sec_len hok (by omega)]; exact Nat.le_refl _)]
            · have hle : (i + 1) * M.sz ≤ k * M.sz := Nat.mul_le_mul_right _ (by omega)
              rw [Nat.succ_mul] at hle
              rw [List.drop_append_of_le_length (by omega), List.take_append_of_le_length (by rw [List.length_drop]; omega)]
              exact ih (by omega) (by omega)
        rw [hA]
        exact (hk (ct - 1) hi (Nat.le_refl _)).symm
      rw [hsec, hdl, ← hd2, List.drop_take, List.take_take, List.take_take, Nat.min_comm]
    · cases h8
/-- An operation that was interrupted leaves the disk without power. -/
theorem step_bad {M : DM} (h : (stepF M).1 = false) : (stepF M).2.off = true := by
  unfold stepF at h ⊢
  split
  · rfl
  · rename_i hn; rw [if_neg hn] at h; cases h
theorem write_off {M : DM} {s : Nat} {l : List Int} (hs : s < M.secs.length) (hl : l.length = M.sz) (h : (writeF M s l).1 ≠ 0) : (writeF M s l).2.off = true := by
  have hf : M.fits s = true := by simp only [DM.fits, decide_eq_true_eq]; omega
  unfold writeF at h ⊢
  rw [if_neg (by rw [hf]; simp [hl])] at h ⊢
  split
  · rename_i h2; exact step_bad h2
  · rename_i h2; rw [if_neg h2] at h; simp at h
theorem sync_off {M : DM} (h : (syncF M).1 ≠ 0) : (syncF M).2.off = true := by
  unfold syncF at h ⊢
  split
  · rename_i h2; exact step_bad h2
  · rename_i h2; rw [if_neg h2] at h; simp at h
theorem com_off {M : DM} {fs n : Nat} (hs : fs < M.secs.length) (hz : 16 ≤ M.sz) (hn : n ≤ 268435456) (h : (comF M fs n).1 = false) : (comF M fs n).2.off = true := by
  unfold comF at h ⊢
  split
  · rename_i hw
    rw [if_pos hw] at h
    exact sync_off (by simpa using h)
  · rename_i hw
    exact write_off hs (headF_len hn hz) hw
theorem fil_off {M : DM} {fs st : Nat} {L : List Int} : ∀ i, fs + 1 + (st + i) ≤ M.secs.length → (filF M fs L st i).1 = false → (filF M fs L st i).2.off = true
  | 0, _, h => by cases h
  | i + 1, hi, h => by
    obtain ⟨e1, e2, _⟩ := filF_same M fs L st i
    by_cases hb : (filF M fs L st i).1 = true
    · by_cases hw : (writeF (filF M fs L st i).2 (fs + 1 + (st + i) : Nat) (secL L M.sz (st + i))).1 = 0
      · rw [filF_good hb hw] at h; cases h
      · rw [show filF M fs L st (i + 1) = _ from filF_bad hb hw 0]
        exact write_off (by rw [e1]; omega) (by rw [e2]; exact secL_len _ _ _) hw
    · rw [filF, if_neg hb] at h ⊢
      exact fil_off i (by omega) h
theorem app_off {M : DM} {fs ct : Nat} {d T : List Int} (f : Fit M fs ct d) (hL : (d ++ T).length ≤ (ct - 1) * M.sz) (h : (appF M fs d (d ++ T)).1 = false) : (appF M fs d (d ++ T)).2.off = true := by
  have hb : (ct - 1) * M.sz ≤ 65536 * 4096 := Nat.mul_le_mul (by have := f.ok.secs; have := f.reg; omega) f.ok.sz
  have hreg := f.reg
  obtain ⟨r1, r2, r3⟩ := fil_range f hL
  obtain ⟨s1, s2, _⟩ := filA_same M fs ct d (d ++ T) f.sz hL (by have := f.ok.secs; omega)
  unfold appF at h ⊢
  split
  · rename_i hf
    rw [if_pos hf] at h
    exact com_off (by rw [s1]; omega) (by rw [s2]; exact f.sz) (by omega) h
  · rename_i hf
    have hff : (filA M fs d (d ++ T)).1 = false := by simpa using hf
    unfold filA fillF at hff ⊢
    split
    · rename_i h2
      rw [if_pos h2] at hff
      exact sync_off (by simpa using hff)
    · rename_i h2
      rw [if_neg h2] at hff
      exact fil_off _ (by rw [r1]; omega) hff
/-- A crash of a clean disk changes no content. -/
theorem crash_clean {M : DM} (h : M.cache = []) (keep : List Bool) : (crashF M keep).secs = M.secs ∧ (crashF M keep).cache = [] ∧ (crashF M keep).off = false ∧ (crashF M keep).sz = M.sz ∧ (crashF M keep).cnt = -1 := by
  refine ⟨?_, rfl, rfl, rfl, rfl⟩
  show keepF M.secs M.cache keep _ = _
  rw [h]
  rfl
theorem crash_len (M : DM) (keep : List Bool) : (crashF M keep).secs.length = M.secs.length := by show (keepF _ _ _ _).length = _; rw [keepF_len]
theorem Good.crash {M : DM} {fs ct : Nat} {d : List Int} (g : Good M fs ct d) (keep : List Bool) : Good (crashF M keep) fs ct d := by
  obtain ⟨h1, h2, h3, h4, _⟩ := crash_clean g.clean keep
  exact ⟨h2, h3, by rw [h1]; exact g.hd, fun i hi => by rw [h1, h4]; exact g.ar i hi⟩
theorem Good.fail {M : DM} {fs ct : Nat} {d : List Int} (g : Good M fs ct d) (n : Int) : Good (failF M n) fs ct d := by
  have e : failF M n = { M with cnt := max n 0 } := by unfold failF; rw [if_neg (by rw [g.on]; simp)]
  rw [e]
  exact ⟨g.clean, g.on, g.hd, g.ar⟩
theorem fail_same (M : DM) (n : Int) : (failF M n).secs = M.secs ∧ (failF M n).sz = M.sz ∧ (failF M n).cache = M.cache ∧ (failF M n).off = M.off := by
  unfold failF
  split <;> exact ⟨rfl, rfl, rfl, rfl⟩
end Go.Proofs.Ytofmijebinnejaa

/- An operation of a journal, as the laws carry it out. Bounds on sizes alone. -/
namespace Go.Proofs.Ytofmijebinnejaa
open Go.RowKit
set_option maxRecDepth 100000
set_option maxHeartbeats 6400000

abbrev opBox (rs : Bool) (a : Option Addr) (n c : Nat) : Obj := .cells #[.bool rs, .slice a n c] 38
theorem do_reset (w : World) (jb : Nat) (a : Option Addr) (n c : Nat) (P : Int → World → Prop) (h : Calls Try.prog 35 #[.pointer (some ⟨jb, 0, none⟩)] (w.alloc (opBox true a n c)) fun e w' => ∃ cd, e = .returned (.int .i64 cd) ∧ P cd w') :
    Calls Try.prog 17 #[.pointer (some ⟨jb, 0, none⟩), .agg #[.bool true, .slice a n c]] w fun e w' => ∃ cd, e = .returned (.int .i64 cd) ∧ P cd w' := by
  have CH := hid_of h
  have HN := heap_alloc_new w (opBox true a n c)
  have c0 := cell_blk (j := 0) HN rfl
  have c1 := cell_blk (j := 1) HN rfl
  clear HN h
  go_enter Try.func17, Try.ntmps17
  go_wp2_with (first
    | (go_at_call 35; ((with_reducible refine (CH.out).mono ?_); (rintro e w1 ⟨cd, rfl, q1⟩)); have P1 := hid_of q1; clear q1))
  go_ret
  exact ⟨cd, rfl, P1.out⟩
theorem do_append (w : World) (jb : Nat) (a : Option Addr) (n c : Nat) (P : Int → World → Prop) (h : Calls Try.prog 32 #[.pointer (some ⟨jb, 0, none⟩), .slice a n c] (w.alloc (opBox false a n c)) fun e w' => ∃ cd, e = .returned (.int .i64 cd) ∧ P cd w') :
    Calls Try.prog 17 #[.pointer (some ⟨jb, 0, none⟩), .agg #[.bool false, .slice a n c]] w fun e w' => ∃ cd, e = .returned (.int .i64 cd) ∧ P cd w' := by
  have CH := hid_of h
  have HN := heap_alloc_new w (opBox false a n c)
  have c0 := cell_blk (j := 0) HN rfl
  have c1 := cell_blk (j := 1) HN rfl
  clear HN h
  go_enter Try.func17, Try.ntmps17
  go_wp2_with (first
    | (go_at_call 32; ((with_reducible refine (CH.out).mono ?_); (rintro e w1 ⟨cd, rfl, q1⟩)); have P1 := hid_of q1; clear q1))
  go_ret
  exact ⟨cd, rfl, P1.out⟩
/-- The list behind an operation, and the code that it gives. -/
def nxtF (R : List (List Int)) (rs : Bool) (X : List (List Int)) (area : Nat) : List (List Int) × Int := if rs = true then ([], 0) else if area < (streamF (R ++ X)).length then (R, 7) else (R ++ X, 0)
/-- What an operation does. -/
structure OpQ (M : DM) (fs ct : Nat) (R : List (List Int)) (wk rs : Bool) (X : List (List Int)) (cd : Int) (M' : DM) (R' : List (List Int)) (wk' : Bool) : Prop where
  sz : M'.sz = M.sz
  len : M'.secs.length = M.secs.length
  dead : (wk && !M.off) = false → cd = 8 ∧ M' = M ∧ R' = R ∧ wk' = false
  live : (wk && !M.off) = true → Good M fs ct (streamF R) → (cd = (nxtF R rs X ((ct - 1) * M.sz)).2 ∧ R' = (nxtF R rs X ((ct - 1) * M.sz)).1 ∧ wk' = true ∧ Good M' fs ct (streamF R') ∧ ∀ s, s < M.secs.length → s < fs ∨ fs + ct ≤ s → M'.secs.getD s [] = M.secs.getD s []) ∨ (cd = 8 ∧ R' = R ∧ wk' = false ∧ Amb M' fs ct R (nxtF R rs X ((ct - 1) * M.sz)).1 ∧ M'.off = true)
  nf : NF M → wk = true → NF M' ∧ cd ≠ 8
  rng : RngM M → (∀ x ∈ streamF R, 0 ≤ x ∧ x ≤ 255) → (∀ x ∈ streamF X, 0 ≤ x ∧ x ≤ 255) → RngM M'
  cch : M'.cache.length ≤ M.cache.length + 65537
theorem JK.fit {S SD : Nat → Prop} {w : World} {jb b : Nat} {M : DM} {fs ct : Nat} {d : List Int} {wk : Bool} {vs : Value} (h : JK S SD w jb b M fs ct d wk vs) : Fit M fs ct d := ⟨h.ok, h.reg, h.len, h.sz⟩
/-- The journal behind an operation. -/
def JkNx (S : Nat → Prop) (w w' : World) (jb b : Nat) (M' : DM) (fs ct : Nat) (R' : List (List Int)) (wk' : Bool) : Prop := ∃ S' SD' vs', JK S' SD' w' jb b M' fs ct (streamF R') wk' vs' ∧ ∀ k, S' k → S k ∨ (w.heap.size ≤ k ∧ k < w'.heap.size)
section
variable (S SD T : Nat → Prop) (w : World) (jb b : Nat) (M : DM) (fs ct : Nat) (R : List (List Int)) (wk : Bool) (vs : Value)
theorem rst_op (X : List (List Int)) (h : JK S SD w jb b M fs ct (streamF R) wk vs) (hlt : ∀ k, S k → k < w.heap.size) (hc : M.cache.length + 65536 < 1000000) :
    Calls Try.prog 35 #[.pointer (some ⟨jb, 0, none⟩)] w fun e w' => ∃ cd, e = .returned (.int .i64 cd) ∧ ∃ M' R' wk', JkNx S w w' jb b M' fs ct R' wk' ∧ Kept S w w' ∧ OpQ M fs ct R wk true X cd M' R' wk' := by
  have hreg := h.reg
  have hb := h.bounds
  have f := h.fit
  have nx : ∀ {w' M' R' wk' SD' vs'}, JK (Nw S w w') SD' w' jb b M' fs ct (streamF R') wk' vs' → JkNx S w w' jb b M' fs ct R' wk' := fun j => ⟨_, _, _, j, fun k hk => hk⟩
  have nx0 : ∀ {w' M' R' wk' SD' vs'}, JK S SD' w' jb b M' fs ct (streamF R') wk' vs' → JkNx S w w' jb b M' fs ct R' wk' := fun j => ⟨_, _, _, j, fun k hk => Or.inl hk⟩
  by_cases hg : (wk && !M.off) = false
  · have Q0 : OpQ M fs ct R wk true X 8 M R false := ⟨rfl, rfl, fun _ => ⟨rfl, rfl, rfl, rfl⟩, fun h2 => (by rw [hg] at h2; cases h2), fun h2 h3 => (by rw [h3, h2.1] at hg; cases hg), fun h2 _ _ => h2, by omega⟩
    have kj : ∀ {w'}, Kept (fun k => k = jb) w w' → Kept S w w' := fun k => k.mono fun q e => by rw [e]; exact h.sj
    exact (reset_off S SD w jb b M fs ct (streamF R) vs wk h hg).mono fun e w' ⟨q1, q2, q3⟩ => ⟨8, q1, M, R, false, nx0 q2, kj q3, Q0⟩
  · have hwk : wk = true := by cases wk; exact absurd rfl hg; rfl
    subst hwk
    have ho : M.off = false := by cases e : M.off; rfl; rw [e] at hg; exact absurd rfl hg
    have hcl := f.bound
    obtain ⟨s1, s2, s3⟩ := comF_same M fs 0
    refine (reset_on S SD w jb b M fs ct (streamF R) vs h hlt ho (by omega)).mono fun e w' ⟨q1, ⟨SD2, q2⟩, q3⟩ => ⟨_, q1, (comF M fs 0).2, if (comF M fs 0).1 = true then [] else R, (comF M fs 0).1, nx (vs' := if (comF M fs 0).1 = true then .slice none 0 0 else vs) (SD' := SD2) ?_, q3, ?_⟩
    · rw [show streamF (if (comF M fs 0).1 = true then [] else R) = if (comF M fs 0).1 = true then [] else streamF R by split <;> rfl]
      exact q2
    · have hn : nxtF R true X ((ct - 1) * M.sz) = ([], 0) := rfl
      refine ⟨s2, s1, fun h2 => absurd h2 hg, fun _ g => ?_, fun h2 _ => ?_, fun h2 _ _ => rng_com h2 _ _, by omega⟩
      · rw [hn]
        by_cases hcom : (comF M fs 0).1 = true
        · left
          obtain ⟨g1, g2⟩ := reset_true g f hcom
          rw [if_pos hcom, if_pos hcom]
          exact ⟨rfl, rfl, hcom, g1, fun s _ h3 => g2 s (by omega)⟩
        · right
          have hcf : (comF M fs 0).1 = false := by simpa using hcom
          rw [if_neg hcom, if_neg hcom]
          exact ⟨rfl, rfl, hcf, reset_false g f hcf, com_off (by omega) f.sz (by omega) hcf⟩
      · obtain ⟨n1, n2⟩ := nf_com (fs := fs) (n := 0) h2 (by omega) f.sz (by omega)
        rw [if_pos n1]
        exact ⟨n2, by omega⟩
theorem app_op (X : List (List Int)) (a : Option Addr) (n c : Nat) (h : JK S SD w jb b M fs ct (streamF R) wk vs) (hlt : ∀ k, S k → k < w.heap.size) (hT0 : ∀ k, T k → k < w.heap.size ∧ ¬ S k) (hR : RB T w (.slice a n c) X) (hl : (streamF X).length ≤ 1000000000) (hc : M.cache.length + 65536 < 1000000) :
    Calls Try.prog 32 #[.pointer (some ⟨jb, 0, none⟩), .slice a n c] w fun e w' => ∃ cd, e = .returned (.int .i64 cd) ∧ ∃ M' R' wk', JkNx S w w' jb b M' fs ct R' wk' ∧ Kept S w w' ∧ OpQ M fs ct R wk false X cd M' R' wk' := by
  have hreg := h.reg
  have hb := h.bounds
  have f := h.fit
  have hT : ∀ k, T k → k < w.heap.size ∧ k ≠ jb := fun k hk => ⟨(hT0 k hk).1, fun e => (hT0 k hk).2 (by rw [e]; exact h.sj)⟩
  have nx : ∀ {w' M' R' wk' SD' vs'}, JK (Nw S w w') SD' w' jb b M' fs ct (streamF R') wk' vs' → JkNx S w w' jb b M' fs ct R' wk' := fun j => ⟨_, _, _, j, fun k hk => hk⟩
  have nx0 : ∀ {w' M' R' wk' SD' vs'}, JK S SD' w' jb b M' fs ct (streamF R') wk' vs' → JkNx S w w' jb b M' fs ct R' wk' := fun j => ⟨_, _, _, j, fun k hk => Or.inl hk⟩
  by_cases hg : (wk && !M.off) = false
  · have Q0 : OpQ M fs ct R wk false X 8 M R false := ⟨rfl, rfl, fun _ => ⟨rfl, rfl, rfl, rfl⟩, fun h2 => (by rw [hg] at h2; cases h2), fun h2 h3 => (by rw [h3, h2.1] at hg; cases hg), fun h2 _ _ => h2, by omega⟩
    have kj : ∀ {w'}, Kept (fun k => k = jb) w w' → Kept S w w' := fun k => k.mono fun q e => by rw [e]; exact h.sj
    exact (append_off S SD w jb b M fs ct (streamF R) vs wk a n c h hg).mono fun e w' ⟨q1, q2, q3⟩ => ⟨8, q1, M, R, false, nx0 q2, kj q3, Q0⟩
  · have hwk : wk = true := by cases wk; exact absurd rfl hg; rfl
    subst hwk
    have ho : M.off = false := by cases e : M.off; rfl; rw [e] at hg; exact absurd rfl hg
    have hcl := f.bound
    have hsl : (streamF (R ++ X)).length = (streamF R).length + (streamF X).length := by rw [stream_append, List.length_append]
    by_cases hsm : ¬ ((streamF R).length + (streamF X).length ≤ (ct - 1) * M.sz) ∨ X = []
    · have hn : nxtF R false X ((ct - 1) * M.sz) = (R, if (streamF R).length + (streamF X).length ≤ (ct - 1) * M.sz then 0 else 7) := by
        unfold nxtF
        rw [if_neg (by simp), hsl]
        by_cases hfit : (streamF R).length + (streamF X).length ≤ (ct - 1) * M.sz
        · rcases hsm with h3 | h3
          · exact absurd hfit h3
          · rw [if_pos hfit, if_neg (by omega), h3, List.append_nil]
        · rw [if_neg hfit, if_pos (by omega)]
      have hcd : (if (streamF R).length + (streamF X).length ≤ (ct - 1) * M.sz then (0 : Int) else 7) ≠ 8 := by split <;> omega
      obtain ⟨cd, hcd2⟩ : ∃ cd, cd = (if (streamF R).length + (streamF X).length ≤ (ct - 1) * M.sz then (0 : Int) else 7) := ⟨_, rfl⟩
      rw [← hcd2] at hn hcd
      have Q1 : OpQ M fs ct R true false X cd M R true := ⟨rfl, rfl, fun h2 => absurd h2 hg, fun _ g => Or.inl (by rw [hn]; exact ⟨rfl, rfl, rfl, g, fun _ _ _ => rfl⟩), fun h2 _ => ⟨h2, hcd⟩, fun h2 _ _ => h2, by omega⟩
      have AS := append_small S SD T w jb b M fs ct (streamF R) vs X a n c h hlt ho hT hR hl hsm
      rw [← hcd2] at AS
      exact AS.mono fun e w' ⟨q1, q2, q3⟩ => ⟨cd, q1, M, R, true, nx0 q2, q3, Q1⟩
    · simp only [not_or, Decidable.not_not] at hsm
      obtain ⟨hfit, hne⟩ := hsm
      have hL : (streamF R ++ streamF X).length ≤ (ct - 1) * M.sz := by rw [List.length_append]; exact hfit
      have hn : nxtF R false X ((ct - 1) * M.sz) = (R ++ X, 0) := by
        unfold nxtF
        rw [if_neg (by simp), if_neg (by omega)]
      obtain ⟨s1, s2, s3⟩ := filA_same M fs ct (streamF R) (streamF R ++ streamF X) f.sz hL (by omega)
      have sA : (appF M fs (streamF R) (streamF R ++ streamF X)).2.secs.length = M.secs.length ∧ (appF M fs (streamF R) (streamF R ++ streamF X)).2.sz = M.sz ∧ (appF M fs (streamF R) (streamF R ++ streamF X)).2.cache.length ≤ M.cache.length + 65537 := by
        unfold appF
        split
        · obtain ⟨t1, t2, t3⟩ := comF_same (filA M fs (streamF R) (streamF R ++ streamF X)).2 fs (streamF R ++ streamF X).length
          exact ⟨t1.trans s1, t2.trans s2, by omega⟩
        · exact ⟨s1, s2, by omega⟩
      refine (append_go S SD T w jb b M fs ct (streamF R) vs X a n c h hlt ho hT hR hfit hne hc).mono fun e w' ⟨q1, ⟨SD2, vs2, q2⟩, q3⟩ => ⟨_, q1, (appF M fs (streamF R) (streamF R ++ streamF X)).2, if (appF M fs (streamF R) (streamF R ++ streamF X)).1 = true then R ++ X else R, (appF M fs (streamF R) (streamF R ++ streamF X)).1, nx (vs' := vs2) (SD' := SD2) ?_, q3, ?_⟩
      · rw [show streamF (if (appF M fs (streamF R) (streamF R ++ streamF X)).1 = true then R ++ X else R) = if (appF M fs (streamF R) (streamF R ++ streamF X)).1 = true then streamF R ++ streamF X else streamF R by split; exact stream_append R X; rfl]
        exact q2
      · refine ⟨sA.2.1, sA.1, fun h2 => absurd h2 hg, fun _ g => ?_, fun h2 _ => ?_, fun h2 h3 h4 => rng_app h2 _ _ (fun x hx => by rcases List.mem_append.1 hx with h5 | h5; exact h3 x h5; exact h4 x h5), sA.2.2⟩
        · rw [hn]
          by_cases hcom : (appF M fs (streamF R) (streamF R ++ streamF X)).1 = true
          · left
            obtain ⟨g1, g2⟩ := app_true g f hL hcom
            rw [if_pos hcom, if_pos hcom]
            exact ⟨rfl, rfl, hcom, by rw [stream_append]; exact g1, g2⟩
          · right
            have hcf : (appF M fs (streamF R) (streamF R ++ streamF X)).1 = false := by simpa using hcom
            rw [if_neg hcom, if_neg hcom]
            exact ⟨rfl, rfl, hcf, app_false g f hL hcf, app_off f hL hcf⟩
        · obtain ⟨n1, n2⟩ := nf_app h2 f hL
          rw [if_pos n1]
          exact ⟨n2, by omega⟩
theorem do_any (rs : Bool) (X : List (List Int)) (a : Option Addr) (n c : Nat) (h : JK S SD w jb b M fs ct (streamF R) wk vs) (hlt : ∀ k, S k → k < w.heap.size) (hT : ∀ k, T k → k < w.heap.size ∧ ¬ S k) (hR : RB T w (.slice a n c) X) (hl : (streamF X).length ≤ 1000000000) (hc : M.cache.length + 65536 < 1000000) :
    Calls Try.prog 17 #[.pointer (some ⟨jb, 0, none⟩), .agg #[.bool rs, .slice a n c]] w fun e w' => ∃ cd, e = .returned (.int .i64 cd) ∧ ∃ M' R' wk', JkNx S w w' jb b M' fs ct R' wk' ∧ Kept S w w' ∧ OpQ M fs ct R wk rs X cd M' R' wk' := by
  obtain ⟨w1, hw1⟩ : ∃ w1, w1 = w.alloc (opBox rs a n c) := ⟨_, rfl⟩
  have ba : Below w.heap.size w w1 := by rw [hw1]; exact bel_alloc w _
  have hs1 := ba.size
  have h1 : JK S SD w1 jb b M fs ct (streamF R) wk vs := h.keep ⟨ba.size, fun k hk hl => ba.block k hl⟩
  have hlt1 : ∀ k, S k → k < w1.heap.size := fun k hk => Nat.lt_of_lt_of_le (hlt k hk) hs1
  have hT1 : ∀ k, T k → k < w1.heap.size ∧ ¬ S k := fun k hk => ⟨Nat.lt_of_lt_of_le (hT k hk).1 hs1, (hT k hk).2⟩
  have hR1 : RB T w1 (.slice a n c) X := hR.keep ⟨ba.size, fun k hk hl => ba.block k hl⟩
  have kk : ∀ {w'}, Kept S w1 w' → Kept S w w' := fun k => (show Kept S w w1 from ⟨ba.os, ba.tape, ba.output, ba.size, fun k hk _ => ba.block k hk⟩).trans k
  have nx : ∀ {w' M' R' wk'}, JkNx S w1 w' jb b M' fs ct R' wk' → JkNx S w w' jb b M' fs ct R' wk' := fun ⟨x, y, z, j, hj⟩ => ⟨x, y, z, j, fun k hk => by
    rcases hj k hk with hk | hk
    · exact Or.inl hk
    · exact Or.inr ⟨by omega, hk.2⟩⟩
  cases rs with
  | true =>
    refine do_reset _ _ _ _ _ _ ?_
    rw [← hw1]
    exact (rst_op S SD w1 jb b M fs ct R wk vs X h1 hlt1 hc).mono fun e w' ⟨cd, q1, M', R', wk', q2, q3, q4⟩ => ⟨cd, q1, M', R', wk', nx q2, kk q3, q4⟩
  | false =>
    refine do_append _ _ _ _ _ _ ?_
    rw [← hw1]
    exact (app_op S SD T w1 jb b M fs ct R wk vs X a n c h1 hlt1 hT1 hR1 hl hc).mono fun e w' ⟨cd, q1, M', R', wk', q2, q3, q4⟩ => ⟨cd, q1, M', R', wk', nx q2, kk q3, q4⟩
end
end Go.Proofs.Ytofmijebinnejaa

/- The reference's Uint, Bytes, Text onto whatever bytes; Stream, Head of the journal's reference. Bounds on sizes alone. -/
namespace Go.Proofs.Ytofmijebinnejaa
open Go.RowKit
open Wr (enc)
set_option maxRecDepth 100000

theorem by8_app (a b : List Int) : by8 (a ++ b) = by8 a ++ by8 b := by simp [by8]
theorem conv_by8 {W : World} {a : Option Addr} {n c : Nat} {L : List Int} (h : Rd W (.slice a n c) (by8 L)) : (convert 46 9 (.slice a n c)).run Try.prog W = .ok (.string (strOfNums L)) W := by
  obtain ⟨ao, cap, e, h2, h3, h4⟩ := h
  simp only [Value.slice.injEq] at e
  obtain ⟨rfl, rfl, rfl⟩ := e
  rw [by8_length] at h4 ⊢
  refine Wr.run_str W 46 9 5 Try.underlying46 Try.underlying5 Try.underlying9 a L c fun h0 => ?_
  obtain ⟨g, o, rfl, hg, hc⟩ := h4 h0
  refine ⟨_, rfl, fun j v hv => ?_⟩
  rw [Addr.add_mid]
  exact hc j v hv
/-- The bytes so far, in a row of the call's own. -/
def EO (wA W : World) (v : Value) (L : List Int) : Prop := Ow 5 wA.heap.size wA W v (by8 L)
theorem EO.bel {wA W : World} {v : Value} {L : List Int} (h : EO wA W v L) : Below wA.heap.size wA W := Ow.bel h
theorem EO.later {wA W W' : World} {v : Value} {L : List Int} (h : EO wA W v L) (hb : Below W.heap.size W W') : EO wA W' v L := Ow.later h hb
theorem EO.start {wA W W' : World} {v v' : Value} {L L' : List Int} (h : EO wA W v L) (k : EO W W' v' L') : EO wA W' v' L' := Ow.start k (Nat.le_refl _) h.bel (Ow.size h)
theorem EO.rdd {wA W : World} {v : Value} {L : List Int} (h : EO wA W v L) (hl : L.length ≤ 100000000000000) : Rd W v (by8 L) := Ow.rd h (by rw [by8_length]; omega)
theorem eo_nil (wA : World) : EO wA wA (.slice none 0 0) [] := ow_nil _ _
theorem eo_len {wA W : World} {x : Option Addr} {k c : Nat} {L : List Int} (h : EO wA W (.slice x k c) L) : k = L.length := by
  obtain ⟨ao, cap, e⟩ := own_shape (Ow.own h)
  simp only [Value.slice.injEq] at e
  rw [e.2.1, by8_length]
theorem eo_size {wA W : World} {v : Value} {L : List Int} (h : EO wA W v L) : wA.heap.size ≤ W.heap.size := Ow.size h
/-- What the reference's writers give. -/
def EP (wA W : World) (L : List Int) (e : Ending) (w' : World) : Prop := ∃ x k c, e = .returned (.slice x k c) ∧ EO wA w' (.slice x k c) L ∧ Below W.heap.size W w'
set_option maxHeartbeats 1600000 in
theorem fuint_rd (l : List Int) (x0 : Option Addr) (n0 cap0 : Nat) (n : Nat) (w : World) (hL : Rd w (.slice x0 n0 cap0) (by8 l)) (hl : l.length ≤ 100000000000000) (hn : n < 18446744073709551616) :
    Calls Try.prog 42 #[.slice x0 n0 cap0, .int .u64 n] w fun e w' => ∃ x k c, e = .returned (.slice x k c) ∧ EO w w' (.slice x k c) (l ++ Wr.enc n) := by
  have hel := Wr.enc_length_10 n hn
  have HL := hid_of hL
  have HLL := hid_of hl
  clear hL
  go_enter Try.func42, Try.ntmps42
  go_wp2_with (at_builtin; (refine wpList_app u8E rfl _ _ rfl (v := .slice (some ⟨w.heap.size, 0, none⟩) 0 0) (l := []) rfl (ow_empty 5 w) (vx := .slice x0 n0 cap0) (m := by8 l) rfl (HL.out.at (bel_alloc w _)) (by8_cells l) (by have := HLL.out; simp [by8_length]; omega) (by have := HLL.out; simp [by8_length]; omega) ?_); intro xo1 n1 c1 w1 hn1 h1; have H1 : Hid (EO w w1 (.slice xo1 n1 c1) l) := hid_of h1; clear h1 hn1)
  go_loopw [1, 5] (fun nv sv wr => ∃ k ao m cap, nv = .int .u64 ((n / 128 ^ k : Nat) : Int) ∧ sv = .slice ao m cap ∧ Hid (k ≤ 9 ∧ (∀ j, j < k → 128 ≤ n / 128 ^ j) ∧ EO w wr (.slice ao m cap) (l ++ Wr.encTake k n))) (fun nv _ _ => (intOf nv).toNat)
  case atStart => exact ⟨0, xo1, n1, c1, by simp, rfl, hid_of ⟨by omega, fun j hj => by omega, by have := H1.out; rw [show l ++ Wr.encTake 0 n = l by simp [Wr.encTake]]; exact this⟩⟩
  case round =>
    obtain ⟨k, ao, mm, cap, rfl, rfl, hinv⟩ := hrel
    obtain ⟨m, hm⟩ : ∃ m, m = n / 128 ^ k := ⟨_, rfl⟩
    rw [← hm]
    have hmn : m ≤ n := by rw [hm]; exact Nat.div_le_self _ _
    have HM := hid_of hm
    clear hm
    have HK : Hid (k ≤ 9) := hid_of hinv.out.1
    have HOS : Hid (Ow 5 w.heap.size w wr (.slice ao mm cap) (by8 (l ++ Wr.encTake k n))) := hid_of hinv.out.2.2
    have HLN : Hid ((by8 (l ++ Wr.encTake k n)).length ≤ 100000000000009) := hid_of (by have := HK.out; have := HLL.out; rw [by8_length, List.length_append, Wr.encTake_length]; omega)
    have HJ := hid_of hinv.out.2.1
    clear hinv
    by_cases hlt : 128 ≤ m
    · have hk8 : k ≤ 8 := by
        have h1 := HM.out
        have h0 := HK.out
        rcases Nat.lt_or_ge k 9 with h2 | h2
        · omega
        · obtain rfl : k = 9 := by omega
          have h3 : m = n / 9223372036854775808 := h1
          omega
      go_wp2_with (at_builtin; (refine wpList_app u8E rfl _ _ rfl (v := .slice ao mm cap) (l := by8 (l ++ Wr.encTake k n)) rfl (HOS.out.alloc _) (vx := .slice (some ⟨wr.heap.size, 0, none⟩) 1 1) (m := [.int .u8 ((m : Int) % 128 + 128)]) rfl (rd_new rfl rfl (by simp)) (by intro u hu; rw [List.mem_singleton.1 hu]; rfl) (by have := HLN.out; simp only [List.length_singleton]; omega) (by have := HLN.out; simp only [List.length_singleton]; omega) ?_); intro xo2 n2 c2 w2 hn2 h2; have H2 := hid_of h2; clear h2 hn2)
      go_roundw
      case rel =>
        refine ⟨k + 1, xo2, n2, c2, ?_, rfl, hid_of ⟨by omega, fun j hj => ?_, ?_⟩⟩
        · rw [HM.out, Nat.pow_succ, ← Nat.div_div_eq_div_mul]
          go_num
        · rcases Nat.lt_or_ge j k with h1 | h1
          · exact HJ.out j h1
          · obtain rfl : j = k := by omega
            rw [← HM.out]; exact hlt
        · have h5 := H2.out
          unfold EO
          rw [Wr.encTake_snoc, ← HM.out, ← List.append_assoc, by8_app]
          rw [show (m : Int) % 128 + 128 = ((m % 128 + 128 : Nat) : Int) by omega] at h5
          exact h5
      case measure => simp [intOf]; omega
    · go_wp2_with (at_builtin; (refine wpList_app u8E rfl _ _ rfl (v := .slice ao mm cap) (l := by8 (l ++ Wr.encTake k n)) rfl (HOS.out.alloc _) (vx := .slice (some ⟨wr.heap.size, 0, none⟩) 1 1) (m := [.int .u8 (m : Int)]) rfl (rd_new rfl rfl (by simp)) (by intro u hu; rw [List.mem_singleton.1 hu]; rfl) (by have := HLN.out; simp only [List.length_singleton]; omega) (by have := HLN.out; simp only [List.length_singleton]; omega) ?_); intro xo2 n2 c2 w2 hn2 h2; have H2 := hid_of h2; clear h2 hn2)
      go_ret
      refine ⟨_, _, _, rfl, ?_⟩
      have h5 := H2.out
      unfold EO
      rw [Wr.enc_take k n HJ.out, ← HM.out, Wr.enc_lt (by omega), ← List.append_assoc, by8_app]
      exact h5
theorem fuint_eo {wA W : World} {L : List Int} {x0 : Option Addr} {n0 c0 : Nat} (n : Nat) (h : EO wA W (.slice x0 n0 c0) L) (hl : L.length ≤ 100000000000000) (hn : n < 18446744073709551616) :
    Calls Try.prog 42 #[.slice x0 n0 c0, .int .u64 n] W (EP wA W (L ++ Wr.enc n)) :=
  (fuint_rd L x0 n0 c0 n W (h.rdd hl) hl hn).mono fun e w' ⟨x, k, c, q1, q2⟩ => ⟨x, k, c, q1, h.start q2, q2.bel⟩
set_option maxHeartbeats 1600000 in
theorem fbytes_eo {wA W : World} {L : List Int} {x0 : Option Addr} {n0 c0 : Nat} (a : Option Addr) (n c : Nat) (m : List Int) (h : EO wA W (.slice x0 n0 c0) L) (hl : L.length ≤ 90000000000000) (R : Rd W (.slice a n c) (by8 m)) (hm : m.length ≤ 1000000000) :
    Calls Try.prog 60 #[.slice x0 n0 c0, .slice a n c] W (EP wA W (L ++ enc m.length ++ m)) := by
  have hn := (rd_cut R).1
  rw [by8_length] at hn
  subst hn
  have C := hid_of (fuint_rd L x0 n0 c0 m.length W (h.rdd (by omega)) (by omega) (by omega))
  have HST := hid_of h
  have HR := hid_of R
  have HS : Hid ((L ++ enc m.length).length ≤ 90000000000010) := hid_of (by have := Wr.enc_length_10 m.length (by omega); rw [List.length_append]; omega)
  have HM := hid_of hm
  have hm9 : m.length ≤ 9223372036854775807 := by omega
  obtain ⟨n, hn⟩ : ∃ n, n = m.length := ⟨_, rfl⟩
  rw [← hn] at C HS hm9 HM
  rw [← hn]
  have HR2 : Hid (Rd W (.slice a n c) (by8 m)) := hid_of (by rw [hn]; exact R)
  have HN := hid_of hn
  clear h hl R hm HR hn
  go_enter Try.func60, Try.ntmps60
  go_wp2_with (first
    | (go_at_call 42; ((with_reducible refine (C.out).mono ?_); (rintro e w1 ⟨y, k, c1, rfl, h1⟩)); have H1 := hid_of h1; clear h1)
    | (at_builtin; (refine wpList_app u8E rfl _ _ rfl (v := .slice y k c1) (l := by8 (L ++ enc n)) rfl H1.out (vx := .slice a n c) (m := by8 m) rfl (HR2.out.at H1.out.bel) (by8_cells _) (by have := HS.out; have := HN.out; have := HM.out; rw [by8_length, by8_length]; omega) (by have := HS.out; have := HN.out; have := HM.out; rw [by8_length, by8_length]; omega) ?_); intro ao2 n2 c2 w2 hn2 h2; have O2 : Hid (EO W w2 (.slice ao2 n2 c2) (L ++ enc n ++ m)) := hid_of (by unfold EO; rw [by8_app]; exact h2); clear h2 hn2))
  go_ret
  exact ⟨_, _, _, rfl, HST.out.start O2.out, O2.out.bel⟩
set_option maxHeartbeats 1600000 in
theorem ftext_any (w : World) :
    Calls Try.prog 57 #[.slice none 0 0, .string jnB] w (EP w w (enc 7 ++ jnT)) := by
  have C := hid_of (show Calls Try.prog 42 #[.slice none 0 0, .int .u64 (IntKind.u64.wrap (jnB.size : Int))] w (fun e w' => ∃ x k c, e = .returned (.slice x k c) ∧ EO w w' (.slice x k c) ([] ++ Wr.enc 7)) from by
    rw [show IntKind.u64.wrap (jnB.size : Int) = ((7 : Nat) : Int) by rw [jnB_size]; exact IntWalk.u64_in _ (by omega)]
    exact fuint_rd [] none 0 0 7 w ((eo_nil w).rdd (by simp)) (by simp) (by omega))
  have HSR := hid_of (fun W' => show Src Try.prog 1 9 (.string jnB) 7 (by8 jnT) W' from Src.ofString (P := Try.prog) W' Try.underlying9 jnB)
  have e7 : (enc 7).length = 1 := by rw [Wr.enc_lt (by omega)]; rfl
  have HE := hid_of e7
  clear e7
  obtain ⟨i0, hi, hz0, hz1, hz2⟩ := info_parts u8E.info
  have HI := hid_of (And.intro hi (And.intro hz0 (And.intro hz1 hz2)))
  clear hi hz0 hz1 hz2
  go_enter Try.func57, Try.ntmps57
  go_wp2_with (first
    | (go_at_call 42; go_loud (((with_reducible refine (C.out).mono ?_); (rintro e w1 ⟨y, k, c, rfl, h1⟩))); have H1 := hid_of h1; have K1 : Hid (k = 1) := hid_of ((eo_len h1).trans (by rw [List.nil_append]; exact HE.out)); clear h1)
    | (at_builtin; (refine wpList_append_src _ rfl _ _ 46 9 rfl w.heap.size 5 i0 (.int .u8 0) 1 1 Try.underlying46 HI.out.1 HI.out.2.1 HI.out.2.2.1 HI.out.2.2.2 rfl (by decide) (.slice y k c) k (by8 ([] ++ enc 7)) rfl (by have h9 := Ow.own H1.out; rwa [by8_length, ← eo_len H1.out] at h9) (.string jnB) 7 (by8 jnT) rfl (HSR.out _) (by have := K1.out; unfold maxLen; omega) (by have := K1.out; omega) (eo_size H1.out) ?_); intro v2 w2 ho hg _ _; obtain ⟨z, c2, rfl⟩ := own_shape ho; have O2 : Hid (EO w w2 (.slice z (k + 7) c2) (enc 7 ++ jnT)) := hid_of (by
        have h9 := Ow.app (m := by8 jnT) H1.out ho (by rw [by8_length, ← eo_len H1.out]; rfl) hg
        unfold EO; rw [by8_app]; exact h9); clear ho hg))
  go_ret
  exact ⟨_, _, _, rfl, O2.out, O2.out.bel⟩
set_option maxHeartbeats 3200000 in
theorem rstream_any (S : Nat → Prop) (R : List (List Int)) (a : Option Addr) (n c : Nat) (w : World) (h : RB S w (.slice a n c) R) (hS : ∀ k, S k → k < w.heap.size) (hl : (streamF R).length ≤ 1000000000) :
    Calls Try.prog 38 #[.slice a n c] w fun e w' => ∃ x c2, e = .returned (.slice x (streamF R).length c2) ∧ Below w.heap.size w w' := by
  obtain ⟨hn, hc1, hc2⟩ := h.len
  have HN := hid_of hn
  have HR := hid_of (h.mono hS)
  have HL := hid_of hl
  have hn9 : n ≤ 9223372036854775807 := by omega
  have E0 := hid_of (show EO w (w.alloc (.cells #[] 5)) (.slice (some ⟨w.heap.size, 0, none⟩) 0 0) [] from ow_empty _ _)
  clear h hn hl hS
  go_enter Try.func38, Try.ntmps38
  go_wp2
  go_loopw [3, 4] (fun ov iv wr => ∃ (j : Nat) (oo : Option Addr) (on oc : Nat), ov = .slice oo on oc ∧ j ≤ n ∧ iv = .int .i64 j ∧ Hid (EO w wr (.slice oo on oc) (streamF (R.take j)))) (fun _ iv _ => n - (intOf iv).toNat)
  case atStart => exact ⟨0, _, _, _, rfl, Nat.zero_le _, rfl, E0⟩
  case round =>
    obtain ⟨j, oo, on, oc, rfl, hj, rfl, hk⟩ := hrel
    by_cases hlt : j < n
    · have d1 : decide (j < n) = true := decide_eq_true hlt
      have hlt' : (j : Int) < (n : Int) := by omega
      obtain ⟨xs, q1, q2, q3, q4⟩ := HR.out.at hk.out.bel
      obtain ⟨l, hlj⟩ : ∃ l, R[j]? = some l := ⟨_, List.getElem?_eq_getElem (by have := HN.out; omega)⟩
      obtain ⟨x, hx⟩ : ∃ x, xs[j]? = some x := ⟨_, List.getElem?_eq_getElem (by have := HN.out; omega)⟩
      obtain ⟨g, o, rfl, k0⟩ := rd_at q1 hx
      have hcr := q4 j x l hx hlj
      obtain ⟨xo, xn, xc, rfl⟩ : ∃ ao m c, x = .slice ao m c := by obtain ⟨a, c, e, _⟩ := hcr.1; exact ⟨a, _, c, e⟩
      have CB := hid_of (fbytes_eo xo xn xc l hk.out (by have := HL.out; have := stream_le (R := R) j; omega) hcr.1 (by have := HL.out; have := rec_le hlj; omega))
      rw [← stream_take hlj] at CB
      have HLT := hid_of hlt
      clear hlt hx hlj q1 q2 q3 q4 hcr
      go_wp2_with (go_at_call 60; ((with_reducible refine (CB.out).mono ?_); (rintro e w2 ⟨y2, k2, c2, rfl, q1, q2⟩)); have O2 := hid_of q1; clear q1 q2)
      go_roundw
      case rel => exact ⟨j + 1, _, _, _, rfl, HLT.out, by go_num, O2⟩
      case measure => have := HLT.out; simp [intOf]; omega
    · obtain rfl : n = j := by omega
      have d1 : decide (n < n) = false := by simp
      have W1 : Hid (EO w wr (.slice oo on oc) (streamF R)) := hid_of (by have h9 := hk.out; rwa [List.take_of_length_le (by have := HN.out; omega)] at h9)
      go_wp2
      go_ret
      exact ⟨oo, oc, by rw [← eo_len W1.out]; rfl, W1.out.bel⟩
end Go.Proofs.Ytofmijebinnejaa

/- The journal's reference: Same, Left, Few, After; the law's shape. Bounds on sizes alone. -/
namespace Go.Proofs.Ytofmijebinnejaa
open Go.RowKit
open Wr (enc enc_length_pos enc_length_10)
set_option maxRecDepth 100000
set_option maxHeartbeats 6400000

theorem same_any (S1 S2 : Nat → Prop) (R1 R2 : List (List Int)) (a1 : Option Addr) (n1 c1 : Nat) (a2 : Option Addr) (n2 c2 : Nat) (w : World) (h1 : RB S1 w (.slice a1 n1 c1) R1) (h2 : RB S2 w (.slice a2 n2 c2) R2) :
    Calls Try.prog 18 #[.slice a1 n1 c1, .slice a2 n2 c2] w fun e w' => ∃ x, e = .returned (.bool x) ∧ (R1 = R2 → x = true) ∧ Below w.heap.size w w' := by
  obtain ⟨xs1, q1, _, q3, q4⟩ := h1
  obtain ⟨xs2, p1, _, p3, p4⟩ := h2
  have hn1 := (rd_cut q1).1
  have hn2 := (rd_cut p1).1
  have hm1 := (rd_cut q1).2
  by_cases hne : n1 = n2
  · subst hne
    have hn9 : n1 ≤ 9223372036854775807 := by omega
    have HCC := hid_of (fun j (hj : j < n1) (X : World) (hX : Below w.heap.size w X) => show ∃ (g1 o1 g2 o2 : Nat) (b1 : Option Addr) (m1 d1 : Nat) (b2 : Option Addr) (m2 d2 : Nat) (s1 s2 : ByteArray), a1 = some ⟨g1, o1, none⟩ ∧ a2 = some ⟨g2, o2, none⟩ ∧ X.cell? ⟨g1, o1 + j, none⟩ = some (.slice b1 m1 d1) ∧ X.cell? ⟨g2, o2 + j, none⟩ = some (.slice b2 m2 d2) ∧ (∀ p, (convert 46 9 (.slice b1 m1 d1)).run Try.prog (X.drewN p) = .ok (.string s1) (X.drewN p)) ∧ (∀ p, (convert 46 9 (.slice b2 m2 d2)).run Try.prog (X.drewN p) = .ok (.string s2) (X.drewN p)) ∧ (R1 = R2 → (s1.toList == s2.toList) = true) from by
      obtain ⟨x1, hx1⟩ : ∃ x, xs1[j]? = some x := ⟨_, List.getElem?_eq_getElem (by omega)⟩
      obtain ⟨x2, hx2⟩ : ∃ x, xs2[j]? = some x := ⟨_, List.getElem?_eq_getElem (by omega)⟩
      obtain ⟨l1, hl1⟩ : ∃ l, R1[j]? = some l := ⟨_, List.getElem?_eq_getElem (by omega)⟩
      obtain ⟨l2, hl2⟩ : ∃ l, R2[j]? = some l := ⟨_, List.getElem?_eq_getElem (by omega)⟩
      obtain ⟨g1, o1, e1, k1⟩ := rd_at (q1.at hX) hx1
      obtain ⟨g2, o2, e2, k2⟩ := rd_at (p1.at hX) hx2
      have r1 := (q4 j x1 l1 hx1 hl1).1
      have r2 := (p4 j x2 l2 hx2 hl2).1
      obtain ⟨b1, m1, d1, rfl⟩ : ∃ ao m c, x1 = .slice ao m c := by obtain ⟨a, c, e, _⟩ := r1; exact ⟨a, _, c, e⟩
      obtain ⟨b2, m2, d2, rfl⟩ : ∃ ao m c, x2 = .slice ao m c := by obtain ⟨a, c, e, _⟩ := r2; exact ⟨a, _, c, e⟩
      refine ⟨g1, o1, g2, o2, b1, m1, d1, b2, m2, d2, strOfNums l1, strOfNums l2, e1, e2, k1, k2, fun p => conv_by8 (r1.at (bel_drewN hX p)), fun p => conv_by8 (r2.at (bel_drewN hX p)), fun e => ?_⟩
      rw [e, hl2] at hl1
      rw [Option.some.inj hl1]
      exact beq_self_eq_true _)
    clear q1 q3 q4 p1 p3 p4 hn1 hn2
    go_enter Try.func18, Try.ntmps18
    go_wp2
    go_loopw [5] (fun iv wr => ∃ j : Nat, j ≤ n1 ∧ iv = .int .i64 j ∧ Hid (Below w.heap.size w wr)) (fun iv _ => n1 - (intOf iv).toNat)
    case atStart => exact ⟨0, Nat.zero_le _, rfl, hid_of (Below.refl _ _)⟩
    case round =>
      obtain ⟨j, hj, rfl, hb⟩ := hrel
      by_cases hlt : j < n1
      · have d1 : decide (j < n1) = true := decide_eq_true hlt
        have hlt' : (j : Int) < (n1 : Int) := by omega
        obtain ⟨g1, o1, g2, o2, b1, m1, e1, b2, m2, e2, s1, s2, rfl, rfl, k1, k2, v1, v2, hs⟩ := HCC.out j hlt wr hb.out
        have HS := hid_of hs
        have HLT := hid_of hlt
        have k1d : ∀ q, (wr.drewN q).cell? ⟨g1, o1 + j, none⟩ = some (.slice b1 m1 e1) := fun q => k1
        have k2d : ∀ q, (wr.drewN q).cell? ⟨g2, o2 + j, none⟩ = some (.slice b2 m2 e2) := fun q => k2
        have v1d : ∀ q, (convert 46 9 (.slice b1 m1 e1)).run Try.prog (wr.drewN q) = .ok (.string s1) (wr.drewN q) := v1
        have v2d : ∀ q, (convert 46 9 (.slice b2 m2 e2)).run Try.prog (wr.drewN q) = .ok (.string s2) (wr.drewN q) := v2
        clear hs v1 v2 hlt
        by_cases hse : (s1.toList == s2.toList) = true
        · clear HS
          go_wp2
          go_quiet (fail)
          all_goals go_wp2
          all_goals go_roundw
          all_goals first
            | exact ⟨j + 1, HLT.out, by go_num, hid_of (bel_drewN hb.out _)⟩
            | (have := HLT.out; simp [intOf]; omega)
        · have hse2 : (s1.toList == s2.toList) = false := by simpa using hse
          have HNO := hid_of (fun e => hse (HS.out e))
          clear HS hse
          go_wp2
          go_quiet (fail)
          all_goals go_wp2
          all_goals go_ret
          all_goals exact ⟨false, rfl, fun e => absurd e HNO.out, bel_drewN hb.out _⟩
      · obtain rfl : n1 = j := by omega
        have d1 : decide (n1 < n1) = false := by simp
        go_wp2
        go_ret
        exact ⟨true, rfl, fun _ => rfl, hb.out⟩
  · have hne2 : ¬ (n1 : Int) = (n2 : Int) := by omega
    have HNO := hid_of (show ¬ R1 = R2 from fun e => hne (by rw [hn1, hn2, q3, p3, e]))
    have b1 : ((n1 : Int) == (n2 : Int)) = false := beq_eq_false_iff_ne.2 hne2
    have b2 : ((n1 : Int) != (n2 : Int)) = true := by rw [bne, b1]; rfl
    clear q1 q3 q4 p1 p3 p4 hn1 hn2
    go_enter Try.func18, Try.ntmps18
    go_wp2
    go_ret
    exact ⟨false, rfl, fun e => absurd e HNO.out, Below.refl _ _⟩
/-- The greatest length of a record that fits: of the first j lengths. -/
theorem rleft_any (S : Nat → Prop) (R : List (List Int)) (a : Option Addr) (n c : Nat) (area : Nat) (w : World) (h : RB S w (.slice a n c) R) (hS : ∀ k, S k → k < w.heap.size) (hl : (streamF R).length ≤ area) (ha : area ≤ 268435456) :
    Calls Try.prog 21 #[.slice a n c, .int .i64 area] w fun e w' => e = .returned (.int .i64 (leftF R area)) ∧ Below w.heap.size w w' := by
  have CS := hid_of (rstream_any S R a n c w h hS (by omega))
  obtain ⟨d, hd⟩ : ∃ d, d = (streamF R).length := ⟨_, rfl⟩
  unfold leftF
  rw [← hd] at CS hl ⊢
  obtain ⟨r, hr⟩ : ∃ r, r = area - d := ⟨_, rfl⟩
  rw [← hr]
  have a1 : IntKind.i64.wrap ((area : Int) - (d : Int)) = (r : Int) := by rw [show (area : Int) - (d : Int) = (r : Int) by omega]; exact IntWalk.i64_in _ (by omega)
  have hr9 : r ≤ 268435456 := by omega
  have CU := hid_of (fun (k : Nat) (hk : k ≤ 268435456) (X : World) => show Calls Try.prog 42 #[.slice none 0 0, .int .u64 k] X (fun e w' => ∃ x c, e = .returned (.slice x (enc k).length c) ∧ Below X.heap.size X w') from (fuint_rd [] none 0 0 k X ((eo_nil X).rdd (by simp)) (by simp) (by omega)).mono fun e w' ⟨x, k2, c, q1, q2⟩ => ⟨x, c, by rw [q1, eo_len q2, List.nil_append], q2.bel⟩)
  clear h hS hl hr hd ha
  go_enter Try.func21, Try.ntmps21
  go_wp2_with (go_at_call 38; ((with_reducible refine (CS.out).mono ?_); (rintro e w1 ⟨x1, c1, rfl, q1⟩)); have B1 := hid_of q1; clear q1)
  go_loopw [6, 7] (fun bv iv wr => ∃ j : Nat, j ≤ r ∧ iv = .int .i64 j ∧ bv = .int .i64 (bestL r j) ∧ Hid (Below w.heap.size w wr)) (fun _ iv _ => r - (intOf iv).toNat)
  case atStart => exact ⟨0, Nat.zero_le _, rfl, rfl, B1⟩
  case round =>
    obtain ⟨j, hj, rfl, rfl, hb⟩ := hrel
    by_cases hlt : j < r
    · have d1 : decide (j < r) = true := decide_eq_true hlt
      have hlt' : (j : Int) < (r : Int) := by omega
      have hel := enc_length_10 j (by omega)
      have d3 : IntKind.u64.wrap (j : Int) = (j : Int) := IntWalk.u64_in _ (by omega)
      have CJ := hid_of (CU.out j (by omega))
      obtain ⟨m, hm⟩ : ∃ m, m = (enc j).length := ⟨_, rfl⟩
      rw [← hm] at CJ hel
      obtain ⟨bj, hbj⟩ : ∃ bj, bj = bestL r j := ⟨_, rfl⟩
      have HLT := hid_of hlt
      by_cases hf : j + m ≤ r
      · have HB : Hid ((j : Int) = bestL r (j + 1)) := hid_of (by rw [bestL, if_pos (by rw [← hm]; exact hf)])
        have hf' : (j : Int) + (m : Int) ≤ (r : Int) := by omega
        have d4 : decide ((j : Int) + (m : Int) ≤ (r : Int)) = true := decide_eq_true hf'
        have d5 : decide (j + m ≤ r) = true := decide_eq_true hf
        rw [← hbj]
        clear hm hbj hlt
        go_wp2_with (go_at_call 42; ((with_reducible refine (CJ.out wr).mono ?_); (rintro e w2 ⟨x2, c2, rfl, q1⟩)); have B2 := hid_of (hb.out.trans (q1.mono hb.out.size)); clear q1)
        go_roundw
        case rel => exact ⟨j + 1, HLT.out, by go_num, by rw [HB.out], B2⟩
        case measure => have := HLT.out; simp [intOf]; omega
      · have HB : Hid (bj = bestL r (j + 1)) := hid_of (by rw [bestL, if_neg (by rw [← hm]; exact hf), hbj])
        have hf' : ¬ (j : Int) + (m : Int) ≤ (r : Int) := by omega
        have d4 : decide ((j : Int) + (m : Int) ≤ (r : Int)) = false := decide_eq_false hf'
        have d5 : decide (j + m ≤ r) = false := decide_eq_false hf
        rw [← hbj]
        clear hm hbj hlt
        go_wp2_with (go_at_call 42; ((with_reducible refine (CJ.out wr).mono ?_); (rintro e w2 ⟨x2, c2, rfl, q1⟩)); have B2 := hid_of (hb.out.trans (q1.mono hb.out.size)); clear q1)
        go_roundw
        case rel => exact ⟨j + 1, HLT.out, by go_num, by rw [HB.out], B2⟩
        case measure => have := HLT.out; simp [intOf]; omega
    · obtain rfl : j = r := by omega
      have d1 : decide (j < j) = false := by simp
      go_wp2
      go_ret
      exact ⟨rfl, hb.out⟩
theorem shape_any (x y : Nat) (_hx : x ≤ 255) (_hy : y ≤ 255) (w : World) : Calls Try.prog 13 #[.int .u8 x, .int .u8 y] w fun e w' => e = .returned (.tuple #[.int .i64 (2 + x % 6 : Nat), .int .i64 (16 + y % 40 : Nat)]) ∧ w = w' := by
  go_enter Try.func13, Try.ntmps13
  go_wp2
  go_ret2
  exact ⟨by first | rfl | (congr 1 <;> simp <;> omega), rfl⟩
end Go.Proofs.Ytofmijebinnejaa
