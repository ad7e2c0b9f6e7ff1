/- The law of Shuffle. No condition. -/
import Derived.Test.YtpmajdgabpmooaaRanRefA
namespace Go.Proofs.Ytpmajdgabpmooaa
open Go.RowKit

theorem shuffle_bad (b : Nat) (z : Int) (w : World) (hz : z < 0 ∨ 10000 < z) :
    Calls Try.prog 22 #[.pointer (some ⟨b, 0, none⟩), .int .i64 z] w fun e w' => e = .returned (.tuple #[.slice none 0 0, .int .i64 1]) ∧ w = w' := by
  rcases hz with hz | hz
  · have d0 : decide (z < 0) = true := by simp; omega
    go_enter Try.func22, Try.ntmps22
    go_wp2
    go_ret2
    exact ⟨rfl, rfl⟩
  · have d0 : decide (z < 0) = false := by simp; omega
    have d1 : decide ((10000 : Int) < z) = true := by simp; omega
    go_enter Try.func22, Try.ntmps22
    go_wp2
    go_ret2
    exact ⟨rfl, rfl⟩
theorem okTo_permF {l : List Nat} {n : Nat} (h : PermF l n) : okTo (nI l) (nI l).length := by
  obtain ⟨h1, h2, h3⟩ := h
  intro i hi
  rw [nI_length] at hi ⊢
  rw [nI_at]
  refine ⟨by omega, ?_, fun j hj e => ?_⟩
  · have := h2 i (by omega); omega
  · rw [nI_at] at e
    have := h3 j i (by omega) (by omega) (by omega)
    omega
theorem permB_shuf (s n : Nat) : permB (nI (shufN s n (n - 1))) = true := by
  refine permB_yes ?_
  by_cases h : n = 0
  · subst h; intro i hi; simp [shufN, nI] at hi
  · exact okTo_permF (shufN_perm s n (n - 1) (by omega))
theorem Ow.rdI {E B : Nat} {w0 w : World} {v : Value} {l : List Int} (h : Ow E B w0 w v (is l)) (hl : l.length ≤ 140737488355328) : Rd w v (is l) := h.rd (by rw [is_length]; exact hl)

set_option maxRecDepth 100000 in
set_option maxHeartbeats 1600000 in
theorem shuffle_law (a0 a1 : Int) (w0 : (Lit.int .u64 a0).wf = true) (w1 : (Lit.int .i64 a1).wf = true) (w : World) :
    Calls Try.prog 7 #[.int .u64 a0, .int .i64 a1] w fun e w' => e = .returned (.bool true) ∧ Below w.heap.size w w' := by
  obtain ⟨s, rfl, hs⟩ := u64_nat w0
  have HS := hid_of hs
  have HW : Hid (w.heap.size ≤ w.heap.size) := hid_of (Nat.le_refl _)
  obtain ⟨q, hq⟩ : ∃ q, q = mixN (atN s 1) := ⟨_, rfl⟩
  have HQ := hid_of hq
  have HST : Hid (stepN s = atN s 1) := hid_of (by unfold stepN atN; omega)
  clear w0 w1 hs hq
  by_cases hbig : 300 < a1 ∧ a1 ≤ 10000
  · have d0 : decide ((300 : Int) < a1) = true := by simp; omega
    have d1 : decide (a1 ≤ (10000 : Int)) = true := by simp; omega
    clear hbig
    go_enter Try.func7, Try.ntmps7
    go_wp2_with (first
      | (go_at_call 13; ((with_reducible refine (new_any s w HS.out).mono ?_); (rintro e w1 ⟨rfl, h1, hb1⟩; have B1 := hid_of hb1; clear h1 hb1)))
      | (go_at_call 16; ((with_reducible refine (awake_any w1).mono ?_); (rintro e w2 ⟨rfl, h2⟩; have B2 := hid_of (step_b B1.out h2 HW.out); clear h2))))
    go_ret
    exact ⟨rfl, B2.out⟩
  · by_cases hbad : a1 < 0 ∨ 10000 < a1
    · have HBAD := hid_of hbad
      by_cases hneg : a1 < 0
      · have e0 : decide ((300 : Int) < a1) = false := by simp; omega
        have e2 : decide (a1 < 0) = true := by simp; omega
        clear hbad hbig
        go_enter Try.func7, Try.ntmps7
        go_wp2_with (first
          | (go_at_call 13; ((with_reducible refine (new_any s w HS.out).mono ?_); (rintro e w1 ⟨rfl, h1, hb1⟩; have S1 := hid_of h1; have B1 := hid_of hb1; clear h1 hb1)))
          | (go_at_call 22; ((with_reducible refine (shuffle_bad w.heap.size a1 w1 HBAD.out).mono ?_); (rintro e w' ⟨rfl, rfl⟩)))
          | (go_at_call 16; ((with_reducible refine (awake_any w1).mono ?_); (rintro e w2 ⟨rfl, h2⟩; have S2 := hid_of (S1.out.bel h2); have B2 := hid_of (step_b B1.out h2 HW.out); clear h2)))
          | (go_at_call 14; ((with_reducible refine (next_val w.heap.size s q w2 S2.out (by rw [HST.out]; exact HQ.out)).mono ?_); (rintro e w3 ⟨rfl, h3, hk3⟩; have B3 := hid_of (step_k B2.out hk3 HW.out HW.out); clear h3 hk3)))
          | (go_at_call 15; ((with_reducible refine (at_val s 1 q 1 w3 rfl (by omega) HS.out HQ.out).mono ?_); (rintro e w' ⟨rfl, rfl⟩))))
        go_ret
        exact ⟨rfl, B3.out⟩
      · have hgt : 10000 < a1 := by omega
        have e0 : decide ((300 : Int) < a1) = true := by simp; omega
        have e1 : decide (a1 ≤ (10000 : Int)) = false := by simp; omega
        have e2 : decide (a1 < 0) = false := by simp; omega
        have e3 : decide ((10000 : Int) < a1) = true := by simp; omega
        clear hbad hbig
        go_enter Try.func7, Try.ntmps7
        go_wp2_with (first
          | (go_at_call 13; ((with_reducible refine (new_any s w HS.out).mono ?_); (rintro e w1 ⟨rfl, h1, hb1⟩; have S1 := hid_of h1; have B1 := hid_of hb1; clear h1 hb1)))
          | (go_at_call 22; ((with_reducible refine (shuffle_bad w.heap.size a1 w1 HBAD.out).mono ?_); (rintro e w' ⟨rfl, rfl⟩)))
          | (go_at_call 16; ((with_reducible refine (awake_any w1).mono ?_); (rintro e w2 ⟨rfl, h2⟩; have S2 := hid_of (S1.out.bel h2); have B2 := hid_of (step_b B1.out h2 HW.out); clear h2)))
          | (go_at_call 14; ((with_reducible refine (next_val w.heap.size s q w2 S2.out (by rw [HST.out]; exact HQ.out)).mono ?_); (rintro e w3 ⟨rfl, h3, hk3⟩; have B3 := hid_of (step_k B2.out hk3 HW.out HW.out); clear h3 hk3)))
          | (go_at_call 15; ((with_reducible refine (at_val s 1 q 1 w3 rfl (by omega) HS.out HQ.out).mono ?_); (rintro e w' ⟨rfl, rfl⟩))))
        go_ret
        exact ⟨rfl, B3.out⟩
    · obtain ⟨n, rfl⟩ := Int.eq_ofNat_of_zero_le (show 0 ≤ a1 by omega)
      have hn : n ≤ 300 := by omega
      have e0 : decide ((300 : Int) < (n : Int)) = false := by simp; omega
      have e2 : decide ((n : Int) < 0) = false := by simp
      have e3 : decide ((10000 : Int) < (n : Int)) = false := by simp; omega
      obtain ⟨q2, hq2⟩ : ∃ q2, q2 = mixN (atN s (n - 1 + 1)) := ⟨_, rfl⟩
      have HQ2 := hid_of hq2
      have HNX : Hid (stepN (atN s (n - 1)) = atN s (n - 1 + 1)) := hid_of (atN_succ _ _)
      have HPB := hid_of (permB_shuf s n)
      have HLEN : Hid ((nI (shufN s n (n - 1))).length = n) := hid_of (by rw [nI_length, shufN_length])
      obtain ⟨L, hL⟩ : ∃ L, L = nI (shufN s n (n - 1)) := ⟨_, rfl⟩
      have HSH : Hid (∀ b w, Sr w b s → Calls Try.prog 22 #[.pointer (some ⟨b, 0, none⟩), .int .i64 (n : Int)] w fun e w' => ∃ g, e = .returned (.tuple #[.slice (some ⟨g, 0, none⟩) n n, .int .i64 0]) ∧ w.heap.size ≤ g ∧ Blk w' g L ∧ Sr w' b (atN s (n - 1)) ∧ Kept (fun k => k = b) w w') := hid_of (fun b w h => by rw [hL]; exact shuffle_any b s n n w rfl h (by omega))
      have HRS : Hid (∀ w, Calls Try.prog 25 #[.int .u64 (s : Int), .int .i64 (n : Int)] w fun e w' => ∃ xo xc, e = .returned (.slice xo n xc) ∧ Ow 3 w.heap.size w w' (.slice xo n xc) (is L)) := hid_of (fun w => by rw [hL]; exact refShuffle_any s n w HS.out (by omega))
      rw [← hL] at HPB HLEN
      have HRP : Hid (∀ g w, Blk w g L → Calls Try.prog 23 #[.slice (some ⟨g, 0, none⟩) n n] w fun e w' => e = .returned (.bool true) ∧ Below w.heap.size w w') := hid_of (fun g w h => by
        have := refPerm_any (some ⟨g, 0, none⟩) n n L w (h.rd HLEN.out.symm (by rw [HLEN.out]; omega)) (by omega)
        rwa [HPB.out] at this)
      clear hbig hbad hq2 hL
      by_cases h1 : 1 < n
      · have e4 : decide ((1 : Int) < (n : Int)) = true := by simp; omega
        have hw1 : IntKind.u64.wrap (n : Int) = n := wrapu (by omega)
        have HU : Hid ((n : Int) - 1 + 1 = ((n - 1 + 1 : Nat) : Int)) := hid_of (by omega)
        go_enter Try.func7, Try.ntmps7
        go_wp2_with (first
          | (go_at_call 13; ((with_reducible refine (new_any s w HS.out).mono ?_); (rintro e w1 ⟨rfl, h1, hb1⟩; have S1 := hid_of h1; have B1 := hid_of hb1; clear h1 hb1)))
          | (go_at_call 22; ((with_reducible refine (HSH.out w.heap.size w1 S1.out).mono ?_); (rintro e w2 ⟨g, rfl, hg, h2, h2b, hk2⟩; have L2 := hid_of h2; have S2 := hid_of h2b; have G2 := hid_of (show w.heap.size < g by have := S1.out.lt; omega); have B2 := hid_of (step_k B1.out hk2 HW.out HW.out); clear hg h2 h2b hk2)))
          | (go_at_call 16; ((with_reducible refine (awake_any w2).mono ?_); (rintro e w3 ⟨rfl, h3⟩; have S3 := hid_of (S2.out.bel h3); have L3 := hid_of (L2.out.bel h3); have B3 := hid_of (step_b B2.out h3 HW.out); clear h3)))
          | (go_at_call 23; ((with_reducible refine (HRP.out g w3 L3.out).mono ?_); (rintro e w4 ⟨rfl, h4⟩; have S4 := hid_of (S3.out.bel h4); have L4 := hid_of (L3.out.bel h4); have B4 := hid_of (step_b B3.out h4 HW.out); clear h4)))
          | (go_at_call 25; ((with_reducible refine (HRS.out w4).mono ?_); (rintro e w5 ⟨xo, xc, rfl, h5⟩; have S5 := hid_of (S4.out.bel h5.bel); have L5 := hid_of (L4.out.bel h5.bel); have X5 := hid_of h5; have B5 := hid_of (step_b B4.out h5.bel HW.out); clear h5)))
          | (go_at_call 24; ((with_reducible refine (same_yes (some ⟨g, 0, none⟩) xo n n xc L w5 (L5.out.rd HLEN.out.symm (by rw [HLEN.out]; omega)) (X5.out.rdI (by rw [HLEN.out]; omega))).mono ?_); (rintro e w6 ⟨rfl, h6⟩; have S6 := hid_of (S5.out.bel h6); have B6 := hid_of (step_b B5.out h6 HW.out); clear h6)))
          | (go_at_call 14; ((with_reducible refine (next_val w.heap.size (atN s (n - 1)) q2 w6 S6.out (by rw [HNX.out]; exact HQ2.out)).mono ?_); (rintro e w7 ⟨rfl, h7, hk7⟩; have B7 := hid_of (step_k B6.out hk7 HW.out HW.out); clear h7 hk7)))
          | (go_at_call 15; ((refine (at_val s (n - 1 + 1) q2 _ w7 (by omega) (by omega) HS.out HQ2.out).mono ?_); (rintro e w' ⟨rfl, rfl⟩))))
        go_ret
        exact ⟨rfl, B7.out⟩
      · have e4 : decide ((1 : Int) < (n : Int)) = false := by simp; omega
        go_enter Try.func7, Try.ntmps7
        go_wp2_with (first
          | (go_at_call 13; ((with_reducible refine (new_any s w HS.out).mono ?_); (rintro e w1 ⟨rfl, h1, hb1⟩; have S1 := hid_of h1; have B1 := hid_of hb1; clear h1 hb1)))
          | (go_at_call 22; ((with_reducible refine (HSH.out w.heap.size w1 S1.out).mono ?_); (rintro e w2 ⟨g, rfl, hg, h2, h2b, hk2⟩; have L2 := hid_of h2; have S2 := hid_of h2b; have G2 := hid_of (show w.heap.size < g by have := S1.out.lt; omega); have B2 := hid_of (step_k B1.out hk2 HW.out HW.out); clear hg h2 h2b hk2)))
          | (go_at_call 16; ((with_reducible refine (awake_any w2).mono ?_); (rintro e w3 ⟨rfl, h3⟩; have S3 := hid_of (S2.out.bel h3); have L3 := hid_of (L2.out.bel h3); have B3 := hid_of (step_b B2.out h3 HW.out); clear h3)))
          | (go_at_call 23; ((with_reducible refine (HRP.out g w3 L3.out).mono ?_); (rintro e w4 ⟨rfl, h4⟩; have S4 := hid_of (S3.out.bel h4); have L4 := hid_of (L3.out.bel h4); have B4 := hid_of (step_b B3.out h4 HW.out); clear h4)))
          | (go_at_call 25; ((with_reducible refine (HRS.out w4).mono ?_); (rintro e w5 ⟨xo, xc, rfl, h5⟩; have S5 := hid_of (S4.out.bel h5.bel); have L5 := hid_of (L4.out.bel h5.bel); have X5 := hid_of h5; have B5 := hid_of (step_b B4.out h5.bel HW.out); clear h5)))
          | (go_at_call 24; ((with_reducible refine (same_yes (some ⟨g, 0, none⟩) xo n n xc L w5 (L5.out.rd HLEN.out.symm (by rw [HLEN.out]; omega)) (X5.out.rdI (by rw [HLEN.out]; omega))).mono ?_); (rintro e w6 ⟨rfl, h6⟩; have S6 := hid_of (S5.out.bel h6); have B6 := hid_of (step_b B5.out h6 HW.out); clear h6)))
          | (go_at_call 14; ((with_reducible refine (next_val w.heap.size (atN s (n - 1)) q2 w6 S6.out (by rw [HNX.out]; exact HQ2.out)).mono ?_); (rintro e w7 ⟨rfl, h7, hk7⟩; have B7 := hid_of (step_k B6.out hk7 HW.out HW.out); clear h7 hk7)))
          | (go_at_call 15; ((refine (at_val s (n - 1 + 1) q2 _ w7 (by omega) (by omega) HS.out HQ2.out).mono ?_); (rintro e w' ⟨rfl, rfl⟩))))
        go_ret
        exact ⟨rfl, B7.out⟩
end Go.Proofs.Ytpmajdgabpmooaa
