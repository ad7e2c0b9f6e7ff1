/- The laws of the source: Next, Skip, Mix, Intn, Split. No condition. -/
import Derived.Test.YtpmajdgabpmooaaRanAwake
namespace Go.Proofs.Ytpmajdgabpmooaa
open Go.RowKit

theorem u64_nat {a : Int} (w : (Lit.int .u64 a).wf = true) : ∃ n : Nat, a = n ∧ n < 18446744073709551616 := by
  have h := bounds_u64 w
  exact ⟨a.toNat, by omega, by omega⟩
theorem stepN_lt (s : Nat) : stepN s < 18446744073709551616 := Nat.mod_lt _ (by omega)

set_option maxRecDepth 100000 in
set_option maxHeartbeats 800000 in
theorem next_law (a0 : Int) (w0 : (Lit.int .u64 a0).wf = true) (w : World) :
    Calls Try.prog 3 #[.int .u64 a0] w fun e w' => e = .returned (.bool true) ∧ Below w.heap.size w w' := by
  obtain ⟨s, rfl, hs⟩ := u64_nat w0
  have HS := hid_of hs
  have HW : Hid (w.heap.size ≤ w.heap.size) := hid_of (Nat.le_refl _)
  clear w0 hs
  go_enter Try.func3, Try.ntmps3
  go_wp2_with (go_at_call 13; ((with_reducible refine (new_any s w HS.out).mono ?_); (rintro e w1 ⟨rfl, h1, hb1⟩; have H1 := hid_of h1; have HB1 := hid_of hb1; clear h1 hb1)))
  go_loopw [4] (fun iv wr => ∃ k : Nat, 1 ≤ k ∧ k ≤ 21 ∧ iv = .int .u64 k ∧ Hid (Sr wr w.heap.size (atN s (k - 1))) ∧ Hid (Below w.heap.size w wr)) (fun iv _ => 21 - (intOf iv).toNat)
  case atStart => exact ⟨1, by omega, by omega, rfl, hid_of (by rw [show 1 - 1 = 0 by rfl, atN_zero HS.out]; exact H1.out), HB1⟩
  case round =>
    obtain ⟨k, hk1, hk2, rfl, hsr, hb⟩ := hrel
    by_cases hlt : k ≤ 20
    · obtain ⟨q, hq⟩ : ∃ q, q = mixN (atN s k) := ⟨_, rfl⟩
      have HE : Hid (stepN (atN s (k - 1)) = atN s k) := hid_of (by rw [atN_succ, show k - 1 + 1 = k by omega])
      have HNX : Hid (Calls Try.prog 14 #[.pointer (some ⟨w.heap.size, 0, none⟩)] wr fun e w' => e = .returned (.int .u64 (q : Int)) ∧ Sr w' w.heap.size (atN s k) ∧ Kept (fun q => q = w.heap.size) wr w') := hid_of (by
        have := next_any w.heap.size (atN s (k - 1)) wr hsr.out
        rwa [HE.out, ← hq] at this)
      have HAT : Hid (∀ w, Calls Try.prog 15 #[.int .u64 (s : Int), .int .u64 (k : Int)] w fun e w' => e = .returned (.int .u64 (q : Int)) ∧ w = w') := hid_of (fun w => by
        have := at_any (k : Int) s k w rfl (by omega) HS.out
        rwa [← hq] at this)
      clear hq

      have hd : decide ((k : Int) ≤ 20) = true := by simp; omega
      go_wp2_with (first
        | (go_at_call 14; ((with_reducible refine (HNX.out).mono ?_); (rintro e w2 ⟨rfl, h2, hk2⟩; have H2 := hid_of h2; have HB2 := hid_of (step_k hb.out hk2 HW.out HW.out); clear h2 hk2)))
        | (go_at_call 15; ((with_reducible refine (HAT.out w2).mono ?_); (rintro e w' ⟨rfl, rfl⟩))))
      go_roundw
      case rel => exact ⟨k + 1, by omega, by omega, by go_num, hid_of (by rw [show k + 1 - 1 = k by omega]; exact H2.out), HB2⟩
      case measure => simp [intOf]; omega
    · go_wp2_with (go_at_call 16; ((with_reducible refine (awake_any wr).mono ?_); (rintro e w3 ⟨rfl, h3⟩; have HB3 := hid_of (step_b hb.out h3 HW.out); clear h3)))
      go_ret
      exact ⟨rfl, HB3.out⟩

theorem mix_law (a0 : Int) (w0 : (Lit.int .u64 a0).wf = true) (w : World) :
    Calls Try.prog 5 #[.int .u64 a0] w fun e w' => e = .returned (.bool true) ∧ Below w.heap.size w w' := by
  obtain ⟨x, rfl, hx⟩ := u64_nat w0
  have HX := hid_of hx
  have HW : Hid (w.heap.size ≤ w.heap.size) := hid_of (Nat.le_refl _)
  obtain ⟨y, hy⟩ : ∃ y, y = (x + (18446744073709551616 - 11400714819323198485)) % 18446744073709551616 := ⟨_, rfl⟩
  have hyl : y < 18446744073709551616 := by rw [hy]; exact Nat.mod_lt _ (by omega)
  have HYE : Hid (IntKind.u64.wrap ((x : Int) - 11400714819323198485) = (y : Int)) := hid_of (by rw [IntKind.wrap_u64, hy]; omega)
  have HYS : Hid (stepN y = x) := hid_of (by unfold stepN; rw [hy]; omega)
  have HYL := hid_of hyl
  have HU1 : Hid (∀ w, Calls Try.prog 18 #[.int .u64 ((mixN x : Nat) : Int)] w fun e w' => e = .returned (.int .u64 (x : Int)) ∧ w = w') := hid_of (fun w => by
    have := unmix_any (mixN x) w (mixN_lt x)
    rwa [unmix_mix hx] at this)
  have HU2 : Hid (∀ w, Calls Try.prog 19 #[.int .u64 ((unmixN x : Nat) : Int)] w fun e w' => e = .returned (.int .u64 (x : Int)) ∧ w = w') := hid_of (fun w => by
    have := mix_any _ (unmixN x) w rfl (unmixN_lt x)
    rwa [mix_unmix hx] at this)
  have HNX : Hid (∀ b w, Sr w b y → Calls Try.prog 14 #[.pointer (some ⟨b, 0, none⟩)] w fun e w' => e = .returned (.int .u64 ((mixN x : Nat) : Int)) ∧ Kept (fun q => q = b) w w') := hid_of (fun b w h => by
    have := next_any b y w h
    rw [HYS.out] at this
    exact this.mono fun e w' ⟨he, _, hk⟩ => ⟨he, hk⟩)
  have HNW : Hid (∀ w, Calls Try.prog 13 #[.int .u64 (IntKind.u64.wrap ((x : Int) - 11400714819323198485))] w fun e w' => e = .returned (.pointer (some ⟨w.heap.size, 0, none⟩)) ∧ Sr w' w.heap.size y ∧ Below w.heap.size w w') := hid_of (fun w => by
    rw [HYE.out]; exact new_any y w hyl)
  clear w0 hx hy hyl
  go_enter Try.func5, Try.ntmps5
  go_wp2_with (first
    | (go_at_call 16; ((with_reducible refine (awake_any w).mono ?_); (rintro e w1 ⟨rfl, h1⟩; have HB1 := hid_of h1; clear h1)))
    | (go_at_call 18; (first
      | ((with_reducible refine (HU1.out w1).mono ?_); (rintro e w' ⟨rfl, rfl⟩))
      | ((with_reducible refine (unmix_any x w1 HX.out).mono ?_); (rintro e w' ⟨rfl, rfl⟩))))
    | (go_at_call 19; (first
      | ((with_reducible refine (HU2.out w1).mono ?_); (rintro e w' ⟨rfl, rfl⟩))
      | ((with_reducible refine (mix_any (x : Int) x w1 rfl HX.out).mono ?_); (rintro e w' ⟨rfl, rfl⟩))
      | ((with_reducible refine (mix_any (x : Int) x w3 rfl HX.out).mono ?_); (rintro e w' ⟨rfl, rfl⟩))))
    | (go_at_call 13; ((with_reducible refine (HNW.out w1).mono ?_); (rintro e w2 ⟨rfl, h2, hb2⟩; have H2 := hid_of h2; have HB2 := hid_of (step_b HB1.out hb2 HW.out); clear h2 hb2)))
    | (go_at_call 14; ((with_reducible refine (HNX.out w1.heap.size w2 H2.out).mono ?_); (rintro e w3 ⟨rfl, hk3⟩; have HB3 := hid_of (step_k HB2.out hk3 HW.out HB1.out.size); clear hk3))))
  go_ret
  exact ⟨rfl, HB3.out⟩

/-- Next as a step that names its value. -/
theorem next_val (b s q : Nat) (w : World) (h : Sr w b s) (hq : q = mixN (stepN s)) :
    Calls Try.prog 14 #[.pointer (some ⟨b, 0, none⟩)] w fun e w' => e = .returned (.int .u64 (q : Int)) ∧ Sr w' b (stepN s) ∧ Kept (fun q => q = b) w w' := by
  subst hq; exact next_any b s w h

set_option maxRecDepth 100000 in
set_option maxHeartbeats 1600000 in
theorem skip_law (a0 a1 a2 a3 : Int) (w0 : (Lit.int .u64 a0).wf = true) (w1 : (Lit.int .u64 a1).wf = true) (w2 : (Lit.int .u64 a2).wf = true) (w3 : (Lit.int .u8 a3).wf = true) (w : World) :
    Calls Try.prog 4 #[.int .u64 a0, .int .u64 a1, .int .u64 a2, .int .u8 a3] w fun e w' => e = .returned (.bool true) ∧ Below w.heap.size w w' := by
  obtain ⟨s, rfl, hs⟩ := u64_nat w0
  obtain ⟨a, rfl, ha⟩ := u64_nat w1
  obtain ⟨b, rfl, hb⟩ := u64_nat w2
  obtain ⟨f, rfl, hf⟩ : ∃ f : Nat, a3 = f ∧ f ≤ 255 := by have h := bounds_u8 w3; exact ⟨a3.toNat, by omega, by omega⟩
  have HS := hid_of hs
  have HA := hid_of ha
  have HB := hid_of hb
  have HW : Hid (w.heap.size ≤ w.heap.size) := hid_of (Nat.le_refl _)
  have HSUM : Hid (IntKind.u64.wrap ((a : Int) + (b : Int)) = (((a + b) % 18446744073709551616 : Nat) : Int)) := hid_of (add_step a b)
  have HSML : Hid ((a + b) % 18446744073709551616 < 18446744073709551616) := hid_of (Nat.mod_lt _ (by omega))
  obtain ⟨q, hq⟩ : ∃ q, q = mixN (stepN (atN s (a + b))) := ⟨_, rfl⟩
  obtain ⟨q2, hq2⟩ : ∃ q2, q2 = mixN (stepN (atN s f)) := ⟨_, rfl⟩
  have HQ := hid_of hq
  have HQ2 := hid_of hq2
  clear w0 w1 w2 w3 hs ha hb hq hq2
  go_enter Try.func4, Try.ntmps4
  go_wp2_with (first
    | (go_at_call 13; (first
      | ((with_reducible refine (new_any s w HS.out).mono ?_); (rintro e w1 ⟨rfl, h1, hb1⟩; have S1 := hid_of h1; have B1 := hid_of hb1; clear h1 hb1))
      | ((with_reducible refine (new_any s w1 HS.out).mono ?_); (rintro e w2 ⟨rfl, h2, hb2⟩; have S2 := hid_of (S1.out.bel hb2); have T2 := hid_of h2; have B2 := hid_of (step_b B1.out hb2 HW.out); have L1 := hid_of (S1.out.lt); clear h2 hb2))
      | ((with_reducible refine (new_any s w2 HS.out).mono ?_); (rintro e w3 ⟨rfl, h3, hb3⟩; have S3 := hid_of (S2.out.bel hb3); have T3 := hid_of (T2.out.bel hb3); have U3 := hid_of h3; have B3 := hid_of (step_b B2.out hb3 HW.out); have L2 := hid_of (T2.out.lt); clear h3 hb3))
      | ((with_reducible refine (new_any s w8 HS.out).mono ?_); (rintro e w9 ⟨rfl, h9, hb9⟩; have U9 := hid_of (U8.out.bel hb9); have V9 := hid_of h9; have B9 := hid_of (step_b B8.out hb9 HW.out); have L8 := hid_of (U8.out.lt); clear h9 hb9))))
    | (go_at_call 17; (first
      | ((with_reducible refine (skip_any w.heap.size s (a : Int) a w3 rfl HA.out S3.out).mono ?_); (rintro e w4 ⟨rfl, h4, hk4⟩; have S4 := hid_of h4; have T4 := hid_of (T3.out.kept hk4 (by have := L1.out; omega)); have U4 := hid_of (U3.out.kept hk4 (by have := L1.out; have := L2.out; omega)); have B4 := hid_of (step_k B3.out hk4 HW.out HW.out); clear h4 hk4))
      | ((with_reducible refine (skip_any w.heap.size (atN s a) (b : Int) b w4 rfl HB.out S4.out).mono ?_); (rintro e w5 ⟨rfl, h5, hk5⟩; have S5 := hid_of h5; have T5 := hid_of (T4.out.kept hk5 (by have := L1.out; omega)); have U5 := hid_of (U4.out.kept hk5 (by have := L1.out; have := L2.out; omega)); have B5 := hid_of (step_k B4.out hk5 HW.out HW.out); clear h5 hk5))
      | ((with_reducible refine (skip_any w1.heap.size s (IntKind.u64.wrap ((a : Int) + (b : Int))) ((a + b) % 18446744073709551616) w5 HSUM.out HSML.out T5.out).mono ?_); (rintro e w6 ⟨rfl, h6, hk6⟩; have S6 := hid_of (S5.out.kept hk6 (by have := L1.out; omega)); have T6 := hid_of h6; have U6 := hid_of (U5.out.kept hk6 (by have := L1.out; have := L2.out; omega)); have B6 := hid_of (step_k B5.out hk6 HW.out B1.out.size); clear h6 hk6))))
    | (go_at_call 14; (first
      | ((with_reducible refine (next_val w.heap.size (atN (atN s a) b) q w6 S6.out (by rw [atN_add]; exact HQ.out)).mono ?_); (rintro e w7 ⟨rfl, h7, hk7⟩; have T7 := hid_of (T6.out.kept hk7 (by have := L1.out; omega)); have U7 := hid_of (U6.out.kept hk7 (by have := L1.out; have := L2.out; omega)); have B7 := hid_of (step_k B6.out hk7 HW.out HW.out); clear h7 hk7))
      | ((with_reducible refine (next_val w1.heap.size (atN s ((a + b) % 18446744073709551616)) q w7 T7.out (by rw [atN_mod]; exact HQ.out)).mono ?_); (rintro e w8 ⟨rfl, h8, hk8⟩; have U8 := hid_of (U7.out.kept hk8 (by have := L1.out; have := L2.out; omega)); have B8 := hid_of (step_k B7.out hk8 HW.out B1.out.size); clear h8 hk8)))))
  go_loopw [13] (fun iv wr => ∃ k : Nat, k ≤ f ∧ iv = .int .i64 k ∧ Hid (Sr wr w2.heap.size (atN s k)) ∧ Hid (Sr wr w8.heap.size s) ∧ Hid (Below w.heap.size w wr)) (fun iv _ => f - (intOf iv).toNat)
  case atStart => exact ⟨0, Nat.zero_le _, rfl, hid_of (by rw [atN_zero HS.out]; exact U9.out), V9, B9⟩
  case round =>
    obtain ⟨k, hk, rfl, hu, hv, hbel⟩ := hrel
    by_cases hlt : k < f
    · have hd : decide ((k : Int) < (f : Int)) = true := by simp; omega
      go_wp2_with (go_at_call 14; ((with_reducible refine (next_any w2.heap.size (atN s k) wr hu.out).mono ?_); (rintro e w10 ⟨rfl, h10, hk10⟩; have U10 := hid_of h10; have V10 := hid_of (hv.out.kept hk10 (by have := L8.out; omega)); have B10 := hid_of (step_k hbel.out hk10 HW.out B2.out.size); clear h10 hk10)))
      go_roundw
      case rel => exact ⟨k + 1, by omega, by go_num, hid_of (by rw [← atN_succ]; exact U10.out), V10, B10⟩
      case measure => simp [intOf]; omega
    · obtain rfl : k = f := by omega
      have hd : decide ((k : Int) < (k : Int)) = false := by simp
      go_wp2_with (first
        | (go_at_call 17; ((with_reducible refine (skip_any w8.heap.size s (k : Int) k wr rfl (by omega) hv.out).mono ?_); (rintro e w11 ⟨rfl, h11, hk11⟩; have U11 := hid_of (hu.out.kept hk11 (by have := L8.out; omega)); have V11 := hid_of h11; have B11 := hid_of (step_k hbel.out hk11 HW.out B8.out.size); clear h11 hk11)))
        | (go_at_call 16; ((with_reducible refine (awake_any w11).mono ?_); (rintro e w12 ⟨rfl, h12⟩; have U12 := hid_of (U11.out.bel h12); have V12 := hid_of (V11.out.bel h12); have B12 := hid_of (step_b B11.out h12 HW.out); clear h12)))
        | (go_at_call 14; (first
          | ((with_reducible refine (next_val w2.heap.size (atN s k) q2 w12 U12.out HQ2.out).mono ?_); (rintro e w13 ⟨rfl, h13, hk13⟩; have V13 := hid_of (V12.out.kept hk13 (by have := L8.out; omega)); have B13 := hid_of (step_k B12.out hk13 HW.out B2.out.size); clear h13 hk13))
          | ((with_reducible refine (next_val w8.heap.size (atN s k) q2 w13 V13.out HQ2.out).mono ?_); (rintro e w14 ⟨rfl, h14, hk14⟩; have B14 := hid_of (step_k B13.out hk14 HW.out B8.out.size); clear h14 hk14)))))
      go_ret
      exact ⟨rfl, B14.out⟩
end Go.Proofs.Ytpmajdgabpmooaa
