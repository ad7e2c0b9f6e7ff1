/- The laws of Intn and Split. No condition. -/
import Derived.Test.YtpmajdgabpmooaaRanLaws
namespace Go.Proofs.Ytpmajdgabpmooaa
open Go.RowKit

theorem at_val (s k q : Nat) (z : Int) (w : World) (hz : z = k) (hk : k < 18446744073709551616) (hs : s < 18446744073709551616) (hq : q = mixN (atN s k)) :
    Calls Try.prog 15 #[.int .u64 (s : Int), .int .u64 z] w fun e w' => e = .returned (.int .u64 (q : Int)) ∧ w = w' := by
  subst hq; exact at_any z s k w hz hk hs

set_option maxRecDepth 100000 in
set_option maxHeartbeats 1600000 in
theorem intn_law (a0 a1 : Int) (w0 : (Lit.int .u64 a0).wf = true) (w1 : (Lit.int .i64 a1).wf = true) (w : World) :
    Calls Try.prog 6 #[.int .u64 a0, .int .i64 a1] w fun e w' => e = .returned (.bool true) ∧ Below w.heap.size w w' := by
  obtain ⟨s, rfl, hs⟩ := u64_nat w0
  have hb1 := bounds_i64 w1
  have HS := hid_of hs
  have HW : Hid (w.heap.size ≤ w.heap.size) := hid_of (Nat.le_refl _)
  have HST : Hid (stepN s = atN s 1) := hid_of (by unfold stepN atN; omega)
  obtain ⟨q, hq⟩ : ∃ q, q = mixN (atN s 1) := ⟨_, rfl⟩
  obtain ⟨q2, hq2⟩ : ∃ q2, q2 = mixN (atN s 2) := ⟨_, rfl⟩
  have HQ := hid_of hq
  have HQ2 := hid_of hq2
  clear w0 hs hq hq2
  by_cases hn : a1 < 1
  · have hd : decide (a1 < 1) = true := by simp; omega
    clear w1 hb1
    go_enter Try.func6, Try.ntmps6
    go_wp2_with (first
      | (go_at_call 13; ((with_reducible refine (new_any s w HS.out).mono ?_); (rintro e w1 ⟨rfl, h1, hb1⟩; have S1 := hid_of h1; have B1 := hid_of hb1; clear h1 hb1)))
      | (go_at_call 20; ((with_reducible refine (intn_none w.heap.size a1 w1 hn).mono ?_); (rintro e w' ⟨rfl, rfl⟩)))
      | (go_at_call 16; ((with_reducible refine (awake_any w1).mono ?_); (rintro e w2 ⟨rfl, h2⟩; have S2 := hid_of (S1.out.bel h2); have B2 := hid_of (step_b B1.out h2 HW.out); clear h2)))
      | (go_at_call 14; ((with_reducible refine (next_val w.heap.size s q w2 S2.out (by rw [HST.out]; exact HQ.out)).mono ?_); (rintro e w3 ⟨rfl, h3, hk3⟩; have B3 := hid_of (step_k B2.out hk3 HW.out HW.out); clear h3 hk3)))
      | (go_at_call 15; ((with_reducible refine (at_val s 1 q 1 w3 rfl (by omega) HS.out HQ.out).mono ?_); (rintro e w' ⟨rfl, rfl⟩))))
    go_ret
    exact ⟨rfl, B3.out⟩
  · obtain ⟨n, rfl⟩ := Int.eq_ofNat_of_zero_le (show 0 ≤ a1 by omega)
    have hd : decide ((n : Int) < 1) = false := by simp; omega
    have hr := highN_lt (x := q) (n := n) (by rw [HQ.out]; exact mixN_lt _) (by omega)
    obtain ⟨r, hrr⟩ : ∃ r, r = highN q n := ⟨_, rfl⟩
    rw [← hrr] at hr
    have HIN : Hid (∀ b w, Sr w b s → Calls Try.prog 20 #[.pointer (some ⟨b, 0, none⟩), .int .i64 (n : Int)] w fun e w' => e = .returned (.int .i64 (r : Int)) ∧ Sr w' b (atN s 1) ∧ Kept (fun k => k = b) w w') := hid_of (fun b w h => by
      have := intn_any b s n (n : Int) w rfl h (by omega) (by omega)
      rwa [HST.out, ← HQ.out, ← hrr] at this)
    have HHI : Hid (∀ w, Calls Try.prog 21 #[.int .u64 (q : Int), .int .u64 (n : Int)] w fun e w' => e = .returned (.int .u64 (r : Int)) ∧ w = w') := hid_of (fun w => by
      have := rhigh_any q n w (by rw [HQ.out]; exact mixN_lt _) (by omega)
      rwa [← hrr] at this)
    have HS2 : Hid (stepN (atN s 1) = atN s 2) := hid_of (atN_succ s 1)
    have g1 : decide ((0 : Int) ≤ (r : Int)) = true := by simp
    have g2 : decide (r < n) = true := by simp; omega
    have g3 : r < n := hr
    have g4 : (n : Int) ≤ 9223372036854775807 := hb1.2
    have c1 : IntKind.u64.wrap (r : Int) = r := wrapu (by omega)
    have c2 : IntKind.u64.wrap (n : Int) = n := wrapu (by omega)
    clear w1 hrr hn hb1 hr g1
    go_enter Try.func6, Try.ntmps6
    go_wp2_with (first
      | (go_at_call 13; ((with_reducible refine (new_any s w HS.out).mono ?_); (rintro e w1 ⟨rfl, h1, hb1⟩; have S1 := hid_of h1; have B1 := hid_of hb1; clear h1 hb1)))
      | (go_at_call 20; ((with_reducible refine (HIN.out w.heap.size w1 S1.out).mono ?_); (rintro e w2 ⟨rfl, h2, hk2⟩; have S2 := hid_of h2; have B2 := hid_of (step_k B1.out hk2 HW.out HW.out); clear h2 hk2)))
      | (go_at_call 16; ((with_reducible refine (awake_any w2).mono ?_); (rintro e w3 ⟨rfl, h3⟩; have S3 := hid_of (S2.out.bel h3); have B3 := hid_of (step_b B2.out h3 HW.out); clear h3)))
      | (go_at_call 15; (first
        | ((with_reducible refine (at_val s 1 q 1 w3 rfl (by omega) HS.out HQ.out).mono ?_); (rintro e w' ⟨rfl, rfl⟩))
        | ((with_reducible refine (at_val s 2 q2 2 w4 rfl (by omega) HS.out HQ2.out).mono ?_); (rintro e w' ⟨rfl, rfl⟩))))
      | (go_at_call 21; ((with_reducible refine (HHI.out w3).mono ?_); (rintro e w' ⟨rfl, rfl⟩)))
      | (go_at_call 14; ((with_reducible refine (next_val w.heap.size (atN s 1) q2 w3 S3.out (by rw [HS2.out]; exact HQ2.out)).mono ?_); (rintro e w4 ⟨rfl, h4, hk4⟩; have B4 := hid_of (step_k B3.out hk4 HW.out HW.out); clear h4 hk4))))
    go_ret
    exact ⟨rfl, B4.out⟩

set_option maxRecDepth 100000 in
set_option maxHeartbeats 1600000 in
theorem split_law (a0 : Int) (w0 : (Lit.int .u64 a0).wf = true) (w : World) :
    Calls Try.prog 8 #[.int .u64 a0] w fun e w' => e = .returned (.bool true) ∧ Below w.heap.size w w' := by
  obtain ⟨s, rfl, hs⟩ := u64_nat w0
  have HS := hid_of hs
  have HW : Hid (w.heap.size ≤ w.heap.size) := hid_of (Nat.le_refl _)
  obtain ⟨q, hq⟩ : ∃ q, q = mixN (stepN s) := ⟨_, rfl⟩
  have HQ := hid_of hq
  have HQL : Hid (q < 18446744073709551616) := hid_of (by rw [hq]; exact mixN_lt _)
  have HSP : Hid (∀ b w, Sr w b s → Calls Try.prog 26 #[.pointer (some ⟨b, 0, none⟩)] w fun e w' => ∃ c, e = .returned (.pointer (some ⟨c, 0, none⟩)) ∧ w.heap.size ≤ c ∧ Sr w' c q ∧ Sr w' b (stepN s) ∧ Kept (fun k => k = b) w w') := hid_of (fun b w h => by rw [hq]; exact split_any b s w h)
  clear w0 hs hq
  go_enter Try.func8, Try.ntmps8
  go_wp2_with (first
    | (go_at_call 13; (first
      | ((with_reducible refine (new_any s w HS.out).mono ?_); (rintro e w1 ⟨rfl, h1, hb1⟩; have S1 := hid_of h1; have B1 := hid_of hb1; clear h1 hb1))
      | ((with_reducible refine (new_any s w2 HS.out).mono ?_); (rintro e w3 ⟨rfl, h3, hb3⟩; have S3 := hid_of (S2.out.bel hb3); have T3 := hid_of (T2.out.bel hb3); have U3 := hid_of h3; have LT := hid_of (T2.out.lt); have LS := hid_of (S2.out.lt); have B3 := hid_of (step_b B2.out hb3 HW.out); clear h3 hb3))
      | ((with_reducible refine (new_any q w4 HQL.out).mono ?_); (rintro e w5 ⟨rfl, h5, hb5⟩; have S5 := hid_of (S4.out.bel hb5); have T5 := hid_of (T4.out.bel hb5); have U5 := hid_of (U4.out.bel hb5); have V5 := hid_of h5; have LU := hid_of (U4.out.lt); have B5 := hid_of (step_b B4.out hb5 HW.out); clear h5 hb5))))
    | (go_at_call 26; ((with_reducible refine (HSP.out w.heap.size w1 S1.out).mono ?_); (rintro e w2 ⟨c, rfl, hc, h2, h2b, hk2⟩; have S2 := hid_of h2b; have T2 := hid_of h2; have LC := hid_of (show w.heap.size < c by have := S1.out.lt; omega); have B2 := hid_of (step_k B1.out hk2 HW.out HW.out); clear hc h2 h2b hk2)))
    | (go_at_call 14; ((with_reducible refine (next_val w2.heap.size s q w3 U3.out HQ.out).mono ?_); (rintro e w4 ⟨rfl, h4, hk4⟩; have S4 := hid_of (S3.out.kept hk4 (by have := LS.out; omega)); have T4 := hid_of (T3.out.kept hk4 (by have := LT.out; omega)); have U4 := hid_of h4; have B4 := hid_of (step_k B3.out hk4 HW.out B2.out.size); clear h4 hk4))))
  have L5 := hid_of V5.out.lt
  go_loopw [7] (fun iv wr => ∃ k : Nat, k ≤ 5 ∧ iv = .int .i64 k ∧ Hid (Sr wr w.heap.size (atN (stepN s) k)) ∧ Hid (Sr wr c (atN q k)) ∧ Hid (Sr wr w2.heap.size (atN (stepN s) k)) ∧ Hid (Sr wr w4.heap.size (atN q k)) ∧ Hid (Below w.heap.size w wr)) (fun iv _ => 5 - (intOf iv).toNat)
  case atStart => exact ⟨0, Nat.zero_le _, rfl, hid_of (by rw [atN_zero (stepN_lt _)]; exact S5.out), hid_of (by rw [atN_zero HQL.out]; exact T5.out), hid_of (by rw [atN_zero (stepN_lt _)]; exact U5.out), hid_of (by rw [atN_zero HQL.out]; exact V5.out), B5⟩
  case round =>
    obtain ⟨k, hk, rfl, hs, ht, hu, hv, hbel⟩ := hrel
    by_cases hlt : k < 5
    · have hd : decide ((k : Int) < 5) = true := by simp; omega
      obtain ⟨x, hx⟩ : ∃ x, x = mixN (stepN (atN q k)) := ⟨_, rfl⟩
      obtain ⟨y, hy⟩ : ∃ y, y = mixN (stepN (atN (stepN s) k)) := ⟨_, rfl⟩
      have HX := hid_of hx
      have HY := hid_of hy
      clear hx hy
      have LS' := LS.out
      have LC' := LC.out
      have LT' := LT.out
      have LU' := LU.out
      go_wp2_with (go_at_call 14; (first
        | ((with_reducible refine (next_val c (atN q k) x wr ht.out HX.out).mono ?_); (rintro e w6 ⟨rfl, h6, hk6⟩; have S6 := hid_of (hs.out.kept hk6 (by omega)); have T6 := hid_of h6; have U6 := hid_of (hu.out.kept hk6 (by omega)); have V6 := hid_of (hv.out.kept hk6 (by omega)); have B6 := hid_of (step_k hbel.out hk6 HW.out (by omega)); clear h6 hk6))
        | ((with_reducible refine (next_val w4.heap.size (atN q k) x w6 V6.out HX.out).mono ?_); (rintro e w7 ⟨rfl, h7, hk7⟩; have S7 := hid_of (S6.out.kept hk7 (by omega)); have T7 := hid_of (T6.out.kept hk7 (by omega)); have U7 := hid_of (U6.out.kept hk7 (by omega)); have V7 := hid_of h7; have B7 := hid_of (step_k B6.out hk7 HW.out (by omega)); clear h7 hk7))
        | ((with_reducible refine (next_val w.heap.size (atN (stepN s) k) y w7 S7.out HY.out).mono ?_); (rintro e w8 ⟨rfl, h8, hk8⟩; have S8 := hid_of h8; have T8 := hid_of (T7.out.kept hk8 (by omega)); have U8 := hid_of (U7.out.kept hk8 (by omega)); have V8 := hid_of (V7.out.kept hk8 (by omega)); have B8 := hid_of (step_k B7.out hk8 HW.out (by omega)); clear h8 hk8))
        | ((with_reducible refine (next_val w2.heap.size (atN (stepN s) k) y w8 U8.out HY.out).mono ?_); (rintro e w9 ⟨rfl, h9, hk9⟩; have S9 := hid_of (S8.out.kept hk9 (by omega)); have T9 := hid_of (T8.out.kept hk9 (by omega)); have U9 := hid_of h9; have V9 := hid_of (V8.out.kept hk9 (by omega)); have B9 := hid_of (step_k B8.out hk9 HW.out (by omega)); clear h9 hk9))))
      go_roundw
      case rel => exact ⟨k + 1, by omega, by go_num, hid_of (by rw [← atN_succ]; exact S9.out), hid_of (by rw [← atN_succ]; exact T9.out), hid_of (by rw [← atN_succ]; exact U9.out), hid_of (by rw [← atN_succ]; exact V9.out), B9⟩
      case measure => simp [intOf]; omega
    · have hd : decide ((k : Int) < 5) = false := by simp; omega
      go_wp2_with (go_at_call 16; ((with_reducible refine (awake_any wr).mono ?_); (rintro e w9 ⟨rfl, h9⟩; have B9 := hid_of (step_b hbel.out h9 HW.out); clear h9)))
      go_ret
      exact ⟨rfl, B9.out⟩
end Go.Proofs.Ytpmajdgabpmooaa
