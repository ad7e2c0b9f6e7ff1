/- The law of Choose. No condition. -/
import Derived.Test.YtpmajdgabpmooaaRanRefB
namespace Go.Proofs.Ytpmajdgabpmooaa
open Go.RowKit

theorem ch_val (n : Nat) (z k : Int) (c : Nat) (w : World) (hz : z = n) (hn : n ≤ 60) (hk : -9223372036854775808 ≤ k) (hk2 : k ≤ 9223372036854775807) (hc : c = chI n k) :
    Calls Try.prog 27 #[.int .i64 z, .int .i64 k] w fun e w' => e = .returned (.tuple #[.int .u64 (c : Int), .int .i64 0]) ∧ w = w' := by
  subst hc; exact Choose_any n z k w hz hn hk hk2
theorem rch_val (n : Nat) (z k : Int) (c : Nat) (w : World) (hz : z = n) (hn : n ≤ 60) (hk : -9223372036854775808 ≤ k) (hk2 : k ≤ 9223372036854775807) (hc : c = chI n k) :
    Calls Try.prog 28 #[.int .i64 z, .int .i64 k] w fun e w' => e = .returned (.int .u64 (c : Int)) ∧ Below w.heap.size w w' := by
  subst hc; exact refChoose_any n z k w hz hn hk hk2

set_option maxRecDepth 100000 in
set_option maxHeartbeats 1600000 in
theorem choose_law (a0 a1 : Int) (w0 : (Lit.int .i64 a0).wf = true) (w1 : (Lit.int .i64 a1).wf = true) (w : World) :
    Calls Try.prog 9 #[.int .i64 a0, .int .i64 a1] w fun e w' => e = .returned (.bool true) ∧ Below w.heap.size w w' := by
  have hb0 := bounds_i64 w0
  have hb1 := bounds_i64 w1
  have HW : Hid (w.heap.size ≤ w.heap.size) := hid_of (Nat.le_refl _)
  clear w0 w1
  by_cases hbad : a0 < 0 ∨ 60 < a0
  · have HBAD := hid_of hbad
    clear hb0 hb1
    rcases hbad with hb | hb
    · have d0 : decide (a0 < 0) = true := by simp; omega
      clear hb
      go_enter Try.func9, Try.ntmps9
      go_wp2_with (first
        | (go_at_call 27; ((with_reducible refine (Choose_bad a0 a1 w HBAD.out).mono ?_); (rintro e w' ⟨rfl, rfl⟩)))
        | (go_at_call 16; ((with_reducible refine (awake_any w).mono ?_); (rintro e w1 ⟨rfl, h1⟩; have B1 := hid_of h1; clear h1))))
      go_ret
      exact ⟨rfl, B1.out⟩
    · have d0 : decide (a0 < 0) = false := by simp; omega
      have d1 : decide (60 < a0) = true := by simp; omega
      clear hb
      go_enter Try.func9, Try.ntmps9
      go_wp2_with (first
        | (go_at_call 27; ((with_reducible refine (Choose_bad a0 a1 w HBAD.out).mono ?_); (rintro e w' ⟨rfl, rfl⟩)))
        | (go_at_call 16; ((with_reducible refine (awake_any w).mono ?_); (rintro e w1 ⟨rfl, h1⟩; have B1 := hid_of h1; clear h1))))
      go_ret
      exact ⟨rfl, B1.out⟩
  · obtain ⟨n, rfl⟩ := Int.eq_ofNat_of_zero_le (show 0 ≤ a0 by omega)
    have hn : n ≤ 60 := by omega
    have HN := hid_of hn
    have HK := hid_of hb1
    have d0 : decide ((n : Int) < 0) = false := by simp
    have d1 : decide ((60 : Int) < (n : Int)) = false := by simp; omega
    clear hb0 hbad
    by_cases hout : a1 < 0 ∨ (n : Int) < a1
    · obtain ⟨c, hc⟩ : ∃ c, c = chI n a1 := ⟨_, rfl⟩
      have HC := hid_of hc
      have hc0 : c = 0 := by
        rw [hc]; unfold chI; split
        · rfl
        · exact chN_gt _ _ (by omega)
      subst hc0
      clear hc hb1
      have hself : (((0 : Nat) : Int) != ((0 : Nat) : Int)) = false := by simp
      rcases hout with hb | hb
      · have e0 : decide (a1 < 0) = true := by simp; omega
        clear hb
        go_enter Try.func9, Try.ntmps9
        go_wp2_with (first
          | (go_at_call 27; ((with_reducible refine (ch_val n n a1 0 w rfl HN.out HK.out.1 HK.out.2 HC.out).mono ?_); (rintro e w' ⟨rfl, rfl⟩)))
          | (go_at_call 28; ((with_reducible refine (rch_val n n a1 0 w rfl HN.out HK.out.1 HK.out.2 HC.out).mono ?_); (rintro e w1 ⟨rfl, h1⟩; have B1 := hid_of h1; clear h1)))
          | (go_at_call 16; ((with_reducible refine (awake_any w1).mono ?_); (rintro e w2 ⟨rfl, h2⟩; have B2 := hid_of (step_b B1.out h2 HW.out); clear h2))))
        go_ret
        exact ⟨rfl, B2.out⟩
      · have e0 : decide (a1 < 0) = false := by simp; omega
        have e1 : decide ((n : Int) < a1) = true := by simp; omega
        clear hb
        go_enter Try.func9, Try.ntmps9
        go_wp2_with (first
          | (go_at_call 27; ((with_reducible refine (ch_val n n a1 0 w rfl HN.out HK.out.1 HK.out.2 HC.out).mono ?_); (rintro e w' ⟨rfl, rfl⟩)))
          | (go_at_call 28; ((with_reducible refine (rch_val n n a1 0 w rfl HN.out HK.out.1 HK.out.2 HC.out).mono ?_); (rintro e w1 ⟨rfl, h1⟩; have B1 := hid_of h1; clear h1)))
          | (go_at_call 16; ((with_reducible refine (awake_any w1).mono ?_); (rintro e w2 ⟨rfl, h2⟩; have B2 := hid_of (step_b B1.out h2 HW.out); clear h2))))
        go_ret
        exact ⟨rfl, B2.out⟩
    · obtain ⟨k, rfl⟩ := Int.eq_ofNat_of_zero_le (show 0 ≤ a1 by omega)
      have hkn : k ≤ n := by omega
      have e0 : decide ((k : Int) < 0) = false := by simp
      have e1 : decide (n < k) = false := by simp; omega
      obtain ⟨c, hc⟩ : ∃ c, c = chN n k := ⟨_, rfl⟩
      have HC : Hid (c = chI n (k : Int)) := hid_of (by rw [chI_nat]; exact hc)
      have HC2 : Hid (c = chI n ((n : Int) - (k : Int))) := hid_of (by
        rw [show (n : Int) - (k : Int) = ((n - k : Nat) : Int) by omega, chI_nat, hc]
        exact chN_sym n k (n - k) (by omega))
      have hself : ((c : Int) != (c : Int)) = false := by simp
      have HB2 : Hid (-9223372036854775808 ≤ (n : Int) - (k : Int) ∧ (n : Int) - (k : Int) ≤ 9223372036854775807) := hid_of (by omega)
      clear hout hb1
      by_cases hz : n = 0 ∨ k = 0
      · have hc1 : c = 1 := by
          rw [hc]
          rcases hz with h | h
          · subst h; rw [show k = 0 by omega]; rfl
          · subst h; exact chN_zero n
        subst hc1
        clear hc
        by_cases hn0 : n = 0
        · subst hn0
          obtain rfl : k = 0 := by omega
          clear hz
          go_enter Try.func9, Try.ntmps9
          go_wp2_with (first
            | (go_at_call 27; (first
              | ((with_reducible refine (ch_val 0 _ _ 1 w (by simp) HN.out (by simp) (by simp) (by simp [chI, chN])).mono ?_); (rintro e w' ⟨rfl, rfl⟩))
              | ((with_reducible refine (ch_val 0 _ _ 1 w1 (by simp) HN.out (by simp) (by simp) (by simp [chI, chN])).mono ?_); (rintro e w' ⟨rfl, rfl⟩))))
            | (go_at_call 28; ((with_reducible refine (rch_val 0 _ _ 1 w (by simp) HN.out (by simp) (by simp) (by simp [chI, chN])).mono ?_); (rintro e w1 ⟨rfl, h1⟩; have B1 := hid_of h1; clear h1)))
            | (go_at_call 16; ((with_reducible refine (awake_any w1).mono ?_); (rintro e w2 ⟨rfl, h2⟩; have B2 := hid_of (step_b B1.out h2 HW.out); clear h2))))
          go_ret
          exact ⟨rfl, B2.out⟩
        · have hk0 : k = 0 := by omega
          subst hk0
          have g0 : ((n : Int) == 0) = false := by simp; omega
          have g1 : (n == 0) = false := by simp; omega
          clear hz hn0
          go_enter Try.func9, Try.ntmps9
          go_wp2_with (first
            | (go_at_call 27; (first
              | ((with_reducible refine (ch_val n _ _ 1 w rfl HN.out (by simp) (by simp) (by simpa using HC.out)).mono ?_); (rintro e w' ⟨rfl, rfl⟩))
              | ((with_reducible refine (ch_val n _ _ 1 w1 rfl HN.out (by omega) (by have := HN.out; omega) (by simpa using HC2.out)).mono ?_); (rintro e w' ⟨rfl, rfl⟩))))
            | (go_at_call 28; ((with_reducible refine (rch_val n _ _ 1 w rfl HN.out (by simp) (by simp) (by simpa using HC.out)).mono ?_); (rintro e w1 ⟨rfl, h1⟩; have B1 := hid_of h1; clear h1)))
            | (go_at_call 16; ((with_reducible refine (awake_any w1).mono ?_); (rintro e w2 ⟨rfl, h2⟩; have B2 := hid_of (step_b B1.out h2 HW.out); clear h2))))
          go_ret
          exact ⟨rfl, B2.out⟩
      · obtain ⟨n2, hn2⟩ : ∃ n2, n = n2 + 1 := ⟨n - 1, by omega⟩
        obtain ⟨k2, hk2⟩ : ∃ k2, k = k2 + 1 := ⟨k - 1, by omega⟩
        have HNN := hid_of hn2
        have HKK := hid_of hk2
        obtain ⟨a, ha⟩ : ∃ a, a = chN n2 k2 := ⟨_, rfl⟩
        obtain ⟨b, hb⟩ : ∃ b, b = chN n2 k := ⟨_, rfl⟩
        have HA : Hid (a = chI n2 (k2 : Int)) := hid_of (by rw [chI_nat]; exact ha)
        have HBB : Hid (b = chI n2 (k : Int)) := hid_of (by rw [chI_nat]; exact hb)
        have hab : a + b = c := by rw [ha, hb, hc, hn2, hk2]; rfl
        have hcl : c < 18446744073709551616 := by rw [hc]; exact chN_lt64 hn
        have HSUM : Hid (IntKind.u64.wrap ((a : Int) + (b : Int)) = (c : Int)) := hid_of (by rw [IntKind.wrap_u64]; omega)
        have g1 : (n == 0) = false := by simp; omega
        have g2 : (k == 0) = false := by simp; omega
        have g3 : ((n : Int) == 0) = false := by simp; omega
        have g4 : ((k : Int) == 0) = false := by simp; omega
        have hsum := HSUM.out
        clear hz ha hb hab hcl hc hn2 hk2
        go_enter Try.func9, Try.ntmps9
        go_wp2_with (first
          | (go_at_call 28; ((with_reducible refine (rch_val n (n : Int) (k : Int) c w rfl HN.out HK.out.1 HK.out.2 HC.out).mono ?_); (rintro e w1 ⟨rfl, h1⟩; have B1 := hid_of h1; clear h1)))
          | (go_at_call 27; (first
            | ((with_reducible refine (ch_val n (n : Int) (k : Int) c w rfl HN.out HK.out.1 HK.out.2 HC.out).mono ?_); (rintro e w' ⟨rfl, rfl⟩))
            | ((with_reducible refine (ch_val n (n : Int) ((n : Int) - (k : Int)) c w1 rfl HN.out HB2.out.1 HB2.out.2 HC2.out).mono ?_); (rintro e w' ⟨rfl, rfl⟩))
            | ((with_reducible refine (ch_val n2 ((n : Int) - 1) ((k : Int) - 1) a w1 (by have := HNN.out; omega) (by have := HNN.out; have := HN.out; omega) (by have := HKK.out; omega) (by have := HK.out; omega) (by rw [HA.out]; congr 1; have := HKK.out; omega)).mono ?_); (rintro e w' ⟨rfl, rfl⟩))
            | ((with_reducible refine (ch_val n2 ((n : Int) - 1) (k : Int) b w1 (by have := HNN.out; omega) (by have := HNN.out; have := HN.out; omega) HK.out.1 HK.out.2 (by rw [HBB.out, HKK.out])).mono ?_); (rintro e w' ⟨rfl, rfl⟩))))
          | (go_at_call 16; ((with_reducible refine (awake_any w1).mono ?_); (rintro e w2 ⟨rfl, h2⟩; have B2 := hid_of (step_b B1.out h2 HW.out); clear h2))))
        go_ret
        exact ⟨rfl, B2.out⟩
end Go.Proofs.Ytpmajdgabpmooaa
