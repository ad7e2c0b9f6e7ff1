/- ClockTransitive. -/
import Derived.Test.YtofgmimdmgaljaaClkLawM
namespace Go.Proofs.Ytofgmimdmgaljaa
open Go.RowKit

set_option maxRecDepth 100000 in
set_option maxHeartbeats 6400000 in
theorem clockTransitive_law (a0 : Option Addr) (n0 c0 : Nat) (l0 : List Tk) (a1 : Option Addr) (n1 c1 : Nat) (l1 : List Tk) (a2 : Option Addr) (n2 c2 : Nat) (l2 : List Tk)  (w : World) (w0 : TIn w a0 n0 c0 l0) (w1 : TIn w a1 n1 c1 l1) (w2 : TIn w a2 n2 c2 l2) :
    Calls Try.prog 8 #[.slice a0 n0 c0, .slice a1 n1 c1, .slice a2 n2 c2] w fun e w' => e = .returned (.bool true) ∧ Below w.heap.size w w' := by
  have R0 := hid_of w0.1
  have R1 := hid_of w1.1
  have R2 := hid_of w2.1
  have HB := hid_of (Below.refl w.heap.size w)
  obtain ⟨b0, hb0⟩ : ∃ r, r = decide (200 < n0) := ⟨_, rfl⟩
  have L0 := hid_of hb0
  obtain ⟨b1, hb1⟩ : ∃ r, r = decide (200 < n1) := ⟨_, rfl⟩
  have L1 := hid_of hb1
  obtain ⟨b2, hb2⟩ : ∃ r, r = decide (200 < n2) := ⟨_, rfl⟩
  have L2 := hid_of hb2
  clear w0 hb0 w1 hb1 w2 hb2
  cases b0
  case true =>
    go_enter Try.func8, Try.ntmps8
    go_wp2_with (first
    | (go_at_call 12; ((with_reducible refine (awake_any w).mono ?_); (rintro e w2 ⟨rfl, h2⟩; replace R0 := hid_of (R0.out.at h2); replace R1 := hid_of (R1.out.at h2); replace R2 := hid_of (R2.out.at h2); replace HB := hid_of (bel_step HB.out h2 (Nat.le_refl _)); clear h2)))
    | (go_at_call 13; (first
      | ((with_reducible refine (long_c L0.out).mono ?_); (rintro e w2 ⟨rfl, rfl⟩))
      | ((with_reducible refine (long_c L1.out).mono ?_); (rintro e w2 ⟨rfl, rfl⟩))
      | ((with_reducible refine (long_c L2.out).mono ?_); (rintro e w2 ⟨rfl, rfl⟩)))))
    go_ret
    exact ⟨rfl, HB.out⟩
  cases b1
  case true =>
    go_enter Try.func8, Try.ntmps8
    go_wp2_with (first
    | (go_at_call 12; ((with_reducible refine (awake_any w).mono ?_); (rintro e w2 ⟨rfl, h2⟩; replace R0 := hid_of (R0.out.at h2); replace R1 := hid_of (R1.out.at h2); replace R2 := hid_of (R2.out.at h2); replace HB := hid_of (bel_step HB.out h2 (Nat.le_refl _)); clear h2)))
    | (go_at_call 13; (first
      | ((with_reducible refine (long_c L0.out).mono ?_); (rintro e w2 ⟨rfl, rfl⟩))
      | ((with_reducible refine (long_c L1.out).mono ?_); (rintro e w2 ⟨rfl, rfl⟩))
      | ((with_reducible refine (long_c L2.out).mono ?_); (rintro e w2 ⟨rfl, rfl⟩)))))
    go_ret
    exact ⟨rfl, HB.out⟩
  cases b2
  case true =>
    go_enter Try.func8, Try.ntmps8
    go_wp2_with (first
    | (go_at_call 12; ((with_reducible refine (awake_any w).mono ?_); (rintro e w2 ⟨rfl, h2⟩; replace R0 := hid_of (R0.out.at h2); replace R1 := hid_of (R1.out.at h2); replace R2 := hid_of (R2.out.at h2); replace HB := hid_of (bel_step HB.out h2 (Nat.le_refl _)); clear h2)))
    | (go_at_call 13; (first
      | ((with_reducible refine (long_c L0.out).mono ?_); (rintro e w2 ⟨rfl, rfl⟩))
      | ((with_reducible refine (long_c L1.out).mono ?_); (rintro e w2 ⟨rfl, rfl⟩))
      | ((with_reducible refine (long_c L2.out).mono ?_); (rintro e w2 ⟨rfl, rfl⟩)))))
    go_ret
    exact ⟨rfl, HB.out⟩
  obtain ⟨x, hx⟩ : ∃ x, x = cmpW l0 l1 := ⟨_, rfl⟩
  obtain ⟨y, hy⟩ : ∃ x, x = cmpW l1 l2 := ⟨_, rfl⟩
  obtain ⟨z, hz⟩ : ∃ x, x = cmpW l0 l2 := ⟨_, rfl⟩
  have H4 := cmp_four l0 l1
  have H5 := cmp_four l1 l2
  have T0 := trans00 (a := l0) (b := l1) (c := l2)
  have T1 := trans1 (a := l0) (b := l1) (c := l2)
  rw [← hx] at H4
  rw [← hy] at H5
  rw [← hx, ← hy, ← hz] at T0 T1
  have X := hid_of hx
  have Y := hid_of hy
  have Z := hid_of hz
  clear hx hy hz
  have HA : x = 2 ∨ x = 3 ∨ (x = 0 ∧ y = 2) ∨ (x = 0 ∧ y = 3) ∨ (x = 1 ∧ y = 2) ∨ (x = 1 ∧ y = 3) ∨ (x = 0 ∧ y = 0 ∧ z = 0) ∨ (x = 0 ∧ y = 1 ∧ z = 1) ∨ (x = 1 ∧ y = 0 ∧ z = 1) ∨ (x = 1 ∧ y = 1 ∧ z = 1) := by
    rcases H4 with rfl | rfl | rfl | rfl <;> rcases H5 with rfl | rfl | rfl | rfl <;> simp at T0 T1 ⊢ <;> omega
  clear H4 H5 T0 T1
  rcases HA with rfl | rfl | ⟨rfl, rfl⟩ | ⟨rfl, rfl⟩ | ⟨rfl, rfl⟩ | ⟨rfl, rfl⟩ | ⟨rfl, rfl, rfl⟩ | ⟨rfl, rfl, rfl⟩ | ⟨rfl, rfl, rfl⟩ | ⟨rfl, rfl, rfl⟩
  all_goals (
    go_enter Try.func8, Try.ntmps8
    go_wp2_with (first
    | (go_at_call 12; ((with_reducible refine (awake_any w).mono ?_); (rintro e w2 ⟨rfl, h2⟩; replace R0 := hid_of (R0.out.at h2); replace R1 := hid_of (R1.out.at h2); replace R2 := hid_of (R2.out.at h2); replace HB := hid_of (bel_step HB.out h2 (Nat.le_refl _)); clear h2)))
    | (go_at_call 13; (first
      | ((with_reducible refine (long_c L0.out).mono ?_); (rintro e w2 ⟨rfl, rfl⟩))
      | ((with_reducible refine (long_c L1.out).mono ?_); (rintro e w2 ⟨rfl, rfl⟩))
      | ((with_reducible refine (long_c L2.out).mono ?_); (rintro e w2 ⟨rfl, rfl⟩))))
    | (go_at_call 21; (first
      | ((with_reducible refine (cmp_c R0.out R1.out X.out).mono ?_); (rintro e w2 ⟨rfl, h2⟩; replace R0 := hid_of (R0.out.at h2); replace R1 := hid_of (R1.out.at h2); replace R2 := hid_of (R2.out.at h2); replace HB := hid_of (bel_step HB.out h2 (Nat.le_refl _)); clear h2))
      | ((with_reducible refine (cmp_c R1.out R2.out Y.out).mono ?_); (rintro e w2 ⟨rfl, h2⟩; replace R0 := hid_of (R0.out.at h2); replace R1 := hid_of (R1.out.at h2); replace R2 := hid_of (R2.out.at h2); replace HB := hid_of (bel_step HB.out h2 (Nat.le_refl _)); clear h2))
      | ((with_reducible refine (cmp_c R0.out R2.out Z.out).mono ?_); (rintro e w2 ⟨rfl, h2⟩; replace R0 := hid_of (R0.out.at h2); replace R1 := hid_of (R1.out.at h2); replace R2 := hid_of (R2.out.at h2); replace HB := hid_of (bel_step HB.out h2 (Nat.le_refl _)); clear h2)))))
    go_ret
    exact ⟨rfl, HB.out⟩)
end Go.Proofs.Ytofgmimdmgaljaa
