/- ClockOrders. -/
import Derived.Test.YtofgmimdmgaljaaClkLawM
namespace Go.Proofs.Ytofgmimdmgaljaa
open Go.RowKit

set_option maxRecDepth 100000 in
set_option maxHeartbeats 6400000 in
theorem clockOrders_law (a0 : Option Addr) (n0 c0 : Nat) (l0 : List Tk) (a1 : Option Addr) (n1 c1 : Nat) (l1 : List Tk)  (w : World) (w0 : TIn w a0 n0 c0 l0) (w1 : TIn w a1 n1 c1 l1) :
    Calls Try.prog 7 #[.slice a0 n0 c0, .slice a1 n1 c1] w fun e w' => e = .returned (.bool true) ∧ Below w.heap.size w w' := by
  have R0 := hid_of w0.1
  have R1 := hid_of w1.1
  have HB := hid_of (Below.refl w.heap.size w)
  obtain ⟨b0, hb0⟩ : ∃ r, r = decide (200 < n0) := ⟨_, rfl⟩
  have L0 := hid_of hb0
  obtain ⟨b1, hb1⟩ : ∃ r, r = decide (200 < n1) := ⟨_, rfl⟩
  have L1 := hid_of hb1
  clear w0 hb0 w1 hb1
  obtain ⟨v0, hv0⟩ : ∃ r, r = okV l0 := ⟨_, rfl⟩
  obtain ⟨v1, hv1⟩ : ∃ r, r = okV l1 := ⟨_, rfl⟩
  have V0 := hid_of hv0
  have V1 := hid_of hv1
  clear hv0 hv1
  cases b0
  case true =>
    go_enter Try.func7, Try.ntmps7
    go_wp2_with (first
    | (go_at_call 12; ((with_reducible refine (awake_any w).mono ?_); (rintro e w2 ⟨rfl, h2⟩; replace R0 := hid_of (R0.out.at h2); replace R1 := hid_of (R1.out.at h2); replace HB := hid_of (bel_step HB.out h2 (Nat.le_refl _)); clear h2)))
    | (go_at_call 13; (first
      | ((with_reducible refine (long_c L0.out).mono ?_); (rintro e w2 ⟨rfl, rfl⟩))
      | ((with_reducible refine (long_c L1.out).mono ?_); (rintro e w2 ⟨rfl, rfl⟩))))
    | (go_at_call 16; (first
      | ((with_reducible refine (valid_c R0.out V0.out).mono ?_); (rintro e w2 ⟨rfl, h2⟩; replace R0 := hid_of (R0.out.at h2); replace R1 := hid_of (R1.out.at h2); replace HB := hid_of (bel_step HB.out h2 (Nat.le_refl _)); clear h2))
      | ((with_reducible refine (valid_c R1.out V1.out).mono ?_); (rintro e w2 ⟨rfl, h2⟩; replace R0 := hid_of (R0.out.at h2); replace R1 := hid_of (R1.out.at h2); replace HB := hid_of (bel_step HB.out h2 (Nat.le_refl _)); clear h2)))))
    go_ret
    exact ⟨rfl, HB.out⟩
  cases b1
  case true =>
    go_enter Try.func7, Try.ntmps7
    go_wp2_with (first
    | (go_at_call 12; ((with_reducible refine (awake_any w).mono ?_); (rintro e w2 ⟨rfl, h2⟩; replace R0 := hid_of (R0.out.at h2); replace R1 := hid_of (R1.out.at h2); replace HB := hid_of (bel_step HB.out h2 (Nat.le_refl _)); clear h2)))
    | (go_at_call 13; (first
      | ((with_reducible refine (long_c L0.out).mono ?_); (rintro e w2 ⟨rfl, rfl⟩))
      | ((with_reducible refine (long_c L1.out).mono ?_); (rintro e w2 ⟨rfl, rfl⟩))))
    | (go_at_call 16; (first
      | ((with_reducible refine (valid_c R0.out V0.out).mono ?_); (rintro e w2 ⟨rfl, h2⟩; replace R0 := hid_of (R0.out.at h2); replace R1 := hid_of (R1.out.at h2); replace HB := hid_of (bel_step HB.out h2 (Nat.le_refl _)); clear h2))
      | ((with_reducible refine (valid_c R1.out V1.out).mono ?_); (rintro e w2 ⟨rfl, h2⟩; replace R0 := hid_of (R0.out.at h2); replace R1 := hid_of (R1.out.at h2); replace HB := hid_of (bel_step HB.out h2 (Nat.le_refl _)); clear h2)))))
    go_ret
    exact ⟨rfl, HB.out⟩
  cases v0
  case false =>
    go_enter Try.func7, Try.ntmps7
    go_wp2_with (first
    | (go_at_call 12; ((with_reducible refine (awake_any w).mono ?_); (rintro e w2 ⟨rfl, h2⟩; replace R0 := hid_of (R0.out.at h2); replace R1 := hid_of (R1.out.at h2); replace HB := hid_of (bel_step HB.out h2 (Nat.le_refl _)); clear h2)))
    | (go_at_call 13; (first
      | ((with_reducible refine (long_c L0.out).mono ?_); (rintro e w2 ⟨rfl, rfl⟩))
      | ((with_reducible refine (long_c L1.out).mono ?_); (rintro e w2 ⟨rfl, rfl⟩))))
    | (go_at_call 16; (first
      | ((with_reducible refine (valid_c R0.out V0.out).mono ?_); (rintro e w2 ⟨rfl, h2⟩; replace R0 := hid_of (R0.out.at h2); replace R1 := hid_of (R1.out.at h2); replace HB := hid_of (bel_step HB.out h2 (Nat.le_refl _)); clear h2))
      | ((with_reducible refine (valid_c R1.out V1.out).mono ?_); (rintro e w2 ⟨rfl, h2⟩; replace R0 := hid_of (R0.out.at h2); replace R1 := hid_of (R1.out.at h2); replace HB := hid_of (bel_step HB.out h2 (Nat.le_refl _)); clear h2)))))
    go_ret
    exact ⟨rfl, HB.out⟩
  cases v1
  case false =>
    go_enter Try.func7, Try.ntmps7
    go_wp2_with (first
    | (go_at_call 12; ((with_reducible refine (awake_any w).mono ?_); (rintro e w2 ⟨rfl, h2⟩; replace R0 := hid_of (R0.out.at h2); replace R1 := hid_of (R1.out.at h2); replace HB := hid_of (bel_step HB.out h2 (Nat.le_refl _)); clear h2)))
    | (go_at_call 13; (first
      | ((with_reducible refine (long_c L0.out).mono ?_); (rintro e w2 ⟨rfl, rfl⟩))
      | ((with_reducible refine (long_c L1.out).mono ?_); (rintro e w2 ⟨rfl, rfl⟩))))
    | (go_at_call 16; (first
      | ((with_reducible refine (valid_c R0.out V0.out).mono ?_); (rintro e w2 ⟨rfl, h2⟩; replace R0 := hid_of (R0.out.at h2); replace R1 := hid_of (R1.out.at h2); replace HB := hid_of (bel_step HB.out h2 (Nat.le_refl _)); clear h2))
      | ((with_reducible refine (valid_c R1.out V1.out).mono ?_); (rintro e w2 ⟨rfl, h2⟩; replace R0 := hid_of (R0.out.at h2); replace R1 := hid_of (R1.out.at h2); replace HB := hid_of (bel_step HB.out h2 (Nat.le_refl _)); clear h2)))))
    go_ret
    exact ⟨rfl, HB.out⟩
  have va := (okV_iff l0).1 V0.out.symm
  have vb := (okV_iff l1).1 V1.out.symm
  have VA := hid_of va
  have VB := hid_of vb
  have HO := orders va vb
  clear va vb
  obtain ⟨x, hx⟩ : ∃ x, x = cmpW l0 l1 := ⟨_, rfl⟩
  obtain ⟨y, hy⟩ : ∃ x, x = cmpW l1 l0 := ⟨_, rfl⟩
  obtain ⟨s, hs⟩ : ∃ x, x = decide (l0 = l1) := ⟨_, rfl⟩
  obtain ⟨u, hu⟩ : ∃ x, x = decide (mrg l0 l1 = l1) := ⟨_, rfl⟩
  rw [← hx, ← hy, ← hs, ← hu] at HO
  have X := hid_of hx
  have Y := hid_of hy
  have S := hid_of hs
  have U := hid_of hu
  clear hx hy hs hu
  rcases HO with ⟨rfl, rfl, rfl, rfl⟩ | ⟨rfl, rfl, rfl, rfl⟩ | ⟨rfl, rfl, rfl, rfl⟩ | ⟨rfl, rfl, rfl, rfl⟩
  all_goals (
    go_enter Try.func7, Try.ntmps7
    go_wp2_with (first
    | (go_at_call 12; ((with_reducible refine (awake_any w).mono ?_); (rintro e w2 ⟨rfl, h2⟩; replace R0 := hid_of (R0.out.at h2); replace R1 := hid_of (R1.out.at h2); replace HB := hid_of (bel_step HB.out h2 (Nat.le_refl _)); clear h2)))
    | (go_at_call 13; (first
      | ((with_reducible refine (long_c L0.out).mono ?_); (rintro e w2 ⟨rfl, rfl⟩))
      | ((with_reducible refine (long_c L1.out).mono ?_); (rintro e w2 ⟨rfl, rfl⟩))))
    | (go_at_call 16; (first
      | ((with_reducible refine (valid_c R0.out V0.out).mono ?_); (rintro e w2 ⟨rfl, h2⟩; replace R0 := hid_of (R0.out.at h2); replace R1 := hid_of (R1.out.at h2); replace HB := hid_of (bel_step HB.out h2 (Nat.le_refl _)); clear h2))
      | ((with_reducible refine (valid_c R1.out V1.out).mono ?_); (rintro e w2 ⟨rfl, h2⟩; replace R0 := hid_of (R0.out.at h2); replace R1 := hid_of (R1.out.at h2); replace HB := hid_of (bel_step HB.out h2 (Nat.le_refl _)); clear h2))))
    | (go_at_call 21; (first
      | ((with_reducible refine (cmp_c R0.out R1.out X.out).mono ?_); (rintro e w2 ⟨rfl, h2⟩; replace R0 := hid_of (R0.out.at h2); replace R1 := hid_of (R1.out.at h2); replace HB := hid_of (bel_step HB.out h2 (Nat.le_refl _)); clear h2))
      | ((with_reducible refine (cmp_c R1.out R0.out Y.out).mono ?_); (rintro e w2 ⟨rfl, h2⟩; replace R0 := hid_of (R0.out.at h2); replace R1 := hid_of (R1.out.at h2); replace HB := hid_of (bel_step HB.out h2 (Nat.le_refl _)); clear h2))))
    | (go_at_call 20; (first
      | ((with_reducible refine (same_c R0.out R1.out S.out).mono ?_); (rintro e w2 ⟨rfl, h2⟩; replace R0 := hid_of (R0.out.at h2); replace R1 := hid_of (R1.out.at h2); replace HB := hid_of (bel_step HB.out h2 (Nat.le_refl _)); clear h2))
      | ((with_reducible refine (same_c M.out R1.out U.out).mono ?_); (rintro e w2 ⟨rfl, h2⟩; replace R0 := hid_of (R0.out.at h2); replace R1 := hid_of (R1.out.at h2); replace HB := hid_of (bel_step HB.out h2 (Nat.le_refl _)); clear h2))))
    | (go_at_call 22; ((with_reducible refine (mrg_c R0.out R1.out VA.out VB.out).mono ?_); (rintro e w2 ⟨xM, kM, cM, rfl, h1, h2⟩; have M := hid_of h1; replace R0 := hid_of (R0.out.at h2); replace R1 := hid_of (R1.out.at h2); replace HB := hid_of (bel_step HB.out h2 (Nat.le_refl _)); clear h2; clear h1))))
    go_ret
    exact ⟨rfl, HB.out⟩)
end Go.Proofs.Ytofgmimdmgaljaa
