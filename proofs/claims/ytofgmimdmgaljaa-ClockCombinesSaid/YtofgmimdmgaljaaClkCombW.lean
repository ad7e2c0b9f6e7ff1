/- ClockCombines. -/
import Derived.Test.YtofgmimdmgaljaaClkRCmp
namespace Go.Proofs.Ytofgmimdmgaljaa
open Go.RowKit

theorem omrg_c {ao bo : Option Addr} {n cap m cbp : Nat} {a b : List Tk} {w : World} (ra : TRd w (.slice ao n cap) a) (rb : TRd w (.slice bo m cbp) b) :
    Calls Try.prog 22 #[.slice ao n cap, .slice bo m cbp] w fun e w' => ∃ x k c, e = .returned (.slice x k c) ∧ TRd w' (.slice x k c) (vop gMax a b) ∧ Below w.heap.size w w' := op_max_any ao bo n cap m cbp a b w ra rb
theorem rmrg_c {ao bo : Option Addr} {n cap m cbp : Nat} {a b : List Tk} {w : World} (ra : TRd w (.slice ao n cap) a) (rb : TRd w (.slice bo m cbp) b) :
    Calls Try.prog 23 #[.slice ao n cap, .slice bo m cbp] w fun e w' => ∃ x k c, e = .returned (.slice x k c) ∧ TRd w' (.slice x k c) (vop gMax a b) ∧ Below w.heap.size w w' := rop_max_any ao bo n cap m cbp a b w ra rb
theorem ocmn_c {ao bo : Option Addr} {n cap m cbp : Nat} {a b : List Tk} {w : World} (ra : TRd w (.slice ao n cap) a) (rb : TRd w (.slice bo m cbp) b) :
    Calls Try.prog 24 #[.slice ao n cap, .slice bo m cbp] w fun e w' => ∃ x k c, e = .returned (.slice x k c) ∧ TRd w' (.slice x k c) (vop gMin a b) ∧ Below w.heap.size w w' := op_min_any ao bo n cap m cbp a b w ra rb
theorem rcmn_c {ao bo : Option Addr} {n cap m cbp : Nat} {a b : List Tk} {w : World} (ra : TRd w (.slice ao n cap) a) (rb : TRd w (.slice bo m cbp) b) :
    Calls Try.prog 25 #[.slice ao n cap, .slice bo m cbp] w fun e w' => ∃ x k c, e = .returned (.slice x k c) ∧ TRd w' (.slice x k c) (vop gMin a b) ∧ Below w.heap.size w w' := rop_min_any ao bo n cap m cbp a b w ra rb
theorem osub_c {ao bo : Option Addr} {n cap m cbp : Nat} {a b : List Tk} {w : World} (ra : TRd w (.slice ao n cap) a) (rb : TRd w (.slice bo m cbp) b) :
    Calls Try.prog 26 #[.slice ao n cap, .slice bo m cbp] w fun e w' => ∃ x k c, e = .returned (.slice x k c) ∧ TRd w' (.slice x k c) (vop gSub a b) ∧ Below w.heap.size w w' := op_sub_any ao bo n cap m cbp a b w ra rb
theorem rsub_c {ao bo : Option Addr} {n cap m cbp : Nat} {a b : List Tk} {w : World} (ra : TRd w (.slice ao n cap) a) (rb : TRd w (.slice bo m cbp) b) :
    Calls Try.prog 27 #[.slice ao n cap, .slice bo m cbp] w fun e w' => ∃ x k c, e = .returned (.slice x k c) ∧ TRd w' (.slice x k c) (vop gSub a b) ∧ Below w.heap.size w w' := rop_sub_any ao bo n cap m cbp a b w ra rb

set_option maxRecDepth 100000 in
set_option maxHeartbeats 6400000 in
theorem clockCombines_law (a0 : Option Addr) (n0 c0 : Nat) (l0 : List Tk) (a1 : Option Addr) (n1 c1 : Nat) (l1 : List Tk)  (w : World) (w0 : TIn w a0 n0 c0 l0) (w1 : TIn w a1 n1 c1 l1) :
    Calls Try.prog 5 #[.slice a0 n0 c0, .slice a1 n1 c1] w fun e w' => e = .returned (.bool true) ∧ Below w.heap.size w w' := by
  have R0 := hid_of w0.1
  have R1 := hid_of w1.1
  have HB := hid_of (Below.refl w.heap.size w)
  obtain ⟨b0, hb0⟩ : ∃ r, r = decide (200 < n0) := ⟨_, rfl⟩
  have L0 := hid_of hb0
  obtain ⟨b1, hb1⟩ : ∃ r, r = decide (200 < n1) := ⟨_, rfl⟩
  have L1 := hid_of hb1
  clear w0 hb0 w1 hb1
  cases b0
  case true =>
    go_enter Try.func5, Try.ntmps5
    go_wp2_with (first
    | (go_at_call 12; ((with_reducible refine (awake_any w).mono ?_); (rintro e w2 ⟨rfl, h2⟩; replace R0 := hid_of (R0.out.at h2); replace R1 := hid_of (R1.out.at h2); replace HB := hid_of (bel_step HB.out h2 (Nat.le_refl _)); clear h2)))
    | (go_at_call 13; (first
      | ((with_reducible refine (long_c L0.out).mono ?_); (rintro e w2 ⟨rfl, rfl⟩))
      | ((with_reducible refine (long_c L1.out).mono ?_); (rintro e w2 ⟨rfl, rfl⟩)))))
    go_ret
    exact ⟨rfl, HB.out⟩
  cases b1
  case true =>
    go_enter Try.func5, Try.ntmps5
    go_wp2_with (first
    | (go_at_call 12; ((with_reducible refine (awake_any w).mono ?_); (rintro e w2 ⟨rfl, h2⟩; replace R0 := hid_of (R0.out.at h2); replace R1 := hid_of (R1.out.at h2); replace HB := hid_of (bel_step HB.out h2 (Nat.le_refl _)); clear h2)))
    | (go_at_call 13; (first
      | ((with_reducible refine (long_c L0.out).mono ?_); (rintro e w2 ⟨rfl, rfl⟩))
      | ((with_reducible refine (long_c L1.out).mono ?_); (rintro e w2 ⟨rfl, rfl⟩)))))
    go_ret
    exact ⟨rfl, HB.out⟩
  obtain ⟨x, hx⟩ : ∃ x, x = cmpW l0 l1 := ⟨_, rfl⟩
  have X := hid_of hx
  have ex : (x == x) = true := by simp
  clear hx
  go_enter Try.func5, Try.ntmps5
  go_wp2_with (first
    | (go_at_call 12; ((with_reducible refine (awake_any w).mono ?_); (rintro e w2 ⟨rfl, h2⟩; replace R0 := hid_of (R0.out.at h2); replace R1 := hid_of (R1.out.at h2); replace HB := hid_of (bel_step HB.out h2 (Nat.le_refl _)); clear h2)))
    | (go_at_call 13; (first
      | ((with_reducible refine (long_c L0.out).mono ?_); (rintro e w2 ⟨rfl, rfl⟩))
      | ((with_reducible refine (long_c L1.out).mono ?_); (rintro e w2 ⟨rfl, rfl⟩))))
    | (go_at_call 22; ((with_reducible refine (omrg_c R0.out R1.out).mono ?_); (rintro e w2 ⟨xP0, kP0, cP0, rfl, h1, h2⟩; have P0 := hid_of h1; replace R0 := hid_of (R0.out.at h2); replace R1 := hid_of (R1.out.at h2); replace HB := hid_of (bel_step HB.out h2 (Nat.le_refl _)); clear h2; clear h1)))
    | (go_at_call 23; ((with_reducible refine (rmrg_c R0.out R1.out).mono ?_); (rintro e w2 ⟨xQ0, kQ0, cQ0, rfl, h1, h2⟩; have Q0 := hid_of h1; replace R0 := hid_of (R0.out.at h2); replace R1 := hid_of (R1.out.at h2); replace P0 := hid_of (P0.out.at h2); replace HB := hid_of (bel_step HB.out h2 (Nat.le_refl _)); clear h2; clear h1)))
    | (go_at_call 20; (first
      | ((with_reducible refine (same_c P0.out Q0.out (decide_eq_true rfl).symm).mono ?_); (rintro e w2 ⟨rfl, h2⟩; replace R0 := hid_of (R0.out.at h2); replace R1 := hid_of (R1.out.at h2); replace HB := hid_of (bel_step HB.out h2 (Nat.le_refl _)); clear h2))
      | ((with_reducible refine (same_c P1.out Q1.out (decide_eq_true rfl).symm).mono ?_); (rintro e w2 ⟨rfl, h2⟩; replace R0 := hid_of (R0.out.at h2); replace R1 := hid_of (R1.out.at h2); replace HB := hid_of (bel_step HB.out h2 (Nat.le_refl _)); clear h2))
      | ((with_reducible refine (same_c P2.out Q2.out (decide_eq_true rfl).symm).mono ?_); (rintro e w2 ⟨rfl, h2⟩; replace R0 := hid_of (R0.out.at h2); replace R1 := hid_of (R1.out.at h2); replace HB := hid_of (bel_step HB.out h2 (Nat.le_refl _)); clear h2))))
    | (go_at_call 24; ((with_reducible refine (ocmn_c R0.out R1.out).mono ?_); (rintro e w2 ⟨xP1, kP1, cP1, rfl, h1, h2⟩; have P1 := hid_of h1; replace R0 := hid_of (R0.out.at h2); replace R1 := hid_of (R1.out.at h2); replace HB := hid_of (bel_step HB.out h2 (Nat.le_refl _)); clear h2; clear h1)))
    | (go_at_call 25; ((with_reducible refine (rcmn_c R0.out R1.out).mono ?_); (rintro e w2 ⟨xQ1, kQ1, cQ1, rfl, h1, h2⟩; have Q1 := hid_of h1; replace R0 := hid_of (R0.out.at h2); replace R1 := hid_of (R1.out.at h2); replace P1 := hid_of (P1.out.at h2); replace HB := hid_of (bel_step HB.out h2 (Nat.le_refl _)); clear h2; clear h1)))
    | (go_at_call 26; ((with_reducible refine (osub_c R0.out R1.out).mono ?_); (rintro e w2 ⟨xP2, kP2, cP2, rfl, h1, h2⟩; have P2 := hid_of h1; replace R0 := hid_of (R0.out.at h2); replace R1 := hid_of (R1.out.at h2); replace HB := hid_of (bel_step HB.out h2 (Nat.le_refl _)); clear h2; clear h1)))
    | (go_at_call 27; ((with_reducible refine (rsub_c R0.out R1.out).mono ?_); (rintro e w2 ⟨xQ2, kQ2, cQ2, rfl, h1, h2⟩; have Q2 := hid_of h1; replace R0 := hid_of (R0.out.at h2); replace R1 := hid_of (R1.out.at h2); replace P2 := hid_of (P2.out.at h2); replace HB := hid_of (bel_step HB.out h2 (Nat.le_refl _)); clear h2; clear h1)))
    | (go_at_call 21; ((with_reducible refine (cmp_c R0.out R1.out X.out).mono ?_); (rintro e w2 ⟨rfl, h2⟩; replace R0 := hid_of (R0.out.at h2); replace R1 := hid_of (R1.out.at h2); replace HB := hid_of (bel_step HB.out h2 (Nat.le_refl _)); clear h2)))
    | (go_at_call 28; ((with_reducible refine (rcmp_c R0.out R1.out X.out).mono ?_); (rintro e w2 ⟨rfl, h2⟩; replace HB := hid_of (bel_step HB.out h2 (Nat.le_refl _)); clear h2))))
  go_ret
  exact ⟨rfl, HB.out⟩
end Go.Proofs.Ytofgmimdmgaljaa
