/- ClockLattice. -/
import Derived.Test.YtofgmimdmgaljaaClkLawM
namespace Go.Proofs.Ytofgmimdmgaljaa
open Go.RowKit

set_option maxRecDepth 100000 in
set_option maxHeartbeats 6400000 in
theorem clockLattice_law (a0 : Option Addr) (n0 c0 : Nat) (l0 : List Tk) (a1 : Option Addr) (n1 c1 : Nat) (l1 : List Tk) (a2 : Option Addr) (n2 c2 : Nat) (l2 : List Tk)  (w : World) (w0 : TIn w a0 n0 c0 l0) (w1 : TIn w a1 n1 c1 l1) (w2 : TIn w a2 n2 c2 l2) :
    Calls Try.prog 6 #[.slice a0 n0 c0, .slice a1 n1 c1, .slice a2 n2 c2] w fun e w' => e = .returned (.bool true) ∧ Below w.heap.size w w' := by
  have R0 := hid_of w0.1
  have R1 := hid_of w1.1
  have R2 := hid_of w2.1
  have HB := hid_of (Below.refl w.heap.size w)
  obtain ⟨b0, hb0⟩ : ∃ r, r = decide (200 < n0) := ⟨_, rfl⟩
  have L0 := hid_of hb0
  obtain ⟨b1, hb1⟩ : ∃ r, r = decide (200 < n1) := ⟨_, rfl⟩
  have L1 := hid_of hb1
  obtain ⟨b2, hb2⟩ : ∃ r, r = decide (200 < n2) := ⟨_, rfl⟩
  have L2 := hid_of hb2
  clear w0 hb0 w1 hb1 w2 hb2
  obtain ⟨v0, hv0⟩ : ∃ r, r = okV l0 := ⟨_, rfl⟩
  have V0 := hid_of hv0
  clear hv0
  obtain ⟨v1, hv1⟩ : ∃ r, r = okV l1 := ⟨_, rfl⟩
  have V1 := hid_of hv1
  clear hv1
  obtain ⟨v2, hv2⟩ : ∃ r, r = okV l2 := ⟨_, rfl⟩
  have V2 := hid_of hv2
  clear hv2
  cases b0
  case true =>
    go_enter Try.func6, Try.ntmps6
    go_wp2_with (first
    | (go_at_call 12; ((with_reducible refine (awake_any w).mono ?_); (rintro e w2 ⟨rfl, h2⟩; replace R0 := hid_of (R0.out.at h2); replace R1 := hid_of (R1.out.at h2); replace R2 := hid_of (R2.out.at h2); replace HB := hid_of (bel_step HB.out h2 (Nat.le_refl _)); clear h2)))
    | (go_at_call 13; (first
      | ((with_reducible refine (long_c L0.out).mono ?_); (rintro e w2 ⟨rfl, rfl⟩))
      | ((with_reducible refine (long_c L1.out).mono ?_); (rintro e w2 ⟨rfl, rfl⟩))
      | ((with_reducible refine (long_c L2.out).mono ?_); (rintro e w2 ⟨rfl, rfl⟩))))
    | (go_at_call 16; (first
      | ((with_reducible refine (valid_c R0.out V0.out).mono ?_); (rintro e w2 ⟨rfl, h2⟩; replace R0 := hid_of (R0.out.at h2); replace R1 := hid_of (R1.out.at h2); replace R2 := hid_of (R2.out.at h2); replace HB := hid_of (bel_step HB.out h2 (Nat.le_refl _)); clear h2))
      | ((with_reducible refine (valid_c R1.out V1.out).mono ?_); (rintro e w2 ⟨rfl, h2⟩; replace R0 := hid_of (R0.out.at h2); replace R1 := hid_of (R1.out.at h2); replace R2 := hid_of (R2.out.at h2); replace HB := hid_of (bel_step HB.out h2 (Nat.le_refl _)); clear h2))
      | ((with_reducible refine (valid_c R2.out V2.out).mono ?_); (rintro e w2 ⟨rfl, h2⟩; replace R0 := hid_of (R0.out.at h2); replace R1 := hid_of (R1.out.at h2); replace R2 := hid_of (R2.out.at h2); replace HB := hid_of (bel_step HB.out h2 (Nat.le_refl _)); clear h2)))))
    go_ret
    exact ⟨rfl, HB.out⟩
  cases b1
  case true =>
    go_enter Try.func6, Try.ntmps6
    go_wp2_with (first
    | (go_at_call 12; ((with_reducible refine (awake_any w).mono ?_); (rintro e w2 ⟨rfl, h2⟩; replace R0 := hid_of (R0.out.at h2); replace R1 := hid_of (R1.out.at h2); replace R2 := hid_of (R2.out.at h2); replace HB := hid_of (bel_step HB.out h2 (Nat.le_refl _)); clear h2)))
    | (go_at_call 13; (first
      | ((with_reducible refine (long_c L0.out).mono ?_); (rintro e w2 ⟨rfl, rfl⟩))
      | ((with_reducible refine (long_c L1.out).mono ?_); (rintro e w2 ⟨rfl, rfl⟩))
      | ((with_reducible refine (long_c L2.out).mono ?_); (rintro e w2 ⟨rfl, rfl⟩))))
    | (go_at_call 16; (first
      | ((with_reducible refine (valid_c R0.out V0.out).mono ?_); (rintro e w2 ⟨rfl, h2⟩; replace R0 := hid_of (R0.out.at h2); replace R1 := hid_of (R1.out.at h2); replace R2 := hid_of (R2.out.at h2); replace HB := hid_of (bel_step HB.out h2 (Nat.le_refl _)); clear h2))
      | ((with_reducible refine (valid_c R1.out V1.out).mono ?_); (rintro e w2 ⟨rfl, h2⟩; replace R0 := hid_of (R0.out.at h2); replace R1 := hid_of (R1.out.at h2); replace R2 := hid_of (R2.out.at h2); replace HB := hid_of (bel_step HB.out h2 (Nat.le_refl _)); clear h2))
      | ((with_reducible refine (valid_c R2.out V2.out).mono ?_); (rintro e w2 ⟨rfl, h2⟩; replace R0 := hid_of (R0.out.at h2); replace R1 := hid_of (R1.out.at h2); replace R2 := hid_of (R2.out.at h2); replace HB := hid_of (bel_step HB.out h2 (Nat.le_refl _)); clear h2)))))
    go_ret
    exact ⟨rfl, HB.out⟩
  cases b2
  case true =>
    go_enter Try.func6, Try.ntmps6
    go_wp2_with (first
    | (go_at_call 12; ((with_reducible refine (awake_any w).mono ?_); (rintro e w2 ⟨rfl, h2⟩; replace R0 := hid_of (R0.out.at h2); replace R1 := hid_of (R1.out.at h2); replace R2 := hid_of (R2.out.at h2); replace HB := hid_of (bel_step HB.out h2 (Nat.le_refl _)); clear h2)))
    | (go_at_call 13; (first
      | ((with_reducible refine (long_c L0.out).mono ?_); (rintro e w2 ⟨rfl, rfl⟩))
      | ((with_reducible refine (long_c L1.out).mono ?_); (rintro e w2 ⟨rfl, rfl⟩))
      | ((with_reducible refine (long_c L2.out).mono ?_); (rintro e w2 ⟨rfl, rfl⟩))))
    | (go_at_call 16; (first
      | ((with_reducible refine (valid_c R0.out V0.out).mono ?_); (rintro e w2 ⟨rfl, h2⟩; replace R0 := hid_of (R0.out.at h2); replace R1 := hid_of (R1.out.at h2); replace R2 := hid_of (R2.out.at h2); replace HB := hid_of (bel_step HB.out h2 (Nat.le_refl _)); clear h2))
      | ((with_reducible refine (valid_c R1.out V1.out).mono ?_); (rintro e w2 ⟨rfl, h2⟩; replace R0 := hid_of (R0.out.at h2); replace R1 := hid_of (R1.out.at h2); replace R2 := hid_of (R2.out.at h2); replace HB := hid_of (bel_step HB.out h2 (Nat.le_refl _)); clear h2))
      | ((with_reducible refine (valid_c R2.out V2.out).mono ?_); (rintro e w2 ⟨rfl, h2⟩; replace R0 := hid_of (R0.out.at h2); replace R1 := hid_of (R1.out.at h2); replace R2 := hid_of (R2.out.at h2); replace HB := hid_of (bel_step HB.out h2 (Nat.le_refl _)); clear h2)))))
    go_ret
    exact ⟨rfl, HB.out⟩
  cases v0
  case false =>
    go_enter Try.func6, Try.ntmps6
    go_wp2_with (first
    | (go_at_call 12; ((with_reducible refine (awake_any w).mono ?_); (rintro e w2 ⟨rfl, h2⟩; replace R0 := hid_of (R0.out.at h2); replace R1 := hid_of (R1.out.at h2); replace R2 := hid_of (R2.out.at h2); replace HB := hid_of (bel_step HB.out h2 (Nat.le_refl _)); clear h2)))
    | (go_at_call 13; (first
      | ((with_reducible refine (long_c L0.out).mono ?_); (rintro e w2 ⟨rfl, rfl⟩))
      | ((with_reducible refine (long_c L1.out).mono ?_); (rintro e w2 ⟨rfl, rfl⟩))
      | ((with_reducible refine (long_c L2.out).mono ?_); (rintro e w2 ⟨rfl, rfl⟩))))
    | (go_at_call 16; (first
      | ((with_reducible refine (valid_c R0.out V0.out).mono ?_); (rintro e w2 ⟨rfl, h2⟩; replace R0 := hid_of (R0.out.at h2); replace R1 := hid_of (R1.out.at h2); replace R2 := hid_of (R2.out.at h2); replace HB := hid_of (bel_step HB.out h2 (Nat.le_refl _)); clear h2))
      | ((with_reducible refine (valid_c R1.out V1.out).mono ?_); (rintro e w2 ⟨rfl, h2⟩; replace R0 := hid_of (R0.out.at h2); replace R1 := hid_of (R1.out.at h2); replace R2 := hid_of (R2.out.at h2); replace HB := hid_of (bel_step HB.out h2 (Nat.le_refl _)); clear h2))
      | ((with_reducible refine (valid_c R2.out V2.out).mono ?_); (rintro e w2 ⟨rfl, h2⟩; replace R0 := hid_of (R0.out.at h2); replace R1 := hid_of (R1.out.at h2); replace R2 := hid_of (R2.out.at h2); replace HB := hid_of (bel_step HB.out h2 (Nat.le_refl _)); clear h2)))))
    go_ret
    exact ⟨rfl, HB.out⟩
  cases v1
  case false =>
    go_enter Try.func6, Try.ntmps6
    go_wp2_with (first
    | (go_at_call 12; ((with_reducible refine (awake_any w).mono ?_); (rintro e w2 ⟨rfl, h2⟩; replace R0 := hid_of (R0.out.at h2); replace R1 := hid_of (R1.out.at h2); replace R2 := hid_of (R2.out.at h2); replace HB := hid_of (bel_step HB.out h2 (Nat.le_refl _)); clear h2)))
    | (go_at_call 13; (first
      | ((with_reducible refine (long_c L0.out).mono ?_); (rintro e w2 ⟨rfl, rfl⟩))
      | ((with_reducible refine (long_c L1.out).mono ?_); (rintro e w2 ⟨rfl, rfl⟩))
      | ((with_reducible refine (long_c L2.out).mono ?_); (rintro e w2 ⟨rfl, rfl⟩))))
    | (go_at_call 16; (first
      | ((with_reducible refine (valid_c R0.out V0.out).mono ?_); (rintro e w2 ⟨rfl, h2⟩; replace R0 := hid_of (R0.out.at h2); replace R1 := hid_of (R1.out.at h2); replace R2 := hid_of (R2.out.at h2); replace HB := hid_of (bel_step HB.out h2 (Nat.le_refl _)); clear h2))
      | ((with_reducible refine (valid_c R1.out V1.out).mono ?_); (rintro e w2 ⟨rfl, h2⟩; replace R0 := hid_of (R0.out.at h2); replace R1 := hid_of (R1.out.at h2); replace R2 := hid_of (R2.out.at h2); replace HB := hid_of (bel_step HB.out h2 (Nat.le_refl _)); clear h2))
      | ((with_reducible refine (valid_c R2.out V2.out).mono ?_); (rintro e w2 ⟨rfl, h2⟩; replace R0 := hid_of (R0.out.at h2); replace R1 := hid_of (R1.out.at h2); replace R2 := hid_of (R2.out.at h2); replace HB := hid_of (bel_step HB.out h2 (Nat.le_refl _)); clear h2)))))
    go_ret
    exact ⟨rfl, HB.out⟩
  cases v2
  case false =>
    go_enter Try.func6, Try.ntmps6
    go_wp2_with (first
    | (go_at_call 12; ((with_reducible refine (awake_any w).mono ?_); (rintro e w2 ⟨rfl, h2⟩; replace R0 := hid_of (R0.out.at h2); replace R1 := hid_of (R1.out.at h2); replace R2 := hid_of (R2.out.at h2); replace HB := hid_of (bel_step HB.out h2 (Nat.le_refl _)); clear h2)))
    | (go_at_call 13; (first
      | ((with_reducible refine (long_c L0.out).mono ?_); (rintro e w2 ⟨rfl, rfl⟩))
      | ((with_reducible refine (long_c L1.out).mono ?_); (rintro e w2 ⟨rfl, rfl⟩))
      | ((with_reducible refine (long_c L2.out).mono ?_); (rintro e w2 ⟨rfl, rfl⟩))))
    | (go_at_call 16; (first
      | ((with_reducible refine (valid_c R0.out V0.out).mono ?_); (rintro e w2 ⟨rfl, h2⟩; replace R0 := hid_of (R0.out.at h2); replace R1 := hid_of (R1.out.at h2); replace R2 := hid_of (R2.out.at h2); replace HB := hid_of (bel_step HB.out h2 (Nat.le_refl _)); clear h2))
      | ((with_reducible refine (valid_c R1.out V1.out).mono ?_); (rintro e w2 ⟨rfl, h2⟩; replace R0 := hid_of (R0.out.at h2); replace R1 := hid_of (R1.out.at h2); replace R2 := hid_of (R2.out.at h2); replace HB := hid_of (bel_step HB.out h2 (Nat.le_refl _)); clear h2))
      | ((with_reducible refine (valid_c R2.out V2.out).mono ?_); (rintro e w2 ⟨rfl, h2⟩; replace R0 := hid_of (R0.out.at h2); replace R1 := hid_of (R1.out.at h2); replace R2 := hid_of (R2.out.at h2); replace HB := hid_of (bel_step HB.out h2 (Nat.le_refl _)); clear h2)))))
    go_ret
    exact ⟨rfl, HB.out⟩
  have va0 := (okV_iff l0).1 V0.out.symm
  have VA0 := hid_of va0
  have va1 := (okV_iff l1).1 V1.out.symm
  have VA1 := hid_of va1
  have va2 := (okV_iff l2).1 V2.out.symm
  have VA2 := hid_of va2
  have E0 : Hid (true = decide (mrg l0 l1 = mrg l1 l0)) := hid_of (decide_eq_true (mrg_comm va0 va1)).symm
  have E1 : Hid (true = decide (cmn l0 l1 = cmn l1 l0)) := hid_of (decide_eq_true (cmn_comm va0 va1)).symm
  have E2 : Hid (true = decide (mrg l0 l0 = l0)) := hid_of (decide_eq_true (mrg_idem va0)).symm
  have E3 : Hid (true = decide (cmn l0 l0 = l0)) := hid_of (decide_eq_true (cmn_idem va0)).symm
  have E4 : Hid (true = decide (mrg (mrg l0 l1) l2 = mrg l0 (mrg l1 l2))) := hid_of (decide_eq_true (mrg_assoc va0 va1 va2)).symm
  have E5 : Hid (true = decide (cmn (cmn l0 l1) l2 = cmn l0 (cmn l1 l2))) := hid_of (decide_eq_true (cmn_assoc va0 va1 va2)).symm
  have E6 : Hid (true = decide (mrg l0 (cmn l0 l1) = l0)) := hid_of (decide_eq_true (mrg_absorb va0 va1)).symm
  have E7 : Hid (true = decide (cmn l0 (mrg l0 l1) = l0)) := hid_of (decide_eq_true (cmn_absorb va0 va1)).symm
  have E8 : Hid (true = decide (cmn (mrg l0 l1) l2 = mrg (cmn l0 l2) (cmn l1 l2))) := hid_of (decide_eq_true (cmn_dist va0 va1 va2)).symm
  have VM := hid_of (mrg_vv va0 va1)
  have VW := hid_of (cmn_vv va0 va1)
  have VM12 := hid_of (mrg_vv va1 va2)
  have VW12 := hid_of (cmn_vv va1 va2)
  have VW02 := hid_of (cmn_vv va0 va2)
  clear va0 va1 va2
  go_enter Try.func6, Try.ntmps6
  go_wp2_with (first
    | (go_at_call 12; ((with_reducible refine (awake_any w).mono ?_); (rintro e w2 ⟨rfl, h2⟩; replace R0 := hid_of (R0.out.at h2); replace R1 := hid_of (R1.out.at h2); replace R2 := hid_of (R2.out.at h2); replace HB := hid_of (bel_step HB.out h2 (Nat.le_refl _)); clear h2)))
    | (go_at_call 13; (first
      | ((with_reducible refine (long_c L0.out).mono ?_); (rintro e w2 ⟨rfl, rfl⟩))
      | ((with_reducible refine (long_c L1.out).mono ?_); (rintro e w2 ⟨rfl, rfl⟩))
      | ((with_reducible refine (long_c L2.out).mono ?_); (rintro e w2 ⟨rfl, rfl⟩))))
    | (go_at_call 16; (first
      | ((with_reducible refine (valid_c R0.out V0.out).mono ?_); (rintro e w2 ⟨rfl, h2⟩; replace R0 := hid_of (R0.out.at h2); replace R1 := hid_of (R1.out.at h2); replace R2 := hid_of (R2.out.at h2); replace HB := hid_of (bel_step HB.out h2 (Nat.le_refl _)); clear h2))
      | ((with_reducible refine (valid_c R1.out V1.out).mono ?_); (rintro e w2 ⟨rfl, h2⟩; replace R0 := hid_of (R0.out.at h2); replace R1 := hid_of (R1.out.at h2); replace R2 := hid_of (R2.out.at h2); replace HB := hid_of (bel_step HB.out h2 (Nat.le_refl _)); clear h2))
      | ((with_reducible refine (valid_c R2.out V2.out).mono ?_); (rintro e w2 ⟨rfl, h2⟩; replace R0 := hid_of (R0.out.at h2); replace R1 := hid_of (R1.out.at h2); replace R2 := hid_of (R2.out.at h2); replace HB := hid_of (bel_step HB.out h2 (Nat.le_refl _)); clear h2))))
    | (go_at_call 22; (first
      | ((with_reducible refine (mrg_c R0.out R1.out VA0.out VA1.out).mono ?_); (rintro e w2 ⟨xM, kM, cM, rfl, h1, h2⟩; have M := hid_of h1; replace R0 := hid_of (R0.out.at h2); replace R1 := hid_of (R1.out.at h2); replace R2 := hid_of (R2.out.at h2); replace HB := hid_of (bel_step HB.out h2 (Nat.le_refl _)); clear h2; clear h1))
      | ((with_reducible refine (mrg_c R1.out R0.out VA1.out VA0.out).mono ?_); (rintro e w2 ⟨xX0, kX0, cX0, rfl, h1, h2⟩; have X0 := hid_of h1; replace R0 := hid_of (R0.out.at h2); replace R1 := hid_of (R1.out.at h2); replace R2 := hid_of (R2.out.at h2); replace M := hid_of (M.out.at h2); replace W := hid_of (W.out.at h2); replace HB := hid_of (bel_step HB.out h2 (Nat.le_refl _)); clear h2; clear h1))
      | ((with_reducible refine (mrg_c R0.out R0.out VA0.out VA0.out).mono ?_); (rintro e w2 ⟨xX2, kX2, cX2, rfl, h1, h2⟩; have X2 := hid_of h1; replace R0 := hid_of (R0.out.at h2); replace R1 := hid_of (R1.out.at h2); replace R2 := hid_of (R2.out.at h2); replace M := hid_of (M.out.at h2); replace W := hid_of (W.out.at h2); replace HB := hid_of (bel_step HB.out h2 (Nat.le_refl _)); clear h2; clear h1))
      | ((with_reducible refine (mrg_c M.out R2.out VM.out VA2.out).mono ?_); (rintro e w2 ⟨xX4, kX4, cX4, rfl, h1, h2⟩; have X4 := hid_of h1; replace R0 := hid_of (R0.out.at h2); replace R1 := hid_of (R1.out.at h2); replace R2 := hid_of (R2.out.at h2); replace M := hid_of (M.out.at h2); replace W := hid_of (W.out.at h2); replace HB := hid_of (bel_step HB.out h2 (Nat.le_refl _)); clear h2; clear h1))
      | ((with_reducible refine (mrg_c R1.out R2.out VA1.out VA2.out).mono ?_); (rintro e w2 ⟨xY4, kY4, cY4, rfl, h1, h2⟩; have Y4 := hid_of h1; replace R0 := hid_of (R0.out.at h2); replace R1 := hid_of (R1.out.at h2); replace R2 := hid_of (R2.out.at h2); replace M := hid_of (M.out.at h2); replace W := hid_of (W.out.at h2); replace X4 := hid_of (X4.out.at h2); replace HB := hid_of (bel_step HB.out h2 (Nat.le_refl _)); clear h2; clear h1))
      | ((with_reducible refine (mrg_c R0.out Y4.out VA0.out VM12.out).mono ?_); (rintro e w2 ⟨xZ4, kZ4, cZ4, rfl, h1, h2⟩; have Z4 := hid_of h1; replace R0 := hid_of (R0.out.at h2); replace R1 := hid_of (R1.out.at h2); replace R2 := hid_of (R2.out.at h2); replace M := hid_of (M.out.at h2); replace W := hid_of (W.out.at h2); replace X4 := hid_of (X4.out.at h2); replace HB := hid_of (bel_step HB.out h2 (Nat.le_refl _)); clear h2; clear h1))
      | ((with_reducible refine (mrg_c R0.out W.out VA0.out VW.out).mono ?_); (rintro e w2 ⟨xX6, kX6, cX6, rfl, h1, h2⟩; have X6 := hid_of h1; replace R0 := hid_of (R0.out.at h2); replace R1 := hid_of (R1.out.at h2); replace R2 := hid_of (R2.out.at h2); replace M := hid_of (M.out.at h2); replace HB := hid_of (bel_step HB.out h2 (Nat.le_refl _)); clear h2; clear h1))
      | ((with_reducible refine (mrg_c Y8.out T8.out VW02.out VW12.out).mono ?_); (rintro e w2 ⟨xZ8, kZ8, cZ8, rfl, h1, h2⟩; have Z8 := hid_of h1; replace X8 := hid_of (X8.out.at h2); replace HB := hid_of (bel_step HB.out h2 (Nat.le_refl _)); clear h2; clear h1))))
    | (go_at_call 24; (first
      | ((with_reducible refine (cmn_c R0.out R1.out VA0.out VA1.out).mono ?_); (rintro e w2 ⟨xW, kW, cW, rfl, h1, h2⟩; have W := hid_of h1; replace R0 := hid_of (R0.out.at h2); replace R1 := hid_of (R1.out.at h2); replace R2 := hid_of (R2.out.at h2); replace M := hid_of (M.out.at h2); replace HB := hid_of (bel_step HB.out h2 (Nat.le_refl _)); clear h2; clear h1))
      | ((with_reducible refine (cmn_c R1.out R0.out VA1.out VA0.out).mono ?_); (rintro e w2 ⟨xX1, kX1, cX1, rfl, h1, h2⟩; have X1 := hid_of h1; replace R0 := hid_of (R0.out.at h2); replace R1 := hid_of (R1.out.at h2); replace R2 := hid_of (R2.out.at h2); replace M := hid_of (M.out.at h2); replace W := hid_of (W.out.at h2); replace HB := hid_of (bel_step HB.out h2 (Nat.le_refl _)); clear h2; clear h1))
      | ((with_reducible refine (cmn_c R0.out R0.out VA0.out VA0.out).mono ?_); (rintro e w2 ⟨xX3, kX3, cX3, rfl, h1, h2⟩; have X3 := hid_of h1; replace R0 := hid_of (R0.out.at h2); replace R1 := hid_of (R1.out.at h2); replace R2 := hid_of (R2.out.at h2); replace M := hid_of (M.out.at h2); replace W := hid_of (W.out.at h2); replace HB := hid_of (bel_step HB.out h2 (Nat.le_refl _)); clear h2; clear h1))
      | ((with_reducible refine (cmn_c W.out R2.out VW.out VA2.out).mono ?_); (rintro e w2 ⟨xX5, kX5, cX5, rfl, h1, h2⟩; have X5 := hid_of h1; replace R0 := hid_of (R0.out.at h2); replace R1 := hid_of (R1.out.at h2); replace R2 := hid_of (R2.out.at h2); replace M := hid_of (M.out.at h2); replace W := hid_of (W.out.at h2); replace HB := hid_of (bel_step HB.out h2 (Nat.le_refl _)); clear h2; clear h1))
      | ((with_reducible refine (cmn_c R1.out R2.out VA1.out VA2.out).mono ?_); (rintro e w2 ⟨xY5, kY5, cY5, rfl, h1, h2⟩; have Y5 := hid_of h1; replace R0 := hid_of (R0.out.at h2); replace R1 := hid_of (R1.out.at h2); replace R2 := hid_of (R2.out.at h2); replace M := hid_of (M.out.at h2); replace W := hid_of (W.out.at h2); replace X5 := hid_of (X5.out.at h2); replace HB := hid_of (bel_step HB.out h2 (Nat.le_refl _)); clear h2; clear h1))
      | ((with_reducible refine (cmn_c R0.out Y5.out VA0.out VW12.out).mono ?_); (rintro e w2 ⟨xZ5, kZ5, cZ5, rfl, h1, h2⟩; have Z5 := hid_of h1; replace R0 := hid_of (R0.out.at h2); replace R1 := hid_of (R1.out.at h2); replace R2 := hid_of (R2.out.at h2); replace M := hid_of (M.out.at h2); replace W := hid_of (W.out.at h2); replace X5 := hid_of (X5.out.at h2); replace HB := hid_of (bel_step HB.out h2 (Nat.le_refl _)); clear h2; clear h1))
      | ((with_reducible refine (cmn_c R0.out M.out VA0.out VM.out).mono ?_); (rintro e w2 ⟨xX7, kX7, cX7, rfl, h1, h2⟩; have X7 := hid_of h1; replace R0 := hid_of (R0.out.at h2); replace R1 := hid_of (R1.out.at h2); replace R2 := hid_of (R2.out.at h2); replace M := hid_of (M.out.at h2); replace HB := hid_of (bel_step HB.out h2 (Nat.le_refl _)); clear h2; clear h1))
      | ((with_reducible refine (cmn_c M.out R2.out VM.out VA2.out).mono ?_); (rintro e w2 ⟨xX8, kX8, cX8, rfl, h1, h2⟩; have X8 := hid_of h1; replace R0 := hid_of (R0.out.at h2); replace R1 := hid_of (R1.out.at h2); replace R2 := hid_of (R2.out.at h2); replace HB := hid_of (bel_step HB.out h2 (Nat.le_refl _)); clear h2; clear h1))
      | ((with_reducible refine (cmn_c R0.out R2.out VA0.out VA2.out).mono ?_); (rintro e w2 ⟨xY8, kY8, cY8, rfl, h1, h2⟩; have Y8 := hid_of h1; replace R0 := hid_of (R0.out.at h2); replace R1 := hid_of (R1.out.at h2); replace R2 := hid_of (R2.out.at h2); replace X8 := hid_of (X8.out.at h2); replace HB := hid_of (bel_step HB.out h2 (Nat.le_refl _)); clear h2; clear h1))
      | ((with_reducible refine (cmn_c R1.out R2.out VA1.out VA2.out).mono ?_); (rintro e w2 ⟨xT8, kT8, cT8, rfl, h1, h2⟩; have T8 := hid_of h1; replace X8 := hid_of (X8.out.at h2); replace Y8 := hid_of (Y8.out.at h2); replace HB := hid_of (bel_step HB.out h2 (Nat.le_refl _)); clear h2; clear h1))))
    | (go_at_call 20; (first
      | ((with_reducible refine (same_c M.out X0.out E0.out).mono ?_); (rintro e w2 ⟨rfl, h2⟩; replace R0 := hid_of (R0.out.at h2); replace R1 := hid_of (R1.out.at h2); replace R2 := hid_of (R2.out.at h2); replace M := hid_of (M.out.at h2); replace W := hid_of (W.out.at h2); replace HB := hid_of (bel_step HB.out h2 (Nat.le_refl _)); clear h2))
      | ((with_reducible refine (same_c W.out X1.out E1.out).mono ?_); (rintro e w2 ⟨rfl, h2⟩; replace R0 := hid_of (R0.out.at h2); replace R1 := hid_of (R1.out.at h2); replace R2 := hid_of (R2.out.at h2); replace M := hid_of (M.out.at h2); replace W := hid_of (W.out.at h2); replace HB := hid_of (bel_step HB.out h2 (Nat.le_refl _)); clear h2))
      | ((with_reducible refine (same_c X2.out R0.out E2.out).mono ?_); (rintro e w2 ⟨rfl, h2⟩; replace R0 := hid_of (R0.out.at h2); replace R1 := hid_of (R1.out.at h2); replace R2 := hid_of (R2.out.at h2); replace M := hid_of (M.out.at h2); replace W := hid_of (W.out.at h2); replace HB := hid_of (bel_step HB.out h2 (Nat.le_refl _)); clear h2))
      | ((with_reducible refine (same_c X3.out R0.out E3.out).mono ?_); (rintro e w2 ⟨rfl, h2⟩; replace R0 := hid_of (R0.out.at h2); replace R1 := hid_of (R1.out.at h2); replace R2 := hid_of (R2.out.at h2); replace M := hid_of (M.out.at h2); replace W := hid_of (W.out.at h2); replace HB := hid_of (bel_step HB.out h2 (Nat.le_refl _)); clear h2))
      | ((with_reducible refine (same_c X4.out Z4.out E4.out).mono ?_); (rintro e w2 ⟨rfl, h2⟩; replace R0 := hid_of (R0.out.at h2); replace R1 := hid_of (R1.out.at h2); replace R2 := hid_of (R2.out.at h2); replace M := hid_of (M.out.at h2); replace W := hid_of (W.out.at h2); replace HB := hid_of (bel_step HB.out h2 (Nat.le_refl _)); clear h2))
      | ((with_reducible refine (same_c X5.out Z5.out E5.out).mono ?_); (rintro e w2 ⟨rfl, h2⟩; replace R0 := hid_of (R0.out.at h2); replace R1 := hid_of (R1.out.at h2); replace R2 := hid_of (R2.out.at h2); replace M := hid_of (M.out.at h2); replace W := hid_of (W.out.at h2); replace HB := hid_of (bel_step HB.out h2 (Nat.le_refl _)); clear h2))
      | ((with_reducible refine (same_c X6.out R0.out E6.out).mono ?_); (rintro e w2 ⟨rfl, h2⟩; replace R0 := hid_of (R0.out.at h2); replace R1 := hid_of (R1.out.at h2); replace R2 := hid_of (R2.out.at h2); replace M := hid_of (M.out.at h2); replace HB := hid_of (bel_step HB.out h2 (Nat.le_refl _)); clear h2))
      | ((with_reducible refine (same_c X7.out R0.out E7.out).mono ?_); (rintro e w2 ⟨rfl, h2⟩; replace R0 := hid_of (R0.out.at h2); replace R1 := hid_of (R1.out.at h2); replace R2 := hid_of (R2.out.at h2); replace M := hid_of (M.out.at h2); replace HB := hid_of (bel_step HB.out h2 (Nat.le_refl _)); clear h2))
      | ((with_reducible refine (same_c X8.out Z8.out E8.out).mono ?_); (rintro e w2 ⟨rfl, h2⟩; replace HB := hid_of (bel_step HB.out h2 (Nat.le_refl _)); clear h2)))))
  go_ret
  exact ⟨rfl, HB.out⟩
end Go.Proofs.Ytofgmimdmgaljaa
