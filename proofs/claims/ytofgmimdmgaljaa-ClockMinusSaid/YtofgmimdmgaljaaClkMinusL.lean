/- ClockMinus. -/
import Derived.Test.YtofgmimdmgaljaaClkLawM
namespace Go.Proofs.Ytofgmimdmgaljaa
open Go.RowKit

set_option maxRecDepth 100000 in
set_option maxHeartbeats 6400000 in
theorem clockMinus_law (a0 : Option Addr) (n0 c0 : Nat) (l0 : List Tk) (a1 : Option Addr) (n1 c1 : Nat) (l1 : List Tk) (a2 : Option Addr) (n2 c2 : Nat) (l2 : List Tk)  (w : World) (w0 : TIn w a0 n0 c0 l0) (w1 : TIn w a1 n1 c1 l1) (w2 : TIn w a2 n2 c2 l2) :
    Calls Try.prog 9 #[.slice a0 n0 c0, .slice a1 n1 c1, .slice a2 n2 c2] w fun e w' => e = .returned (.bool true) ∧ Below w.heap.size w w' := by
  have R0 := hid_of w0.1
  have R1 := hid_of w1.1
  have R2 := hid_of w2.1
  have HB := hid_of (Below.refl w.heap.size w)
  obtain ⟨b0, hb0⟩ : ∃ r, r = decide (200 < n0) := ⟨_, rfl⟩
  have L0 := hid_of hb0
  obtain ⟨b1, hb1⟩ : ∃ r, r = decide (200 < n1) := ⟨_, rfl⟩
  have L1 := hid_of hb1
  obtain ⟨b2, hb2⟩ : ∃ r, r = decide (200 < n2) := ⟨_, rfl⟩
  have L2 := hid_of hb2
  clear w0 hb0 w1 hb1 w2 hb2
  obtain ⟨v0, hv0⟩ : ∃ r, r = okV l0 := ⟨_, rfl⟩
  have V0 := hid_of hv0
  clear hv0
  obtain ⟨v1, hv1⟩ : ∃ r, r = okV l1 := ⟨_, rfl⟩
  have V1 := hid_of hv1
  clear hv1
  obtain ⟨v2, hv2⟩ : ∃ r, r = okV l2 := ⟨_, rfl⟩
  have V2 := hid_of hv2
  clear hv2
  cases b0
  case true =>
    go_enter Try.func9, Try.ntmps9
    go_wp2_with (first
    | (go_at_call 12; ((with_reducible refine (awake_any w).mono ?_); (rintro e w2 ⟨rfl, h2⟩; replace R0 := hid_of (R0.out.at h2); replace R1 := hid_of (R1.out.at h2); replace R2 := hid_of (R2.out.at h2); replace HB := hid_of (bel_step HB.out h2 (Nat.le_refl _)); clear h2)))
    | (go_at_call 13; (first
      | ((with_reducible refine (long_c L0.out).mono ?_); (rintro e w2 ⟨rfl, rfl⟩))
      | ((with_reducible refine (long_c L1.out).mono ?_); (rintro e w2 ⟨rfl, rfl⟩))
      | ((with_reducible refine (long_c L2.out).mono ?_); (rintro e w2 ⟨rfl, rfl⟩))))
    | (go_at_call 16; (first
      | ((with_reducible refine (valid_c R0.out V0.out).mono ?_); (rintro e w2 ⟨rfl, h2⟩; replace R0 := hid_of (R0.out.at h2); replace R1 := hid_of (R1.out.at h2); replace R2 := hid_of (R2.out.at h2); replace HB := hid_of (bel_step HB.out h2 (Nat.le_refl _)); clear h2))
      | ((with_reducible refine (valid_c R1.out V1.out).mono ?_); (rintro e w2 ⟨rfl, h2⟩; replace R0 := hid_of (R0.out.at h2); replace R1 := hid_of (R1.out.at h2); replace R2 := hid_of (R2.out.at h2); replace HB := hid_of (bel_step HB.out h2 (Nat.le_refl _)); clear h2))
      | ((with_reducible refine (valid_c R2.out V2.out).mono ?_); (rintro e w2 ⟨rfl, h2⟩; replace R0 := hid_of (R0.out.at h2); replace R1 := hid_of (R1.out.at h2); replace R2 := hid_of (R2.out.at h2); replace HB := hid_of (bel_step HB.out h2 (Nat.le_refl _)); clear h2)))))
    go_ret
    exact ⟨rfl, HB.out⟩
  cases b1
  case true =>
    go_enter Try.func9, Try.ntmps9
    go_wp2_with (first
    | (go_at_call 12; ((with_reducible refine (awake_any w).mono ?_); (rintro e w2 ⟨rfl, h2⟩; replace R0 := hid_of (R0.out.at h2); replace R1 := hid_of (R1.out.at h2); replace R2 := hid_of (R2.out.at h2); replace HB := hid_of (bel_step HB.out h2 (Nat.le_refl _)); clear h2)))
    | (go_at_call 13; (first
      | ((with_reducible refine (long_c L0.out).mono ?_); (rintro e w2 ⟨rfl, rfl⟩))
      | ((with_reducible refine (long_c L1.out).mono ?_); (rintro e w2 ⟨rfl, rfl⟩))
      | ((with_reducible refine (long_c L2.out).mono ?_); (rintro e w2 ⟨rfl, rfl⟩))))
    | (go_at_call 16; (first
      | ((with_reducible refine (valid_c R0.out V0.out).mono ?_); (rintro e w2 ⟨rfl, h2⟩; replace R0 := hid_of (R0.out.at h2); replace R1 := hid_of (R1.out.at h2); replace R2 := hid_of (R2.out.at h2); replace HB := hid_of (bel_step HB.out h2 (Nat.le_refl _)); clear h2))
      | ((with_reducible refine (valid_c R1.out V1.out).mono ?_); (rintro e w2 ⟨rfl, h2⟩; replace R0 := hid_of (R0.out.at h2); replace R1 := hid_of (R1.out.at h2); replace R2 := hid_of (R2.out.at h2); replace HB := hid_of (bel_step HB.out h2 (Nat.le_refl _)); clear h2))
      | ((with_reducible refine (valid_c R2.out V2.out).mono ?_); (rintro e w2 ⟨rfl, h2⟩; replace R0 := hid_of (R0.out.at h2); replace R1 := hid_of (R1.out.at h2); replace R2 := hid_of (R2.out.at h2); replace HB := hid_of (bel_step HB.out h2 (Nat.le_refl _)); clear h2)))))
    go_ret
    exact ⟨rfl, HB.out⟩
  cases b2
  case true =>
    go_enter Try.func9, Try.ntmps9
    go_wp2_with (first
    | (go_at_call 12; ((with_reducible refine (awake_any w).mono ?_); (rintro e w2 ⟨rfl, h2⟩; replace R0 := hid_of (R0.out.at h2); replace R1 := hid_of (R1.out.at h2); replace R2 := hid_of (R2.out.at h2); replace HB := hid_of (bel_step HB.out h2 (Nat.le_refl _)); clear h2)))
    | (go_at_call 13; (first
      | ((with_reducible refine (long_c L0.out).mono ?_); (rintro e w2 ⟨rfl, rfl⟩))
      | ((with_reducible refine (long_c L1.out).mono ?_); (rintro e w2 ⟨rfl, rfl⟩))
      | ((with_reducible refine (long_c L2.out).mono ?_); (rintro e w2 ⟨rfl, rfl⟩))))
    | (go_at_call 16; (first
      | ((with_reducible refine (valid_c R0.out V0.out).mono ?_); (rintro e w2 ⟨rfl, h2⟩; replace R0 := hid_of (R0.out.at h2); replace R1 := hid_of (R1.out.at h2); replace R2 := hid_of (R2.out.at h2); replace HB := hid_of (bel_step HB.out h2 (Nat.le_refl _)); clear h2))
      | ((with_reducible refine (valid_c R1.out V1.out).mono ?_); (rintro e w2 ⟨rfl, h2⟩; replace R0 := hid_of (R0.out.at h2); replace R1 := hid_of (R1.out.at h2); replace R2 := hid_of (R2.out.at h2); replace HB := hid_of (bel_step HB.out h2 (Nat.le_refl _)); clear h2))
      | ((with_reducible refine (valid_c R2.out V2.out).mono ?_); (rintro e w2 ⟨rfl, h2⟩; replace R0 := hid_of (R0.out.at h2); replace R1 := hid_of (R1.out.at h2); replace R2 := hid_of (R2.out.at h2); replace HB := hid_of (bel_step HB.out h2 (Nat.le_refl _)); clear h2)))))
    go_ret
    exact ⟨rfl, HB.out⟩
  cases v0
  case false =>
    go_enter Try.func9, Try.ntmps9
    go_wp2_with (first
    | (go_at_call 12; ((with_reducible refine (awake_any w).mono ?_); (rintro e w2 ⟨rfl, h2⟩; replace R0 := hid_of (R0.out.at h2); replace R1 := hid_of (R1.out.at h2); replace R2 := hid_of (R2.out.at h2); replace HB := hid_of (bel_step HB.out h2 (Nat.le_refl _)); clear h2)))
    | (go_at_call 13; (first
      | ((with_reducible refine (long_c L0.out).mono ?_); (rintro e w2 ⟨rfl, rfl⟩))
      | ((with_reducible refine (long_c L1.out).mono ?_); (rintro e w2 ⟨rfl, rfl⟩))
      | ((with_reducible refine (long_c L2.out).mono ?_); (rintro e w2 ⟨rfl, rfl⟩))))
    | (go_at_call 16; (first
      | ((with_reducible refine (valid_c R0.out V0.out).mono ?_); (rintro e w2 ⟨rfl, h2⟩; replace R0 := hid_of (R0.out.at h2); replace R1 := hid_of (R1.out.at h2); replace R2 := hid_of (R2.out.at h2); replace HB := hid_of (bel_step HB.out h2 (Nat.le_refl _)); clear h2))
      | ((with_reducible refine (valid_c R1.out V1.out).mono ?_); (rintro e w2 ⟨rfl, h2⟩; replace R0 := hid_of (R0.out.at h2); replace R1 := hid_of (R1.out.at h2); replace R2 := hid_of (R2.out.at h2); replace HB := hid_of (bel_step HB.out h2 (Nat.le_refl _)); clear h2))
      | ((with_reducible refine (valid_c R2.out V2.out).mono ?_); (rintro e w2 ⟨rfl, h2⟩; replace R0 := hid_of (R0.out.at h2); replace R1 := hid_of (R1.out.at h2); replace R2 := hid_of (R2.out.at h2); replace HB := hid_of (bel_step HB.out h2 (Nat.le_refl _)); clear h2)))))
    go_ret
    exact ⟨rfl, HB.out⟩
  cases v1
  case false =>
    go_enter Try.func9, Try.ntmps9
    go_wp2_with (first
    | (go_at_call 12; ((with_reducible refine (awake_any w).mono ?_); (rintro e w2 ⟨rfl, h2⟩; replace R0 := hid_of (R0.out.at h2); replace R1 := hid_of (R1.out.at h2); replace R2 := hid_of (R2.out.at h2); replace HB := hid_of (bel_step HB.out h2 (Nat.le_refl _)); clear h2)))
    | (go_at_call 13; (first
      | ((with_reducible refine (long_c L0.out).mono ?_); (rintro e w2 ⟨rfl, rfl⟩))
      | ((with_reducible refine (long_c L1.out).mono ?_); (rintro e w2 ⟨rfl, rfl⟩))
      | ((with_reducible refine (long_c L2.out).mono ?_); (rintro e w2 ⟨rfl, rfl⟩))))
    | (go_at_call 16; (first
      | ((with_reducible refine (valid_c R0.out V0.out).mono ?_); (rintro e w2 ⟨rfl, h2⟩; replace R0 := hid_of (R0.out.at h2); replace R1 := hid_of (R1.out.at h2); replace R2 := hid_of (R2.out.at h2); replace HB := hid_of (bel_step HB.out h2 (Nat.le_refl _)); clear h2))
      | ((with_reducible refine (valid_c R1.out V1.out).mono ?_); (rintro e w2 ⟨rfl, h2⟩; replace R0 := hid_of (R0.out.at h2); replace R1 := hid_of (R1.out.at h2); replace R2 := hid_of (R2.out.at h2); replace HB := hid_of (bel_step HB.out h2 (Nat.le_refl _)); clear h2))
      | ((with_reducible refine (valid_c R2.out V2.out).mono ?_); (rintro e w2 ⟨rfl, h2⟩; replace R0 := hid_of (R0.out.at h2); replace R1 := hid_of (R1.out.at h2); replace R2 := hid_of (R2.out.at h2); replace HB := hid_of (bel_step HB.out h2 (Nat.le_refl _)); clear h2)))))
    go_ret
    exact ⟨rfl, HB.out⟩
  cases v2
  case false =>
    go_enter Try.func9, Try.ntmps9
    go_wp2_with (first
    | (go_at_call 12; ((with_reducible refine (awake_any w).mono ?_); (rintro e w2 ⟨rfl, h2⟩; replace R0 := hid_of (R0.out.at h2); replace R1 := hid_of (R1.out.at h2); replace R2 := hid_of (R2.out.at h2); replace HB := hid_of (bel_step HB.out h2 (Nat.le_refl _)); clear h2)))
    | (go_at_call 13; (first
      | ((with_reducible refine (long_c L0.out).mono ?_); (rintro e w2 ⟨rfl, rfl⟩))
      | ((with_reducible refine (long_c L1.out).mono ?_); (rintro e w2 ⟨rfl, rfl⟩))
      | ((with_reducible refine (long_c L2.out).mono ?_); (rintro e w2 ⟨rfl, rfl⟩))))
    | (go_at_call 16; (first
      | ((with_reducible refine (valid_c R0.out V0.out).mono ?_); (rintro e w2 ⟨rfl, h2⟩; replace R0 := hid_of (R0.out.at h2); replace R1 := hid_of (R1.out.at h2); replace R2 := hid_of (R2.out.at h2); replace HB := hid_of (bel_step HB.out h2 (Nat.le_refl _)); clear h2))
      | ((with_reducible refine (valid_c R1.out V1.out).mono ?_); (rintro e w2 ⟨rfl, h2⟩; replace R0 := hid_of (R0.out.at h2); replace R1 := hid_of (R1.out.at h2); replace R2 := hid_of (R2.out.at h2); replace HB := hid_of (bel_step HB.out h2 (Nat.le_refl _)); clear h2))
      | ((with_reducible refine (valid_c R2.out V2.out).mono ?_); (rintro e w2 ⟨rfl, h2⟩; replace R0 := hid_of (R0.out.at h2); replace R1 := hid_of (R1.out.at h2); replace R2 := hid_of (R2.out.at h2); replace HB := hid_of (bel_step HB.out h2 (Nat.le_refl _)); clear h2)))))
    go_ret
    exact ⟨rfl, HB.out⟩
  have va0 := (okV_iff l0).1 V0.out.symm
  have VA0 := hid_of va0
  have va1 := (okV_iff l1).1 V1.out.symm
  have VA1 := hid_of va1
  have va2 := (okV_iff l2).1 V2.out.symm
  have VA2 := hid_of va2
  have VD := hid_of (sub_vv va0 va1)
  have VM := hid_of (mrg_vv va0 va1)
  have E1 : Hid (true = decide (mrg l1 (sub l0 l1) = mrg l0 l1)) := hid_of (decide_eq_true (sub_back va0 va1)).symm
  obtain ⟨s, hs⟩ : ∃ s, s = decide (mrg l1 l2 = mrg l0 l1) := ⟨_, rfl⟩
  have S := hid_of hs
  have E2 : s = true → Hid (true = decide (mrg (sub l0 l1) l2 = l2)) := fun e => hid_of (decide_eq_true (sub_least va0 va1 va2 (by rw [hs] at e; exact of_decide_eq_true e))).symm
  clear va0 va1 va2 hs
  cases s
  case false =>
    clear E2
    go_enter Try.func9, Try.ntmps9
    go_wp2_with (first
    | (go_at_call 12; ((with_reducible refine (awake_any w).mono ?_); (rintro e w2 ⟨rfl, h2⟩; replace R0 := hid_of (R0.out.at h2); replace R1 := hid_of (R1.out.at h2); replace R2 := hid_of (R2.out.at h2); replace HB := hid_of (bel_step HB.out h2 (Nat.le_refl _)); clear h2)))
    | (go_at_call 13; (first
      | ((with_reducible refine (long_c L0.out).mono ?_); (rintro e w2 ⟨rfl, rfl⟩))
      | ((with_reducible refine (long_c L1.out).mono ?_); (rintro e w2 ⟨rfl, rfl⟩))
      | ((with_reducible refine (long_c L2.out).mono ?_); (rintro e w2 ⟨rfl, rfl⟩))))
    | (go_at_call 16; (first
      | ((with_reducible refine (valid_c R0.out V0.out).mono ?_); (rintro e w2 ⟨rfl, h2⟩; replace R0 := hid_of (R0.out.at h2); replace R1 := hid_of (R1.out.at h2); replace R2 := hid_of (R2.out.at h2); replace HB := hid_of (bel_step HB.out h2 (Nat.le_refl _)); clear h2))
      | ((with_reducible refine (valid_c R1.out V1.out).mono ?_); (rintro e w2 ⟨rfl, h2⟩; replace R0 := hid_of (R0.out.at h2); replace R1 := hid_of (R1.out.at h2); replace R2 := hid_of (R2.out.at h2); replace HB := hid_of (bel_step HB.out h2 (Nat.le_refl _)); clear h2))
      | ((with_reducible refine (valid_c R2.out V2.out).mono ?_); (rintro e w2 ⟨rfl, h2⟩; replace R0 := hid_of (R0.out.at h2); replace R1 := hid_of (R1.out.at h2); replace R2 := hid_of (R2.out.at h2); replace HB := hid_of (bel_step HB.out h2 (Nat.le_refl _)); clear h2))))
    | (go_at_call 26; ((with_reducible refine (sub_c R0.out R1.out VA0.out VA1.out).mono ?_); (rintro e w2 ⟨xD, kD, cD, rfl, h1, h2⟩; have D := hid_of h1; replace R0 := hid_of (R0.out.at h2); replace R1 := hid_of (R1.out.at h2); replace R2 := hid_of (R2.out.at h2); replace HB := hid_of (bel_step HB.out h2 (Nat.le_refl _)); clear h2; clear h1)))
    | (go_at_call 22; (first
      | ((with_reducible refine (mrg_c R0.out R1.out VA0.out VA1.out).mono ?_); (rintro e w2 ⟨xM, kM, cM, rfl, h1, h2⟩; have M := hid_of h1; replace R0 := hid_of (R0.out.at h2); replace R1 := hid_of (R1.out.at h2); replace R2 := hid_of (R2.out.at h2); replace D := hid_of (D.out.at h2); replace HB := hid_of (bel_step HB.out h2 (Nat.le_refl _)); clear h2; clear h1))
      | ((with_reducible refine (mrg_c R1.out D.out VA1.out VD.out).mono ?_); (rintro e w2 ⟨xP, kP, cP, rfl, h1, h2⟩; have P := hid_of h1; replace R0 := hid_of (R0.out.at h2); replace R1 := hid_of (R1.out.at h2); replace R2 := hid_of (R2.out.at h2); replace D := hid_of (D.out.at h2); replace M := hid_of (M.out.at h2); replace HB := hid_of (bel_step HB.out h2 (Nat.le_refl _)); clear h2; clear h1))
      | ((with_reducible refine (mrg_c R1.out R2.out VA1.out VA2.out).mono ?_); (rintro e w2 ⟨xQ, kQ, cQ, rfl, h1, h2⟩; have Q := hid_of h1; replace R0 := hid_of (R0.out.at h2); replace R1 := hid_of (R1.out.at h2); replace R2 := hid_of (R2.out.at h2); replace D := hid_of (D.out.at h2); replace M := hid_of (M.out.at h2); replace HB := hid_of (bel_step HB.out h2 (Nat.le_refl _)); clear h2; clear h1))
      | ((with_reducible refine (mrg_c D.out R2.out VD.out VA2.out).mono ?_); (rintro e w2 ⟨xO, kO, cO, rfl, h1, h2⟩; have O := hid_of h1; replace R0 := hid_of (R0.out.at h2); replace R1 := hid_of (R1.out.at h2); replace R2 := hid_of (R2.out.at h2); replace HB := hid_of (bel_step HB.out h2 (Nat.le_refl _)); clear h2; clear h1))))
    | (go_at_call 20; (first
      | ((with_reducible refine (same_c P.out M.out E1.out).mono ?_); (rintro e w2 ⟨rfl, h2⟩; replace R0 := hid_of (R0.out.at h2); replace R1 := hid_of (R1.out.at h2); replace R2 := hid_of (R2.out.at h2); replace D := hid_of (D.out.at h2); replace M := hid_of (M.out.at h2); replace HB := hid_of (bel_step HB.out h2 (Nat.le_refl _)); clear h2))
      | ((with_reducible refine (same_c Q.out M.out S.out).mono ?_); (rintro e w2 ⟨rfl, h2⟩; replace R0 := hid_of (R0.out.at h2); replace R1 := hid_of (R1.out.at h2); replace R2 := hid_of (R2.out.at h2); replace D := hid_of (D.out.at h2); replace HB := hid_of (bel_step HB.out h2 (Nat.le_refl _)); clear h2)))))
    go_ret
    exact ⟨rfl, HB.out⟩
  case true =>
    have E3 := E2 rfl
    clear E2
    go_enter Try.func9, Try.ntmps9
    go_wp2_with (first
    | (go_at_call 12; ((with_reducible refine (awake_any w).mono ?_); (rintro e w2 ⟨rfl, h2⟩; replace R0 := hid_of (R0.out.at h2); replace R1 := hid_of (R1.out.at h2); replace R2 := hid_of (R2.out.at h2); replace HB := hid_of (bel_step HB.out h2 (Nat.le_refl _)); clear h2)))
    | (go_at_call 13; (first
      | ((with_reducible refine (long_c L0.out).mono ?_); (rintro e w2 ⟨rfl, rfl⟩))
      | ((with_reducible refine (long_c L1.out).mono ?_); (rintro e w2 ⟨rfl, rfl⟩))
      | ((with_reducible refine (long_c L2.out).mono ?_); (rintro e w2 ⟨rfl, rfl⟩))))
    | (go_at_call 16; (first
      | ((with_reducible refine (valid_c R0.out V0.out).mono ?_); (rintro e w2 ⟨rfl, h2⟩; replace R0 := hid_of (R0.out.at h2); replace R1 := hid_of (R1.out.at h2); replace R2 := hid_of (R2.out.at h2); replace HB := hid_of (bel_step HB.out h2 (Nat.le_refl _)); clear h2))
      | ((with_reducible refine (valid_c R1.out V1.out).mono ?_); (rintro e w2 ⟨rfl, h2⟩; replace R0 := hid_of (R0.out.at h2); replace R1 := hid_of (R1.out.at h2); replace R2 := hid_of (R2.out.at h2); replace HB := hid_of (bel_step HB.out h2 (Nat.le_refl _)); clear h2))
      | ((with_reducible refine (valid_c R2.out V2.out).mono ?_); (rintro e w2 ⟨rfl, h2⟩; replace R0 := hid_of (R0.out.at h2); replace R1 := hid_of (R1.out.at h2); replace R2 := hid_of (R2.out.at h2); replace HB := hid_of (bel_step HB.out h2 (Nat.le_refl _)); clear h2))))
    | (go_at_call 26; ((with_reducible refine (sub_c R0.out R1.out VA0.out VA1.out).mono ?_); (rintro e w2 ⟨xD, kD, cD, rfl, h1, h2⟩; have D := hid_of h1; replace R0 := hid_of (R0.out.at h2); replace R1 := hid_of (R1.out.at h2); replace R2 := hid_of (R2.out.at h2); replace HB := hid_of (bel_step HB.out h2 (Nat.le_refl _)); clear h2; clear h1)))
    | (go_at_call 22; (first
      | ((with_reducible refine (mrg_c R0.out R1.out VA0.out VA1.out).mono ?_); (rintro e w2 ⟨xM, kM, cM, rfl, h1, h2⟩; have M := hid_of h1; replace R0 := hid_of (R0.out.at h2); replace R1 := hid_of (R1.out.at h2); replace R2 := hid_of (R2.out.at h2); replace D := hid_of (D.out.at h2); replace HB := hid_of (bel_step HB.out h2 (Nat.le_refl _)); clear h2; clear h1))
      | ((with_reducible refine (mrg_c R1.out D.out VA1.out VD.out).mono ?_); (rintro e w2 ⟨xP, kP, cP, rfl, h1, h2⟩; have P := hid_of h1; replace R0 := hid_of (R0.out.at h2); replace R1 := hid_of (R1.out.at h2); replace R2 := hid_of (R2.out.at h2); replace D := hid_of (D.out.at h2); replace M := hid_of (M.out.at h2); replace HB := hid_of (bel_step HB.out h2 (Nat.le_refl _)); clear h2; clear h1))
      | ((with_reducible refine (mrg_c R1.out R2.out VA1.out VA2.out).mono ?_); (rintro e w2 ⟨xQ, kQ, cQ, rfl, h1, h2⟩; have Q := hid_of h1; replace R0 := hid_of (R0.out.at h2); replace R1 := hid_of (R1.out.at h2); replace R2 := hid_of (R2.out.at h2); replace D := hid_of (D.out.at h2); replace M := hid_of (M.out.at h2); replace HB := hid_of (bel_step HB.out h2 (Nat.le_refl _)); clear h2; clear h1))
      | ((with_reducible refine (mrg_c D.out R2.out VD.out VA2.out).mono ?_); (rintro e w2 ⟨xO, kO, cO, rfl, h1, h2⟩; have O := hid_of h1; replace R0 := hid_of (R0.out.at h2); replace R1 := hid_of (R1.out.at h2); replace R2 := hid_of (R2.out.at h2); replace HB := hid_of (bel_step HB.out h2 (Nat.le_refl _)); clear h2; clear h1))))
    | (go_at_call 20; (first
      | ((with_reducible refine (same_c P.out M.out E1.out).mono ?_); (rintro e w2 ⟨rfl, h2⟩; replace R0 := hid_of (R0.out.at h2); replace R1 := hid_of (R1.out.at h2); replace R2 := hid_of (R2.out.at h2); replace D := hid_of (D.out.at h2); replace M := hid_of (M.out.at h2); replace HB := hid_of (bel_step HB.out h2 (Nat.le_refl _)); clear h2))
      | ((with_reducible refine (same_c Q.out M.out S.out).mono ?_); (rintro e w2 ⟨rfl, h2⟩; replace R0 := hid_of (R0.out.at h2); replace R1 := hid_of (R1.out.at h2); replace R2 := hid_of (R2.out.at h2); replace D := hid_of (D.out.at h2); replace HB := hid_of (bel_step HB.out h2 (Nat.le_refl _)); clear h2))
      | ((with_reducible refine (same_c O.out R2.out E3.out).mono ?_); (rintro e w2 ⟨rfl, h2⟩; replace HB := hid_of (bel_step HB.out h2 (Nat.le_refl _)); clear h2)))))
    go_ret
    exact ⟨rfl, HB.out⟩
end Go.Proofs.Ytofgmimdmgaljaa
