/- Flip, Both, turn and the signs that hang on numbers alone. No condition. -/
import Derived.Test.YtdacalplnggnoaaDoorVarRow
import Derived.Test.YtdacalplnggnoaaDoorProg
namespace Go.Proofs.YtdacalplnggnoaaDoor
open Go.RowKit

theorem cs_flip (v : Int) : v = 0 ∨ v = 1 ∨ v = 2 ∨ (v ≠ 0 ∧ v ≠ 1 ∧ v ≠ 2) := by omega
theorem flip_else {v : Int} (h0 : v ≠ 0) (h1 : v ≠ 1) (h2 : v ≠ 2) : flip v = 3 := by unfold flip; rw [if_neg h0, if_neg h1, if_neg h2]
set_option maxRecDepth 100000 in
theorem flip_any (v : Int) (w : World) : Calls Tryd.prog 8 #[.int .i64 v] w fun e w' => e = .returned (.int .i64 (flip v)) ∧ w = w' := by
  obtain ⟨r, hr⟩ : ∃ r, r = flip v := ⟨_, rfl⟩
  rw [← hr]
  have HR := hid_of hr
  clear hr
  rcases cs_flip v with rfl | rfl | rfl | ⟨h0, h1, h2⟩
  · go_enter Tryd.func8, Tryd.ntmps8
    go_wp2
    go_ret
    exact ⟨by rw [HR.out] <;> rfl, rfl⟩
  · go_enter Tryd.func8, Tryd.ntmps8
    go_wp2
    go_ret
    exact ⟨by rw [HR.out] <;> rfl, rfl⟩
  · go_enter Tryd.func8, Tryd.ntmps8
    go_wp2
    go_ret
    exact ⟨by rw [HR.out] <;> rfl, rfl⟩
  · have HX : Hid (flip v = 3) := hid_of (flip_else h0 h1 h2)
    go_enter Tryd.func8, Tryd.ntmps8
    go_wp2
    go_ret
    exact ⟨by rw [HR.out, HX.out] <;> rfl, rfl⟩
set_option maxRecDepth 100000 in
theorem rflip_any (v : Int) (w : World) : Calls Tryd.prog 9 #[.int .i64 v] w fun e w' => e = .returned (.int .i64 (flip v)) ∧ w = w' := by
  obtain ⟨r, hr⟩ : ∃ r, r = flip v := ⟨_, rfl⟩
  rw [← hr]
  have HR := hid_of hr
  clear hr
  rcases cs_flip v with rfl | rfl | rfl | ⟨h0, h1, h2⟩
  · go_enter Tryd.func9, Tryd.ntmps9
    go_wp2
    go_ret
    exact ⟨by rw [HR.out] <;> rfl, rfl⟩
  · go_enter Tryd.func9, Tryd.ntmps9
    go_wp2
    go_ret
    exact ⟨by rw [HR.out] <;> rfl, rfl⟩
  · go_enter Tryd.func9, Tryd.ntmps9
    go_wp2
    go_ret
    exact ⟨by rw [HR.out] <;> rfl, rfl⟩
  · have HX : Hid (flip v = 3) := hid_of (flip_else h0 h1 h2)
    go_enter Tryd.func9, Tryd.ntmps9
    go_wp2
    go_ret
    exact ⟨by rw [HR.out, HX.out] <;> rfl, rfl⟩

set_option maxRecDepth 100000 in
theorem both_any (a b : Int) (w : World) : Calls Tryd.prog 10 #[.int .i64 a, .int .i64 b] w fun e w' => e = .returned (.int .i64 (both a b)) ∧ w = w' := by
  obtain ⟨r, hr⟩ : ∃ r, r = both a b := ⟨_, rfl⟩
  rw [← hr]
  have HR := hid_of hr
  have F1 := hid_of (flip_any a w)
  have F2 := hid_of (flip_any (flip a) w)
  have F3 := hid_of (flip_any b w)
  have F4 := hid_of (flip_any (flip b) w)
  unfold both at hr
  obtain ⟨a1, ha1⟩ : ∃ a1, a1 = flip a := ⟨_, rfl⟩
  obtain ⟨b1, hb1⟩ : ∃ b1, b1 = flip b := ⟨_, rfl⟩
  rw [← ha1] at F1 F2 hr
  rw [← hb1] at F3 F4 hr
  obtain ⟨a2, ha2⟩ : ∃ a2, a2 = flip a1 := ⟨_, rfl⟩
  obtain ⟨b2, hb2⟩ : ∃ b2, b2 = flip b1 := ⟨_, rfl⟩
  rw [← ha2] at F2 hr
  rw [← hb2] at F4 hr
  clear ha1 hb1 ha2 hb2
  by_cases h0 : a2 = 0
  · rw [if_pos h0] at hr
    subst h0
    have HE := hid_of hr
    clear hr
    go_enter Tryd.func10, Tryd.ntmps10
    go_wp2_with (first
      | (go_at_call 8; ((with_reducible refine (F1.out).mono ?_); (rintro e w2 ⟨rfl, rfl⟩)))
      | (go_at_call 8; ((with_reducible refine (F2.out).mono ?_); (rintro e w2 ⟨rfl, rfl⟩)))
      | (go_at_call 8; ((with_reducible refine (F3.out).mono ?_); (rintro e w2 ⟨rfl, rfl⟩)))
      | (go_at_call 8; ((with_reducible refine (F4.out).mono ?_); (rintro e w2 ⟨rfl, rfl⟩))))
    go_ret
    exact ⟨by rw [HE.out] <;> rfl, rfl⟩
  rw [if_neg h0] at hr
  have e0 : (a2 == 0) = false := beq_eq_false_iff_ne.2 h0
  clear h0
  by_cases h1 : a2 = b2
  · rw [if_pos h1] at hr
    subst h1
    have HE := hid_of hr
    clear hr
    go_enter Tryd.func10, Tryd.ntmps10
    go_wp2_with (first
      | (go_at_call 8; ((with_reducible refine (F1.out).mono ?_); (rintro e w2 ⟨rfl, rfl⟩)))
      | (go_at_call 8; ((with_reducible refine (F2.out).mono ?_); (rintro e w2 ⟨rfl, rfl⟩)))
      | (go_at_call 8; ((with_reducible refine (F3.out).mono ?_); (rintro e w2 ⟨rfl, rfl⟩)))
      | (go_at_call 8; ((with_reducible refine (F4.out).mono ?_); (rintro e w2 ⟨rfl, rfl⟩))))
    go_ret
    exact ⟨by rw [HE.out] <;> rfl, rfl⟩
  rw [if_neg h1] at hr
  have e1 : (a2 == b2) = false := beq_eq_false_iff_ne.2 h1
  clear h1
  by_cases h2 : b2 = 0
  · rw [if_pos h2] at hr
    subst h2
    have HE := hid_of hr
    clear hr
    go_enter Tryd.func10, Tryd.ntmps10
    go_wp2_with (first
      | (go_at_call 8; ((with_reducible refine (F1.out).mono ?_); (rintro e w2 ⟨rfl, rfl⟩)))
      | (go_at_call 8; ((with_reducible refine (F2.out).mono ?_); (rintro e w2 ⟨rfl, rfl⟩)))
      | (go_at_call 8; ((with_reducible refine (F3.out).mono ?_); (rintro e w2 ⟨rfl, rfl⟩)))
      | (go_at_call 8; ((with_reducible refine (F4.out).mono ?_); (rintro e w2 ⟨rfl, rfl⟩))))
    go_ret
    exact ⟨by rw [HE.out] <;> rfl, rfl⟩
  rw [if_neg h2] at hr
  have e2 : (b2 == 0) = false := beq_eq_false_iff_ne.2 h2
  clear h2
  have HE := hid_of hr
  clear hr
  go_enter Tryd.func10, Tryd.ntmps10
  go_wp2_with (first
    | (go_at_call 8; ((with_reducible refine (F1.out).mono ?_); (rintro e w2 ⟨rfl, rfl⟩)))
    | (go_at_call 8; ((with_reducible refine (F2.out).mono ?_); (rintro e w2 ⟨rfl, rfl⟩)))
    | (go_at_call 8; ((with_reducible refine (F3.out).mono ?_); (rintro e w2 ⟨rfl, rfl⟩)))
    | (go_at_call 8; ((with_reducible refine (F4.out).mono ?_); (rintro e w2 ⟨rfl, rfl⟩))))
  go_ret
  exact ⟨by rw [HE.out] <;> rfl, rfl⟩
end Go.Proofs.YtdacalplnggnoaaDoor
