/- The law of Valid. No condition. -/
import Derived.Test.YtkpblmmgaglhoaaNamOpn
namespace Go.Proofs.Ytkpblmmgaglhoaa
open Go.RowKit

set_option maxRecDepth 100000 in
theorem valid_law (s : ByteArray) (w : World) (hs : s.size ≤ maxLen) :
    Calls Try.prog 3 #[.string s] w fun e w' => e = .returned (.bool true) ∧ Below w.heap.size w w' := by
  have V1 : Hid (∀ w, Calls Try.prog 13 #[.string s] w fun e w' => e = .returned (.bool (isName (strBytes s))) ∧ w = w') := hid_of (fun w => (valid_any s w hs).mono fun _ _ h => ⟨h.1, h.2.symm⟩)
  have V2 : Hid (∀ w, Calls Try.prog 14 #[.string s] w fun e w' => e = .returned (.bool (isName (strBytes s))) ∧ w = w') := hid_of (fun w => (rvalid_any s w hs).mono fun _ _ h => ⟨h.1, h.2.symm⟩)
  obtain ⟨q, hq⟩ : ∃ q, q = isName (strBytes s) := ⟨_, rfl⟩
  rw [← hq] at V1 V2
  have AW := hid_of awake_any
  unfold maxLen at hs
  clear hq
  by_cases h : 100 < s.size
  · have d0 : decide ((100 : Int) < (s.size : Int)) = true := by simp; omega
    have d1 : decide (100 < s.size) = true := by simp; omega
    clear h
    go_enter Try.func3, Try.ntmps3
    go_wp2_with (go_at_call 12; ((with_reducible refine (AW.out w).mono ?_); (rintro ee w1 ⟨rfl, h1⟩; have B1 := hid_of h1; clear h1)))
    go_ret
    exact ⟨rfl, B1.out⟩
  · have d0 : decide ((100 : Int) < (s.size : Int)) = false := by simp; omega
    have d1 : decide (100 < s.size) = false := by simp; omega
    clear h
    cases q
    all_goals
      go_enter Try.func3, Try.ntmps3
      go_wp2_with (first
        | (go_at_call 12; ((with_reducible refine (AW.out w).mono ?_); (rintro ee w1 ⟨rfl, h1⟩; have B1 := hid_of h1; clear h1)))
        | (go_at_call 13; ((with_reducible refine (V1.out _).mono ?_); (rintro ee w' ⟨rfl, rfl⟩)))
        | (go_at_call 14; ((with_reducible refine (V2.out _).mono ?_); (rintro ee w' ⟨rfl, rfl⟩))))
      go_ret
      exact ⟨rfl, B1.out⟩
end Go.Proofs.Ytkpblmmgaglhoaa
