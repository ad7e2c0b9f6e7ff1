/- The laws on words and on places. Bounds on sizes alone. -/
import Derived.Test.YtdmjlmlmdllhgaaDoorLexEq
namespace Go.Proofs.YtdmjlmlmdllhgaaDoor
open Go.RowKit

set_option maxRecDepth 100000 in
set_option maxHeartbeats 3200000 in
theorem words_law (s : ByteArray) (w : World) (hG : Glob w) : Calls Tryd.prog 3 #[.string s] w fun e w' => e = .returned (.bool true) ∧ Below w.heap.size w w' := by
  have AW := hid_of (awake_any w hG)
  obtain ⟨q1, h1⟩ : ∃ q, q = kw s := ⟨_, rfl⟩
  obtain ⟨q2, h2⟩ : ∃ q, q = sgn s := ⟨_, rfl⟩
  have K1 : Hid (∀ w1, Below w.heap.size w w1 → Calls Tryd.prog 15 #[.string s] w1 fun e w2 => e = .returned (.bool q1) ∧ w1 = w2) := hid_of (fun w1 h => by rw [h1]; exact (keyword_any s w1 (hG.at h)).mono fun _ _ h => ⟨h.1, h.2.symm⟩)
  have S1 : Hid (∀ w1, Below w.heap.size w w1 → Calls Tryd.prog 17 #[.string s] w1 fun e w2 => e = .returned (.bool q2) ∧ w1 = w2) := hid_of (fun w1 h => by rw [h2]; exact (sign_any s w1 (hG.at h)).mono fun _ _ h => ⟨h.1, h.2.symm⟩)
  have K2 : Hid (∀ w1, Calls Tryd.prog 16 #[.string s] w1 (BlP q1 w1)) := hid_of (fun w1 => by rw [h1]; exact qkeyword_any s w1)
  have S2 : Hid (∀ w1, Calls Tryd.prog 18 #[.string s] w1 (BlP q2 w1)) := hid_of (fun w1 => by rw [h2]; exact qsign_any s w1)
  clear h1 h2 hG
  go_enter Tryd.func3, Tryd.ntmps3
  go_wp2_with (first
    | (go_at_call 14; ((with_reducible refine (AW.out).mono ?_); (rintro e w1 ⟨rfl, h1⟩; have B1 := hid_of h1; clear h1)))
    | (go_at_call 15; ((with_reducible refine (K1.out _ B1.out).mono ?_); (rintro e w' ⟨rfl, rfl⟩)))
    | (go_at_call 16; ((with_reducible refine (K2.out _).mono ?_); (rintro e w2 ⟨rfl, h1⟩; have B2 := hid_of (step_b B1.out h1); clear h1)))
    | (go_at_call 17; ((with_reducible refine (S1.out _ B2.out).mono ?_); (rintro e w' ⟨rfl, rfl⟩)))
    | (go_at_call 18; ((with_reducible refine (S2.out _).mono ?_); (rintro e w3 ⟨rfl, h1⟩; have B3 := hid_of (step_b B2.out h1); clear h1))))
  go_ret
  exact ⟨rfl, B3.out⟩
set_option maxRecDepth 100000 in
set_option maxHeartbeats 3200000 in
theorem places_law (s : ByteArray) (a : Int) (w : World) (hG : Glob w) : Calls Tryd.prog 13 #[.string s, .int .i64 a] w fun e w' => e = .returned (.bool true) ∧ Below w.heap.size w w' := by
  have AW := hid_of (awake_any w hG)
  clear hG
  by_cases hs : 2000 < s.size
  · have d1 : decide ((s.size : Int) > 2000) = true := decide_eq_true (by omega)
    clear hs
    go_enter Tryd.func13, Tryd.ntmps13
    go_wp2_with (go_at_call 14; ((with_reducible refine (AW.out).mono ?_); (rintro e w1 ⟨rfl, h1⟩; have B1 := hid_of h1; clear h1)))
    go_ret
    exact ⟨rfl, B1.out⟩
  · have d1 : decide ((s.size : Int) > 2000) = false := decide_eq_false (by omega)
    have HP : Hid (∃ x y : Int, ∀ w1, Calls Tryd.prog 27 #[.string s, .int .i64 a] w1 (PlcP x y w1) ∧ Calls Tryd.prog 28 #[.string s, .int .i64 a] w1 (PlcP x y w1)) := hid_of (by
      by_cases h : a < 0 ∨ (s.size : Int) < a
      · exact ⟨0, 0, fun w1 => ⟨place_out s a w1 h, rplace_out s a w1 h⟩⟩
      · obtain ⟨i, rfl⟩ : ∃ i : Nat, a = i := ⟨a.toNat, by omega⟩
        exact ⟨_, _, fun w1 => ⟨place_any s i w1 (by omega) (by omega), rplace_any s i w1 (by omega) (by omega)⟩⟩)
    obtain ⟨x, y, hxy⟩ := HP.out
    have P1 := hid_of (fun w1 => (hxy w1).1)
    have P2 := hid_of (fun w1 => (hxy w1).2)
    clear hs HP hxy
    go_enter Tryd.func13, Tryd.ntmps13
    go_wp2_with (first
      | (go_at_call 14; ((with_reducible refine (AW.out).mono ?_); (rintro e w1 ⟨rfl, h1⟩; have B1 := hid_of h1; clear h1)))
      | (go_at_call 27; ((with_reducible refine (P1.out _).mono ?_); (rintro e w' ⟨rfl, rfl⟩)))
      | (go_at_call 28; ((with_reducible refine (P2.out _).mono ?_); (rintro e w' ⟨rfl, rfl⟩))))
    go_ret
    exact ⟨rfl, B1.out⟩
end Go.Proofs.YtdmjlmlmdllhgaaDoor
