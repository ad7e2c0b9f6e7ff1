/- VarianceTables and VarianceLaws, walked. No condition. -/
import Derived.Test.YtdacalplnggnoaaDoorVarAwk
namespace Go.Proofs.YtdacalplnggnoaaDoor
open Go.RowKit

theorem cs_int (a : Int) : a < 0 ∨ a > 3 ∨ a = 0 ∨ a = 1 ∨ a = 2 ∨ a = 3 := by omega
theorem ff_lt {a : Int} (h : a < 0) : flip a = 3 := flip_else (by omega) (by omega) (by omega)
theorem ff_gt {a : Int} (h : a > 3) : flip a = 3 := flip_else (by omega) (by omega) (by omega)
/-- A number that is no variance counts as None. -/
theorem both_l3 {a : Int} (h : flip a = 3) (b : Int) : both a b = both 3 b := by
  have e : flip (flip a) = flip (flip 3) := by rw [h]; rfl
  unfold both
  rw [e]
theorem both_r3 {b : Int} (h : flip b = 3) (a : Int) : both a b = both a 3 := by
  have e : flip (flip b) = flip (flip 3) := by rw [h]; rfl
  unfold both
  rw [e]
theorem norm (a : Int) : (flip (flip a) = 0 ∨ flip (flip a) = 1 ∨ flip (flip a) = 2 ∨ flip (flip a) = 3) := by
  have := flip_range (flip a)
  omega
theorem both_n (a b : Int) : both a b = both (flip (flip a)) (flip (flip b)) := by
  have e : ∀ v : Int, flip (flip (flip (flip v))) = flip (flip v) := fun v => by rw [flip3]
  unfold both
  rw [e, e]
theorem flip_n (a : Int) : flip a = flip (flip (flip a)) := (flip3 a).symm
theorem both_f (a b : Int) : flip (flip (both a b)) = both a b := flip2 (both_range a b)
theorem both_comm (a b : Int) : both a b = both b a := by
  rw [both_n a b, both_n b a]
  rcases norm a with h | h | h | h <;> rcases norm b with k | k | k | k <;> rw [h, k] <;> rfl
theorem both_assoc (a b c : Int) : both a (both b c) = both (both a b) c := by
  rw [both_n a (both b c), both_n (both a b) c, both_f, both_f, both_n b c, both_n a b]
  rcases norm a with h | h | h | h <;> rcases norm b with k | k | k | k <;> rcases norm c with l | l | l | l <;> rw [h, k, l] <;> rfl
theorem flip_both (a b : Int) : flip (both a b) = both (flip a) (flip b) := by
  rw [both_n a b, both_n (flip a) (flip b), flip3, flip3, flip_n a, flip_n b]
  rcases norm a with h | h | h | h <;> rcases norm b with k | k | k | k <;> rw [h, k] <;> rfl
set_option maxRecDepth 100000 in
set_option maxHeartbeats 3200000 in
theorem rboth_any (a b : Int) (w : World) : Calls Tryd.prog 11 #[.int .i64 a, .int .i64 b] w fun e w' => e = .returned (.int .i64 (both a b)) ∧ w = w' := by
  obtain ⟨r, hr⟩ : ∃ r, r = both a b := ⟨_, rfl⟩
  rw [← hr]
  rcases cs_int a with h | h | rfl | rfl | rfl | rfl
  · rw [both_l3 (ff_lt h)] at hr
    have d1 : decide (a < 0) = true := decide_eq_true h
    clear h
    rcases cs_int b with k | k | rfl | rfl | rfl | rfl
    · rw [both_r3 (ff_lt k)] at hr
      have d2 : decide (b < 0) = true := decide_eq_true k
      clear k
      subst hr
      go_enter Tryd.func11, Tryd.ntmps11
      go_wp2
      go_ret
      exact ⟨rfl, rfl⟩
    · rw [both_r3 (ff_gt k)] at hr
      have d2 : decide (b < 0) = false := decide_eq_false (by omega)
      have d3 : decide (b > 3) = true := decide_eq_true k
      clear k
      subst hr
      go_enter Tryd.func11, Tryd.ntmps11
      go_wp2
      go_ret
      exact ⟨rfl, rfl⟩
    all_goals subst hr
    all_goals go_enter Tryd.func11, Tryd.ntmps11
    all_goals go_wp2
    all_goals go_ret
    all_goals exact ⟨rfl, rfl⟩
  · rw [both_l3 (ff_gt h)] at hr
    have d1 : decide (a < 0) = false := decide_eq_false (by omega)
    have d11 : decide (a > 3) = true := decide_eq_true h
    clear h
    rcases cs_int b with k | k | rfl | rfl | rfl | rfl
    · rw [both_r3 (ff_lt k)] at hr
      have d2 : decide (b < 0) = true := decide_eq_true k
      clear k
      subst hr
      go_enter Tryd.func11, Tryd.ntmps11
      go_wp2
      go_ret
      exact ⟨rfl, rfl⟩
    · rw [both_r3 (ff_gt k)] at hr
      have d2 : decide (b < 0) = false := decide_eq_false (by omega)
      have d3 : decide (b > 3) = true := decide_eq_true k
      clear k
      subst hr
      go_enter Tryd.func11, Tryd.ntmps11
      go_wp2
      go_ret
      exact ⟨rfl, rfl⟩
    all_goals subst hr
    all_goals go_enter Tryd.func11, Tryd.ntmps11
    all_goals go_wp2
    all_goals go_ret
    all_goals exact ⟨rfl, rfl⟩
  all_goals rcases cs_int b with k | k | rfl | rfl | rfl | rfl
  case inr.inr.inl.inl | inr.inr.inr.inl.inl | inr.inr.inr.inr.inl.inl | inr.inr.inr.inr.inr.inl =>
    rw [both_r3 (ff_lt k)] at hr
    have d2 : decide (b < 0) = true := decide_eq_true k
    clear k
    subst hr
    go_enter Tryd.func11, Tryd.ntmps11
    go_wp2
    go_ret
    exact ⟨rfl, rfl⟩
  case inr.inr.inl.inr.inl | inr.inr.inr.inl.inr.inl | inr.inr.inr.inr.inl.inr.inl | inr.inr.inr.inr.inr.inr.inl =>
    rw [both_r3 (ff_gt k)] at hr
    have d2 : decide (b < 0) = false := decide_eq_false (by omega)
    have d3 : decide (b > 3) = true := decide_eq_true k
    clear k
    subst hr
    go_enter Tryd.func11, Tryd.ntmps11
    go_wp2
    go_ret
    exact ⟨rfl, rfl⟩
  all_goals subst hr
  all_goals go_enter Tryd.func11, Tryd.ntmps11
  all_goals go_wp2
  all_goals go_ret
  all_goals exact ⟨rfl, rfl⟩
set_option maxRecDepth 100000 in
set_option maxHeartbeats 3200000 in
theorem tables_law (a b : Int) (w : World) (HG : Gl w) : Calls Tryd.prog 3 #[.int .i64 a, .int .i64 b] w fun e w' => e = .returned (.bool true) ∧ Below w.heap.size w w' := by
  have AW := hid_of (awake_any w HG)
  have F1 := hid_of (fun wz => flip_any a wz)
  have F2 := hid_of (fun wz => rflip_any a wz)
  have B1 := hid_of (fun wz => both_any a b wz)
  have B2 := hid_of (fun wz => rboth_any a b wz)
  obtain ⟨x, hx⟩ : ∃ x, x = flip a := ⟨_, rfl⟩
  obtain ⟨y, hy⟩ : ∃ y, y = both a b := ⟨_, rfl⟩
  rw [← hx] at F1 F2
  rw [← hy] at B1 B2
  clear hx hy HG
  go_enter Tryd.func3, Tryd.ntmps3
  go_wp2_with (first
    | (go_at_call 7; ((with_reducible refine (AW.out).mono ?_); (rintro e w1 ⟨rfl, h1⟩); (have H1 := hid_of h1); clear h1))
    | (go_at_call 8; ((with_reducible refine (F1.out _).mono ?_); (rintro e w2 ⟨rfl, rfl⟩)))
    | (go_at_call 9; ((with_reducible refine (F2.out _).mono ?_); (rintro e w2 ⟨rfl, rfl⟩)))
    | (go_at_call 10; ((with_reducible refine (B1.out _).mono ?_); (rintro e w2 ⟨rfl, rfl⟩)))
    | (go_at_call 11; ((with_reducible refine (B2.out _).mono ?_); (rintro e w2 ⟨rfl, rfl⟩))))
  go_ret
  exact ⟨rfl, H1.out⟩
set_option maxRecDepth 100000 in
set_option maxHeartbeats 3200000 in
theorem laws_law (a b c : Int) (w : World) (HG : Gl w) : Calls Tryd.prog 4 #[.int .i64 a, .int .i64 b, .int .i64 c] w fun e w' => e = .returned (.bool true) ∧ Below w.heap.size w w' := by
  have AW := hid_of (awake_any w HG)
  have B1 := hid_of (fun wz => both_any a b wz)
  have B2 := hid_of (fun wz => both_any b a wz)
  have B3 := hid_of (fun wz => both_any b c wz)
  have B4 := hid_of (fun wz => both_any a (both b c) wz)
  have B5 := hid_of (fun wz => both_any (both a b) c wz)
  have B6 := hid_of (fun wz => both_any (flip a) (flip b) wz)
  have F1 := hid_of (fun wz => flip_any (both a b) wz)
  have F2 := hid_of (fun wz => flip_any a wz)
  have F3 := hid_of (fun wz => flip_any b wz)
  rw [both_comm b a] at B2
  rw [both_assoc a b c] at B4
  rw [← flip_both a b] at B6
  obtain ⟨z, hz⟩ : ∃ z, z = both (both a b) c := ⟨_, rfl⟩
  rw [← hz] at B4 B5
  obtain ⟨p, hp⟩ : ∃ p, p = flip (both a b) := ⟨_, rfl⟩
  rw [← hp] at B6 F1
  obtain ⟨y, hy⟩ : ∃ y, y = both b c := ⟨_, rfl⟩
  rw [← hy] at B3 B4
  obtain ⟨x, hx⟩ : ∃ x, x = both a b := ⟨_, rfl⟩
  rw [← hx] at B1 B2 B5 F1
  obtain ⟨fa, hfa⟩ : ∃ fa, fa = flip a := ⟨_, rfl⟩
  rw [← hfa] at F2 B6
  obtain ⟨fb, hfb⟩ : ∃ fb, fb = flip b := ⟨_, rfl⟩
  rw [← hfb] at F3 B6
  clear hx hy hz hp hfa hfb HG
  go_enter Tryd.func4, Tryd.ntmps4
  go_wp2_with (first
    | (go_at_call 7; ((with_reducible refine (AW.out).mono ?_); (rintro e w1 ⟨rfl, h1⟩); (have H1 := hid_of h1); clear h1))
    | (go_at_call 10; ((with_reducible refine (B1.out _).mono ?_); (rintro e w2 ⟨rfl, rfl⟩)))
    | (go_at_call 10; ((with_reducible refine (B2.out _).mono ?_); (rintro e w2 ⟨rfl, rfl⟩)))
    | (go_at_call 10; ((with_reducible refine (B3.out _).mono ?_); (rintro e w2 ⟨rfl, rfl⟩)))
    | (go_at_call 10; ((with_reducible refine (B4.out _).mono ?_); (rintro e w2 ⟨rfl, rfl⟩)))
    | (go_at_call 10; ((with_reducible refine (B5.out _).mono ?_); (rintro e w2 ⟨rfl, rfl⟩)))
    | (go_at_call 10; ((with_reducible refine (B6.out _).mono ?_); (rintro e w2 ⟨rfl, rfl⟩)))
    | (go_at_call 8; ((with_reducible refine (F1.out _).mono ?_); (rintro e w2 ⟨rfl, rfl⟩)))
    | (go_at_call 8; ((with_reducible refine (F2.out _).mono ?_); (rintro e w2 ⟨rfl, rfl⟩)))
    | (go_at_call 8; ((with_reducible refine (F3.out _).mono ?_); (rintro e w2 ⟨rfl, rfl⟩))))
  go_ret
  exact ⟨rfl, H1.out⟩
end Go.Proofs.YtdacalplnggnoaaDoor
