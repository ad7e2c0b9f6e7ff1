/- The reference's digits of a number. -/
import Derived.Test.YtdmjlmlmdllhgaaDoorLexLw5
namespace Go.Proofs.YtdmjlmlmdllhgaaDoor
open Go.RowKit

theorem dec_len : ∀ n : Nat, (Lib.decDigits n).length ≤ n + 1 := by
  intro n
  induction n using Nat.strongRecOn with
  | _ n ih =>
    by_cases h : n < 10
    · rw [Lib.decDigits_one h]
      show 1 ≤ n + 1
      omega
    · rw [Lib.decDigits, dif_neg h, List.length_append]
      have := ih (n / 10) (by omega)
      show _ + 1 ≤ n + 1
      omega
theorem dec_ten {n : Nat} (h : ¬ n < 10) : (⟨(Lib.decDigits n).toArray⟩ : ByteArray) = ⟨(Lib.decDigits (n / 10)).toArray⟩ ++ ⟨(Lib.decDigits (n % 10)).toArray⟩ := by
  apply ba_ext
  rw [app_list]
  show Lib.decDigits n = Lib.decDigits (n / 10) ++ Lib.decDigits (n % 10)
  rw [Lib.decDigits_one (show n % 10 < 10 by omega)]
  conv => lhs; rw [Lib.decDigits, dif_neg h]
theorem dec_ex {n : Nat} (h : n < 10) : (⟨#[48, 49, 50, 51, 52, 53, 54, 55, 56, 57]⟩ : ByteArray).extract n (n + 1) = ⟨(Lib.decDigits n).toArray⟩ := by
  rw [Lib.decDigits_one h]
  rcases (show n = 0 ∨ n = 1 ∨ n = 2 ∨ n = 3 ∨ n = 4 ∨ n = 5 ∨ n = 6 ∨ n = 7 ∨ n = 8 ∨ n = 9 by omega) with rfl | rfl | rfl | rfl | rfl | rfl | rfl | rfl | rfl | rfl <;> kernel_rfl
theorem dec_size (n : Nat) : (⟨(Lib.decDigits n).toArray⟩ : ByteArray).size = (Lib.decDigits n).length := by rw [← sz_list]
set_option maxRecDepth 100000 in
set_option maxHeartbeats 800000 in
theorem qnum_any (n : Nat) : n ≤ 1000000000000000 → ∀ w, Calls Tryd.prog 38 #[.int .i64 n] w fun e w' => e = .returned (.string ⟨(Lib.decDigits n).toArray⟩) ∧ w = w' := by
  induction n using Nat.strongRecOn with
  | _ n ih =>
    intro hn w
    by_cases h : n < 10
    · have d1 : decide ((n : Int) < 10) = true := decide_eq_true (by omega)
      have HX := hid_of (dec_ex h)
      obtain ⟨r, hr⟩ : ∃ r : ByteArray, r = ⟨(Lib.decDigits n).toArray⟩ := ⟨_, rfl⟩
      rw [← hr] at HX ⊢
      have b0 : (0 : Int) ≤ (n : Int) := by omega
      have b1 : (n : Int) ≤ (n : Int) + 1 := by omega
      have b2 : (n : Int) + 1 ≤ 10 := by omega
      have b3 : ((n : Int) + 1).toNat = n + 1 := by omega
      clear ih hn h hr
      go_enter Tryd.func38, Tryd.ntmps38
      go_wp2
      rw [HX.out]
      go_ret
      exact ⟨rfl, rfl⟩
    · have d1 : decide ((n : Int) < 10) = false := decide_eq_false (by omega)
      have I1 := hid_of (ih (n / 10) (by omega) (by omega))
      have I2 := hid_of (ih (n % 10) (by omega) (by omega))
      have HX := hid_of (dec_ten h)
      have e1 : (((n / 10 : Nat)) : Int) = (n : Int) / 10 := by omega
      have e2 : (((n % 10 : Nat)) : Int) = (n : Int) % 10 := by omega
      have l1 := dec_len (n / 10)
      have l2 := dec_len (n % 10)
      rw [← dec_size] at l1 l2
      obtain ⟨x, hx⟩ : ∃ x : ByteArray, x = ⟨(Lib.decDigits (n / 10)).toArray⟩ := ⟨_, rfl⟩
      obtain ⟨y, hy⟩ : ∃ y : ByteArray, y = ⟨(Lib.decDigits (n % 10)).toArray⟩ := ⟨_, rfl⟩
      rw [← hx] at l1
      rw [← hy] at l2
      rw [e1, ← hx] at I1
      rw [e2, ← hy] at I2
      rw [← hx, ← hy] at HX
      rw [HX.out]
      have A1 : ∀ W, (Op.stringOp .add x y).run Tryd.prog W = .ok (.string (x ++ y)) W := fun W => run_string_add_sum W _ _ (by omega)
      clear ih h HX e1 e2 l1 l2 hx hy
      go_enter Tryd.func38, Tryd.ntmps38
      go_wp2_with (first
        | (go_at_call 38; ((with_reducible refine (I1.out _).mono ?_); (rintro e w1 ⟨rfl, rfl⟩)))
        | (go_at_call 38; ((with_reducible refine (I2.out _).mono ?_); (rintro e w1 ⟨rfl, rfl⟩))))
      go_ret
      exact ⟨rfl, rfl⟩
end Go.Proofs.YtdmjlmlmdllhgaaDoor
