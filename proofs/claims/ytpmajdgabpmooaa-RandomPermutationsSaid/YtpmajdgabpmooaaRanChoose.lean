/- Binomial numbers by Pascal's triangle, by products, and as rows. No condition. -/
import Derived.WalkKit
namespace Go.Proofs.Ytpmajdgabpmooaa

def chN : Nat → Nat → Nat
  | _, 0 => 1
  | 0, _ + 1 => 0
  | n + 1, k + 1 => chN n k + chN n (k + 1)
theorem chN_zero (n : Nat) : chN n 0 = 1 := by cases n <;> rfl
theorem chN_succ (n k : Nat) : chN (n + 1) (k + 1) = chN n k + chN n (k + 1) := rfl
theorem chN_gt : ∀ n k, n < k → chN n k = 0 := by
  intro n; induction n with
  | zero => intro k h; cases k with
    | zero => omega
    | succ k => rfl
  | succ n ih => intro k h; cases k with
    | zero => omega
    | succ k => rw [chN_succ, ih k (by omega), ih (k + 1) (by omega)]
theorem chN_self : ∀ n, chN n n = 1 := by
  intro n; induction n with
  | zero => rfl
  | succ n ih => rw [chN_succ, ih, chN_gt n (n + 1) (by omega)]
theorem chN_absorb : ∀ n k, chN n k * n = chN n (k + 1) * (k + 1) + chN n k * k := by
  intro n; induction n with
  | zero => intro k; cases k with
    | zero => rfl
    | succ k => simp [chN]
  | succ n ih =>
    intro k; cases k with
    | zero =>
      have := ih 0
      rw [chN_zero] at this ⊢
      rw [chN_succ, chN_zero]
      omega
    | succ k =>
      have h1 := ih k
      have h2 := ih (k + 1)
      rw [chN_succ, chN_succ]
      simp only [Nat.add_mul, Nat.mul_add, Nat.mul_one, Nat.one_mul] at h1 h2 ⊢
      omega
theorem chN_step {n k : Nat} (h : k ≤ n) : chN n k * (n - k) = chN n (k + 1) * (k + 1) := by
  have h1 := chN_absorb n k
  rw [Nat.mul_sub]
  omega
theorem chN_div {n k : Nat} (h : k ≤ n) : chN n k * (n - k) / (k + 1) = chN n (k + 1) := by
  rw [chN_step h, Nat.mul_div_cancel _ (by omega)]
theorem chN_sym : ∀ n a b, a + b = n → chN n a = chN n b := by
  intro n; induction n with
  | zero => intro a b h; rw [show a = 0 by omega, show b = 0 by omega]
  | succ n ih =>
    intro a b h
    cases a with
    | zero => rw [show b = n + 1 by omega, chN_zero, chN_self]
    | succ a =>
      cases b with
      | zero => rw [show a + 1 = n + 1 by omega, chN_zero, chN_self]
      | succ b => rw [chN_succ, chN_succ, ih a (b + 1) (by omega), ih (a + 1) b (by omega), Nat.add_comm]
theorem chN_bound : ∀ n k, chN (n + 1) k ≤ 2 ^ n := by
  intro n; induction n with
  | zero => intro k; match k with
    | 0 => decide
    | 1 => decide
    | k + 2 => rw [chN_gt _ _ (by omega)]; omega
  | succ n ih =>
    intro k; cases k with
    | zero => rw [chN_zero]; exact Nat.one_le_two_pow
    | succ k =>
      rw [chN_succ]
      have h1 := ih k
      have h2 := ih (k + 1)
      rw [Nat.pow_succ]; omega
theorem chN_max {n k : Nat} (h : n ≤ 60) : chN n k ≤ 576460752303423488 := by
  cases n with
  | zero => cases k with
    | zero => decide
    | succ k => rw [chN_gt _ _ (by omega)]; omega
  | succ n => exact Nat.le_trans (chN_bound n k) (Nat.le_trans (Nat.pow_le_pow_right (by omega) (show n ≤ 59 by omega)) (by decide))
/-- The product that choose makes fits. -/
theorem chN_fits {n k : Nat} (h : n ≤ 60) : chN n k * (n - k) < 18446744073709551616 := by
  match n, k with
  | 0, _ => simp
  | 1, k => have := chN_max (n := 1) (k := k) (by omega); have h2 : chN 1 k * (1 - k) ≤ chN 1 k * 1 := Nat.mul_le_mul_left _ (by omega); omega
  | n + 2, 0 => rw [chN_zero]; omega
  | n + 2, k + 1 =>
    by_cases hk : k + 1 ≤ n + 2
    · have h1 : chN (n + 2) (k + 1) * (n + 2 - (k + 1)) = chN (n + 1) (k + 1) * (n + 2) := by
        have e1 := chN_absorb (n + 1) k
        have e2 := chN_absorb (n + 1) (k + 1)
        have e3 : chN (n + 2) (k + 1) = chN (n + 1) k + chN (n + 1) (k + 1) := rfl
        obtain ⟨d, hd⟩ : ∃ d, n + 1 = k + d := ⟨n + 1 - k, by omega⟩
        rw [show n + 2 - (k + 1) = d by omega, e3, show n + 2 = k + d + 1 by omega]
        rw [hd] at e1 e2 ⊢
        simp only [Nat.add_mul, Nat.mul_add, Nat.mul_one] at e1 e2 ⊢
        omega
      rw [h1]
      have h2 := chN_bound n (k + 1)
      have h3 : 2 ^ n ≤ 2 ^ 58 := Nat.pow_le_pow_right (by omega) (by omega)
      have h4 : chN (n + 1) (k + 1) * (n + 2) ≤ 2 ^ 58 * 60 := Nat.mul_le_mul (Nat.le_trans h2 h3) (by omega)
      have h5 : 2 ^ 58 * 60 < 18446744073709551616 := by decide
      omega
    · rw [chN_gt _ _ (by omega)]; omega

/-- The row n of the triangle. -/
def rowN (n : Nat) : List Nat := (List.range (n + 1)).map (chN n)
/-- Its first j numbers of the next row. -/
def rowTo (n j : Nat) : List Nat := (List.range j).map (chN n)
theorem rowN_length (n : Nat) : (rowN n).length = n + 1 := by simp [rowN]
theorem rowTo_length (n j : Nat) : (rowTo n j).length = j := by simp [rowTo]
theorem rowTo_succ (n j : Nat) : rowTo n (j + 1) = rowTo n j ++ [chN n j] := by simp [rowTo, List.range_succ]
theorem rowN_at {n j : Nat} (h : j ≤ n) : (rowN n)[j]? = some (chN n j) := by
  simp [rowN, List.getElem?_map, List.getElem?_range (show j < n + 1 by omega)]
example : chN 4 2 = 6 := by decide
end Go.Proofs.Ytpmajdgabpmooaa
