/- Plain mathematics of the wire encoding: groups of seven bits, the reading of a number, zigzag. No condition. -/
import Derived.WalkKit
namespace Go.Proofs.Ytoogcafceghdjaa.Wr
open Go.RowKit

/-- The encoding of a number without sign. -/
def enc (n : Nat) : List Int := if n < 128 then [(n : Int)] else ((n % 128 + 128 : Nat) : Int) :: enc (n / 128)
termination_by n
decreasing_by omega

theorem enc_lt {n : Nat} (h : n < 128) : enc n = [(n : Int)] := by rw [enc, if_pos h]
theorem enc_ge {n : Nat} (h : ¬ n < 128) : enc n = ((n % 128 + 128 : Nat) : Int) :: enc (n / 128) := by rw [enc, if_neg h]

theorem enc_length_pos (n : Nat) : 0 < (enc n).length := by
  rw [enc]; split <;> simp

theorem enc_length_le : ∀ (k n : Nat), n < 128 ^ (k + 1) → (enc n).length ≤ k + 1 := by
  intro k
  induction k with
  | zero => intro n h; rw [enc_lt (by simpa using h)]; simp
  | succ k ih =>
    intro n h
    by_cases h1 : n < 128
    · rw [enc_lt h1]; simp
    · rw [enc_ge h1]
      have := ih (n / 128) (by rw [Nat.div_lt_iff_lt_mul (by omega)]; rw [Nat.pow_succ] at h; exact h)
      simp; omega

theorem enc_length_10 (n : Nat) (h : n < 18446744073709551616) : (enc n).length ≤ 10 := enc_length_le 9 n (by omega)

theorem enc_bytes : ∀ (k n : Nat), n ≤ k → ∀ x ∈ enc n, 0 ≤ x ∧ x ≤ 255 := by
  intro k
  induction k with
  | zero => intro n h x hx; rw [enc_lt (by omega)] at hx; simp at hx; omega
  | succ k ih =>
    intro n h x hx
    by_cases h1 : n < 128
    · rw [enc_lt h1] at hx; simp at hx; omega
    · rw [enc_ge h1] at hx
      rcases List.mem_cons.1 hx with rfl | hx
      · omega
      · exact ih (n / 128) (by omega) x hx

theorem enc_byte (n : Nat) : ∀ x ∈ enc n, 0 ≤ x ∧ x ≤ 255 := enc_bytes n n (Nat.le_refl _)

/-- What the loop of Uint has written after k rounds, and what is left of the number. -/
def encTake : Nat → Nat → List Int
  | 0, _ => []
  | k + 1, n => ((n % 128 + 128 : Nat) : Int) :: encTake k (n / 128)
theorem encTake_length : ∀ k n, (encTake k n).length = k := by
  intro k; induction k with
  | zero => intro n; rfl
  | succ k ih => intro n; simp [encTake, ih]
theorem encTake_snoc : ∀ k n, encTake (k + 1) n = encTake k n ++ [((n / 128 ^ k % 128 + 128 : Nat) : Int)] := by
  intro k; induction k with
  | zero => intro n; simp [encTake]
  | succ k ih =>
    intro n
    rw [encTake, ih (n / 128)]
    simp only [encTake, List.cons_append]
    rw [Nat.div_div_eq_div_mul, Nat.pow_succ, Nat.mul_comm]

/-- While every rest so far was 128 or more: the encoding is what was written, and that of the rest. -/
theorem enc_take : ∀ k n, (∀ j, j < k → 128 ≤ n / 128 ^ j) → enc n = encTake k n ++ enc (n / 128 ^ k) := by
  intro k; induction k with
  | zero => intro n _; simp [encTake]
  | succ k ih =>
    intro n h
    have h0 := h 0 (by omega)
    rw [enc_ge (by simpa using h0), encTake, ih (n / 128)]
    · simp only [List.cons_append]
      rw [Nat.div_div_eq_div_mul, Nat.pow_succ, Nat.mul_comm]
    · intro j hj
      have := h (j + 1) (by omega)
      rw [Nat.pow_succ, Nat.mul_comm, ← Nat.div_div_eq_div_mul] at this
      exact this

end Go.Proofs.Ytoogcafceghdjaa.Wr
