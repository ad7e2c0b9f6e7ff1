/- An encoding is read as its number. No condition. -/
import Derived.Test.YtoogcafceghdjaaWireRdA
namespace Go.Proofs.Ytoogcafceghdjaa.Wr
open Go.RowKit

theorem decAt_enc : ∀ (k n i acc : Nat) (r : List Int), n ≤ k → i < 10 → n < 128 ^ (10 - i) → n * 128 ^ i < 18446744073709551616 → 0 < n ∨ i = 0 → decAt (10 - i) i acc (enc n ++ r) = some (acc + n * 128 ^ i, i + (enc n).length) := by
  intro k
  induction k with
  | zero =>
    intro n i acc r h1 h2 h3 h4 h5
    obtain rfl : n = 0 := by omega
    obtain rfl : i = 0 := by omega
    rw [enc_lt (by omega)]; rfl
  | succ k ih =>
    intro n i acc r h1 h2 h3 h4 h5
    by_cases hn : n < 128
    · rw [enc_lt hn, List.singleton_append, decAt_cons i acc _ _ h2, if_neg (by omega)]
      have hm : mayEnd i (n : Int) = true := by
        unfold mayEnd
        rcases h5 with h5 | h5
        · by_cases h9 : i < 9
          · simp [h9]; omega
          · obtain rfl : i = 9 := by omega
            have : (128 : Nat) ^ 9 = 9223372036854775808 := by decide
            simp; omega
        · simp [h5]
      rw [if_pos hm]
      simp
    · have hi : i + 1 < 10 := by
        rcases Nat.lt_or_ge (i + 1) 10 with h | h
        · exact h
        · obtain rfl : i = 9 := by omega
          simp at h3; omega
      rw [enc_ge hn, List.cons_append, decAt_cons i acc _ _ h2, if_pos (by omega)]
      have e1 : (((n % 128 + 128 : Nat) : Int) - 128).toNat = n % 128 := by omega
      have e2 : 128 ^ (i + 1) = 128 ^ i * 128 := Nat.pow_succ 128 i
      have e3 : n / 128 * 128 ^ (i + 1) + n % 128 * 128 ^ i = n * 128 ^ i := by
        rw [e2, Nat.mul_comm (128 ^ i) 128, ← Nat.mul_assoc, ← Nat.add_mul, show n / 128 * 128 + n % 128 = n by omega]
      rw [e1, ih (n / 128) (i + 1) _ r (by omega) hi ?_ (by omega) (by left; omega)]
      · have q1 : acc + n % 128 * 128 ^ i + n / 128 * 128 ^ (i + 1) = acc + n * 128 ^ i := by rw [← e3, Nat.add_assoc, Nat.add_comm (n % 128 * 128 ^ i)]
        have q2 : i + 1 + (enc (n / 128)).length = i + ((enc (n / 128)).length + 1) := by omega
        rw [q1, q2, List.length_cons]
      · have e4 : 10 - i = 10 - (i + 1) + 1 := by omega
        rw [e4, Nat.pow_succ] at h3
        exact Nat.div_lt_of_lt_mul (by rw [Nat.mul_comm]; exact h3)
theorem dec_enc (n : Nat) (r : List Int) (h : n < 18446744073709551616) : dec (enc n ++ r) = some (n, (enc n).length) := by
  have hp : (128 : Nat) ^ (10 - 0) = 1180591620717411303424 := by decide
  have := decAt_enc n n 0 0 r (Nat.le_refl _) (by omega) (by rw [hp]; omega) (by rw [Nat.pow_zero]; omega) (Or.inr rfl)
  rw [Nat.pow_zero, Nat.mul_one, Nat.zero_add, Nat.zero_add] at this
  exact this
end Go.Proofs.Ytoogcafceghdjaa.Wr
