/- The mathematics of SplitMix64: Mix and its inverse, the upper half of a product. No condition but bounds. -/
import Derived.WalkKit
import Derived.Laws.BitsAllLaws
namespace Go.Proofs.Ytpmajdgabpmooaa
open Go.RowKit

def fld (x n : Nat) : Nat := x ^^^ (x / 2 ^ n)
def unf (x n : Nat) : Nat := (x ^^^ (x / 2 ^ n)) ^^^ (x / 2 ^ (2 * n))
theorem fld_lt {x : Nat} (n : Nat) (h : x < 18446744073709551616) : fld x n < 18446744073709551616 :=
  Nat.xor_lt_two_pow (n := 64) h (Nat.lt_of_le_of_lt (Nat.div_le_self _ _) h)
theorem unf_lt {x : Nat} (n : Nat) (h : x < 18446744073709551616) : unf x n < 18446744073709551616 :=
  Nat.xor_lt_two_pow (n := 64) (fld_lt n h) (Nat.lt_of_le_of_lt (Nat.div_le_self _ _) h)
theorem top_bit {x : Nat} (h : x < 18446744073709551616) {i : Nat} (hi : 64 ≤ i) : x.testBit i = false :=
  Nat.testBit_lt_two_pow (Nat.lt_of_lt_of_le h (Nat.pow_le_pow_right (n := 2) (by omega) hi))
theorem unf_fld {x n : Nat} (h : x < 18446744073709551616) (hn : 64 ≤ 3 * n) : unf (fld x n) n = x := by
  refine Nat.eq_of_testBit_eq fun i => ?_
  unfold unf fld
  simp only [Nat.testBit_xor, Nat.testBit_div_two_pow]
  rw [show i + n + n = i + 2 * n by omega, show i + 2 * n + n = i + 3 * n by omega, top_bit h (show 64 ≤ i + 3 * n by omega)]
  cases x.testBit i <;> cases x.testBit (i + n) <;> cases x.testBit (i + 2 * n) <;> rfl
theorem fld_unf {x n : Nat} (h : x < 18446744073709551616) (hn : 64 ≤ 3 * n) : fld (unf x n) n = x := by
  refine Nat.eq_of_testBit_eq fun i => ?_
  unfold unf fld
  simp only [Nat.testBit_xor, Nat.testBit_div_two_pow]
  rw [show i + n + n = i + 2 * n by omega, show i + n + 2 * n = i + 3 * n by omega, top_bit h (show 64 ≤ i + 3 * n by omega)]
  cases x.testBit i <;> cases x.testBit (i + n) <;> cases x.testBit (i + 2 * n) <;> rfl

def mixN (x : Nat) : Nat := fld (fld (fld x 30 * 13787848793156543929 % 18446744073709551616) 27 * 10723151780598845931 % 18446744073709551616) 31
def unmixN (y : Nat) : Nat := unf (unf (unf y 31 * 3573116690164977347 % 18446744073709551616) 27 * 10871156337175269513 % 18446744073709551616) 30
theorem mixN_lt (x : Nat) : mixN x < 18446744073709551616 := fld_lt _ (Nat.mod_lt _ (by omega))
theorem unmixN_lt (x : Nat) : unmixN x < 18446744073709551616 := unf_lt _ (Nat.mod_lt _ (by omega))
theorem mul_back (z f i q : Nat) (h : f * i = 18446744073709551616 * q + 1) (hz : z < 18446744073709551616) : (z * f % 18446744073709551616) * i % 18446744073709551616 = z := by
  have e : z * f * i = 18446744073709551616 * (q * z) + z := by
    rw [Nat.mul_assoc, h, Nat.mul_add, Nat.mul_one, Nat.mul_comm z, Nat.mul_assoc]
  rw [Nat.mul_mod, Nat.mod_mod, ← Nat.mul_mod, e, Nat.mul_add_mod]
  exact Nat.mod_eq_of_lt hz
theorem unmix_mix {x : Nat} (h : x < 18446744073709551616) : unmixN (mixN x) = x := by
  unfold unmixN mixN
  rw [unf_fld (Nat.mod_lt _ (by omega)) (by omega), mul_back _ _ _ 2077064247507883091 (by decide) (fld_lt _ (Nat.mod_lt _ (by omega))), unf_fld (Nat.mod_lt _ (by omega)) (by omega), mul_back _ _ _ 8125545580553827436 (by decide) (fld_lt _ h), unf_fld h (by omega)]
theorem mix_unmix {x : Nat} (h : x < 18446744073709551616) : mixN (unmixN x) = x := by
  unfold unmixN mixN
  rw [fld_unf (Nat.mod_lt _ (by omega)) (by omega), mul_back _ _ _ 8125545580553827436 (by decide) (unf_lt _ (Nat.mod_lt _ (by omega))), fld_unf (Nat.mod_lt _ (by omega)) (by omega), mul_back _ _ _ 2077064247507883091 (by decide) (unf_lt _ h), fld_unf h (by omega)]

theorem fld_bits (x n : Nat) (h : x < 18446744073709551616) : bits .xor .u64 (x : Int) ((x : Int) / 2 ^ n) = ((fld x n : Nat) : Int) := by
  have e : (x : Int) / 2 ^ n = ((x / 2 ^ n : Nat) : Int) := by norm_cast
  rw [e]
  exact u64_xor_nat x (x / 2 ^ n) h (Nat.lt_of_le_of_lt (Nat.div_le_self _ _) h)
theorem unf_bits (x n : Nat) (h : x < 18446744073709551616) : bits .xor .u64 ((fld x n : Nat) : Int) ((x : Int) / 2 ^ (2 * n)) = ((unf x n : Nat) : Int) := by
  have e : (x : Int) / 2 ^ (2 * n) = ((x / 2 ^ (2 * n) : Nat) : Int) := by norm_cast
  rw [e]
  exact u64_xor_nat (fld x n) (x / 2 ^ (2 * n)) (fld_lt _ h) (Nat.lt_of_le_of_lt (Nat.div_le_self _ _) h)

/-- The state behind a step of the source. -/
def stepN (s : Nat) : Nat := (s + 11400714819323198485) % 18446744073709551616
def atN (seed k : Nat) : Nat := (seed + k * 11400714819323198485) % 18446744073709551616
theorem atN_lt (s k : Nat) : atN s k < 18446744073709551616 := Nat.mod_lt _ (by omega)
theorem atN_zero {s : Nat} (h : s < 18446744073709551616) : atN s 0 = s := by unfold atN; omega
theorem atN_succ (s k : Nat) : stepN (atN s k) = atN s (k + 1) := by unfold stepN atN; omega
theorem atN_add (s a b : Nat) : atN (atN s a) b = atN s (a + b) := by unfold atN; omega
theorem atN_mod (s a : Nat) : atN s (a % 18446744073709551616) = atN s a := by unfold atN; omega

/-- The upper half of a product, by halves. -/
def highN (x n : Nat) : Nat := x * n / 18446744073709551616
theorem high_halves (x n : Nat) :
    highN x n = (x / 4294967296) * (n / 4294967296) + ((x / 4294967296) * (n % 4294967296) + (x % 4294967296) * (n % 4294967296) / 4294967296) / 4294967296 + ((x % 4294967296) * (n / 4294967296) + ((x / 4294967296) * (n % 4294967296) + (x % 4294967296) * (n % 4294967296) / 4294967296) % 4294967296) / 4294967296 := by
  obtain ⟨a, ha⟩ : ∃ a, a = x / 4294967296 := ⟨_, rfl⟩
  obtain ⟨b, hb⟩ : ∃ b, b = x % 4294967296 := ⟨_, rfl⟩
  obtain ⟨c, hc⟩ : ∃ c, c = n / 4294967296 := ⟨_, rfl⟩
  obtain ⟨d, hd⟩ : ∃ d, d = n % 4294967296 := ⟨_, rfl⟩
  have ex : x = 4294967296 * a + b := by omega
  have en : n = 4294967296 * c + d := by omega
  have e : x * n = 18446744073709551616 * (a * c) + 4294967296 * (a * d + b * c) + b * d := by
    rw [ex, en, Nat.add_mul, Nat.mul_add, Nat.mul_add]
    have e1 : 4294967296 * a * (4294967296 * c) = 18446744073709551616 * (a * c) := by
      rw [Nat.mul_assoc, Nat.mul_left_comm a, ← Nat.mul_assoc]
    have e2 : 4294967296 * a * d = 4294967296 * (a * d) := Nat.mul_assoc _ _ _
    have e3 : b * (4294967296 * c) = 4294967296 * (b * c) := Nat.mul_left_comm _ _ _
    rw [e1, e2, e3, Nat.mul_add]
    omega
  unfold highN
  rw [e, ← ha, ← hb, ← hc, ← hd]
  generalize a * c = A
  generalize a * d = B
  generalize b * c = C
  generalize b * d = D
  omega
theorem highN_lt {x n : Nat} (h : x < 18446744073709551616) (hn : 0 < n) : highN x n < n := by
  unfold highN
  rw [Nat.div_lt_iff_lt_mul (by omega), Nat.mul_comm]
  exact Nat.mul_lt_mul_of_pos_left h hn

example : mixN (stepN 0) = 16294208416658607535 := by decide
end Go.Proofs.Ytpmajdgabpmooaa
