/- Numbers in decimal digits: plain mathematics. No condition. -/
import Derived.Test.YtdmjlmlmdllhgaaDoorLexMath
import Derived.Lib.ParseIntBTie
namespace Go.Proofs.YtdmjlmlmdllhgaaDoor

def numA (a : Nat) (l : List UInt8) : Nat := l.foldl (fun a c => 10 * a + (c.toNat - 48)) a
theorem numA_nil (a : Nat) : numA a [] = a := rfl
theorem numA_cons (a : Nat) (c : UInt8) (l : List UInt8) : numA a (c :: l) = numA (10 * a + (c.toNat - 48)) l := by unfold numA; rw [List.foldl_cons]
theorem numF_eq (l : List UInt8) : numF l = numA 0 l := by unfold numF numA; rfl
theorem numA_ge (l : List UInt8) : ∀ a, a ≤ numA a l := by
  induction l with
  | nil => intro a; exact Nat.le_refl _
  | cons c l ih => intro a; rw [numA_cons]; have := ih (10 * a + (c.toNat - 48)); omega
theorem numA_mono (l : List UInt8) : ∀ a b, a ≤ b → numA a l ≤ numA b l := by
  induction l with
  | nil => intro a b h; exact h
  | cons c l ih => intro a b h; rw [numA_cons, numA_cons]; exact ih _ _ (by omega)
def Digs (l : List UInt8) : Prop := ∀ c ∈ l, 48 ≤ c.toNat ∧ c.toNat ≤ 57
theorem pum (l : List UInt8) (hd : Digs l) : ∀ acc, acc ≤ 18446744073709551615 → Lib.parseUintM 18446744073709551615 acc l = if numA acc l ≤ 18446744073709551615 then .ok (numA acc l) else .range := by
  induction l with
  | nil => intro acc h; rw [numA_nil, if_pos h]; rfl
  | cons c l ih =>
    intro acc h
    have hc := hd c (by simp)
    have hl : Digs l := fun x hx => hd x (by simp [hx])
    rw [numA_cons, Lib.parseUintM, if_pos hc]
    have hg := numA_ge l (10 * acc + (c.toNat - 48))
    by_cases h1 : 1844674407370955162 ≤ acc
    · rw [if_pos h1, if_neg (by omega)]
    · rw [if_neg h1]
      by_cases h2 : 18446744073709551615 < acc * 10 + (c.toNat - 48)
      · rw [if_pos h2, if_neg (by omega)]
      · rw [if_neg h2, ih hl _ (by omega), show acc * 10 + (c.toNat - 48) = 10 * acc + (c.toNat - 48) by omega]
theorem parse_digs {l : List UInt8} (hne : l ≠ []) (hd : Digs l) : Lib.parseIntB 64 l = if numF l ≤ 9223372036854775807 then .ok (numF l : Int) else .range := by
  have e : (2 : Nat) ^ 64 - 1 = 18446744073709551615 := by decide
  have e2 : (2 : Nat) ^ (64 - 1) = 9223372036854775808 := by decide
  cases l with
  | nil => exact absurd rfl hne
  | cons c r =>
    have hc := hd c (by simp)
    rw [Lib.parseIntB_plain 64 c r (by omega) (by omega), Lib.parseUintB, if_neg hne, e, e2, pum _ hd 0 (by omega), numF_eq]
    by_cases h1 : numA 0 (c :: r) ≤ 18446744073709551615
    · rw [if_pos h1]
      by_cases h2 : numA 0 (c :: r) ≤ 9223372036854775807
      · rw [if_pos h2]; simp only [Lib.signlessC]; rw [if_neg (by omega)]
      · rw [if_neg h2]; simp only [Lib.signlessC]; rw [if_pos (by omega)]
    · rw [if_neg h1, if_neg (by omega)]; rfl
theorem gt_extract {s : ByteArray} {i j k : Nat} (hk : k ≤ s.size) (h : i + j < k) : gt (s.extract i k) j = gt s (i + j) := by
  have h1 : j < (s.extract i k).size := by rw [ByteArray.size_extract]; omega
  rw [gt_lt h1, gt_lt (show i + j < s.size by omega)]
  simp [ByteArray.getElem_extract]
theorem byte_at {s : ByteArray} {j : Nat} {c : UInt8} (h : s.data.toList[j]? = some c) : gt s j = c.toNat := by
  obtain ⟨h1, h2⟩ := List.getElem?_eq_some_iff.1 h
  have h3 : j < s.size := by simpa using h1
  rw [gt_lt h3, ← h2]; rfl
theorem digs_run {s : ByteArray} {j : Nat} (hj : j ≤ s.size) : Digs (s.extract j (de s j)).data.toList := by
  intro c hc
  obtain ⟨i, hi⟩ := List.getElem?_of_mem hc
  have hb := byte_at hi
  have hlt : i < (s.extract j (de s j)).size := by have h := (List.getElem?_eq_some_iff.1 hi).1; rw [Array.length_toList] at h; exact h
  have hle : de s j ≤ s.size := run_le hj
  rw [ByteArray.size_extract] at hlt
  rw [gt_extract hle (by omega)] at hb
  have := (runF_spec (p := dig) s _ j rfl).2.2.2 (j + i) (by omega) (by show j + i < runF dig s j; have : de s j = runF dig s j := rfl; omega)
  rw [hb] at this
  simp only [dig, Bool.and_eq_true, decide_eq_true_eq] at this
  omega
end Go.Proofs.YtdmjlmlmdllhgaaDoor
