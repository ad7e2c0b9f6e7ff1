/- What a source of a set of names says: plain mathematics on the bytes of a string. No condition. -/
import Derived.Test.YtpbjnbceloibnaaNamRof
namespace Go.Proofs.Ytpbjnbceloibnaa

/-- The byte at a place, or -1 behind the end. -/
def gt (s : ByteArray) (i : Nat) : Int := if h : i < s.size then ((s[i]).toNat : Int) else -1
theorem gt_lt {s : ByteArray} {i : Nat} (h : i < s.size) : gt s i = ((s[i]).toNat : Int) := by simp [gt, h]
theorem gt_ge {s : ByteArray} {i : Nat} (h : ¬ i < s.size) : gt s i = -1 := by simp [gt, h]
theorem gt_in {s : ByteArray} {i : Nat} (h : 0 ≤ gt s i) : i < s.size := by
  by_cases h2 : i < s.size
  · exact h2
  · rw [gt_ge h2] at h; omega
def runN (p : Int → Bool) (s : ByteArray) : Nat → Nat → Nat
  | 0, i => i
  | d + 1, i => if p (gt s i) then runN p s d (i + 1) else i
def runF (p : Int → Bool) (s : ByteArray) (i : Nat) : Nat := runN p s (s.size - i) i
def blank (c : Int) : Bool := decide (c = 32)
/-- A test that is false behind the end. -/
def Ends (p : Int → Bool) : Prop := p (-1) = false
theorem blank_ends : Ends blank := rfl
theorem inw_ends : Ends inw := rfl
theorem runF_go {p : Int → Bool} {s : ByteArray} {i : Nat} (h : i < s.size) (hp : p (gt s i) = true) : runF p s i = runF p s (i + 1) := by
  obtain ⟨d, hd⟩ : ∃ d, s.size - i = d + 1 := ⟨s.size - i - 1, by omega⟩
  rw [runF, runF, hd, runN, if_pos hp, show s.size - (i + 1) = d by omega]
theorem runF_stop {p : Int → Bool} {s : ByteArray} {i : Nat} (hp : p (gt s i) = false) : runF p s i = i := by
  rw [runF]
  cases s.size - i with
  | zero => rfl
  | succ d => rw [runN, if_neg (by simp [hp])]
theorem runF_end {p : Int → Bool} (he : Ends p) {s : ByteArray} {i : Nat} (h : ¬ i < s.size) : runF p s i = i := runF_stop (by rw [gt_ge h]; exact he)
theorem runF_spec {p : Int → Bool} (he : Ends p) (s : ByteArray) : ∀ d i, s.size - i = d → p (gt s (runF p s i)) = false ∧ i ≤ runF p s i ∧ (i ≤ s.size → runF p s i ≤ s.size) ∧ ∀ j, i ≤ j → j < runF p s i → p (gt s j) = true := by
  intro d; induction d with
  | zero =>
    intro i h
    rw [runF_end he (by omega : ¬ i < s.size)]
    exact ⟨by rw [gt_ge (by omega)]; exact he, Nat.le_refl _, id, fun j h1 h2 => by omega⟩
  | succ d ih =>
    intro i h
    by_cases hp : p (gt s i) = true
    · rw [runF_go (by omega) hp]
      obtain ⟨a, b, c, e⟩ := ih (i + 1) (by omega)
      exact ⟨a, by omega, fun _ => c (by omega), fun j h1 h2 => by
        by_cases e2 : j = i
        · rw [e2]; exact hp
        · exact e j (by omega) h2⟩
    · rw [runF_stop (by simpa using hp)]
      exact ⟨by simpa using hp, Nat.le_refl _, id, fun j h1 h2 => by omega⟩
def sk (s : ByteArray) (i : Nat) : Nat := runF blank s i
def we (s : ByteArray) (i : Nat) : Nat := runF inw s i
theorem sk_spec (s : ByteArray) (i : Nat) : blank (gt s (sk s i)) = false ∧ i ≤ sk s i ∧ (i ≤ s.size → sk s i ≤ s.size) ∧ ∀ j, i ≤ j → j < sk s i → blank (gt s j) = true := runF_spec blank_ends s _ i rfl
theorem we_spec (s : ByteArray) (i : Nat) : inw (gt s (we s i)) = false ∧ i ≤ we s i ∧ (i ≤ s.size → we s i ≤ s.size) ∧ ∀ j, i ≤ j → j < we s i → inw (gt s j) = true := runF_spec inw_ends s _ i rfl
theorem sk_idem (s : ByteArray) (i : Nat) : sk s (sk s i) = sk s i := runF_stop (sk_spec s i).1
theorem sk_stop {s : ByteArray} {i : Nat} (h : gt s i ≠ 32) : sk s i = i := runF_stop (by simp [blank, h])

/-- The bytes of a string from one place to another. -/
def cut (s : ByteArray) (i j : Nat) : Str := (s.extract i j).data.toList
/-- What is read: a set, or a place and a code. -/
structure Got where
  list : List Str
  place : Nat
  code : Int
def bad (i : Nat) (c : Int) : Got := ⟨[], i, c⟩
def fin (s : ByteArray) (i : Nat) (acc : List Str) : Got := if sk s i < s.size then bad (sk s i) 2 else ⟨setOf acc, 0, 0⟩
/-- The words of a source from a place on that is no blank. -/
def wordsF (s : ByteArray) : Nat → Nat → List Str → Got
  | 0, st, _ => bad st 2
  | d + 1, st, acc =>
    if we s st = st then bad st 2
    else if isName (strBytes (s.extract st (we s st))) = false ∨ cut s st (we s st) ∈ acc then bad st 3
    else if gt s (sk s (we s st)) = 125 then fin s (sk s (we s st) + 1) (acc ++ [cut s st (we s st)])
    else if gt s (sk s (we s st)) = 44 then wordsF s d (sk s (sk s (we s st) + 1)) (acc ++ [cut s st (we s st)])
    else bad (sk s (we s st)) 2
def parseF (s : ByteArray) : Got :=
  if gt s (sk s 0) ≠ 123 then bad (sk s 0) 2
  else if gt s (sk s (sk s 0 + 1)) = 125 then fin s (sk s (sk s 0 + 1) + 1) []
  else wordsF s (s.size + 1) (sk s (sk s 0 + 1)) []
end Go.Proofs.Ytpbjnbceloibnaa
