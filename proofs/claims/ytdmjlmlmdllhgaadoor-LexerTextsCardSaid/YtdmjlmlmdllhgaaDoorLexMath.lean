/- What a source of the declaration language says: plain mathematics on the bytes of a string. No condition. -/
import Derived.Test.YtdmjlmlmdllhgaaDoorNmVal
namespace Go.Proofs.YtdmjlmlmdllhgaaDoor

/-- The byte at a place, or -1 behind the end. -/
def gt (s : ByteArray) (i : Nat) : Int := if h : i < s.size then ((s[i]).toNat : Int) else -1
theorem gt_lt {s : ByteArray} {i : Nat} (h : i < s.size) : gt s i = ((s[i]).toNat : Int) := by simp [gt, h]
theorem gt_ge {s : ByteArray} {i : Nat} (h : ¬ i < s.size) : gt s i = -1 := by simp [gt, h]
theorem gt_in {s : ByteArray} {i : Nat} (h : 0 ≤ gt s i) : i < s.size := by
  by_cases h2 : i < s.size
  · exact h2
  · rw [gt_ge h2] at h; omega
theorem gt_nn {s : ByteArray} {i : Nat} (h : i < s.size) : 0 ≤ gt s i := by rw [gt_lt h]; omega
theorem gt_byte {s : ByteArray} {i : Nat} (h : i < s.size) : gt s i ≤ 255 := by
  rw [gt_lt h]; have := (s[i]).toNat_lt; omega
def runN (p : Int → Bool) (s : ByteArray) : Nat → Nat → Nat
  | 0, i => i
  | d + 1, i => if p (gt s i) then runN p s d (i + 1) else i
def runF (p : Int → Bool) (s : ByteArray) (i : Nat) : Nat := runN p s (s.size - i) i
/-- A test that is false behind the end. -/
def Ends (p : Int → Bool) : Prop := p (-1) = false
theorem runF_go {p : Int → Bool} {s : ByteArray} {i : Nat} (h : i < s.size) (hp : p (gt s i) = true) : runF p s i = runF p s (i + 1) := by
  obtain ⟨d, hd⟩ : ∃ d, s.size - i = d + 1 := ⟨s.size - i - 1, by omega⟩
  rw [runF, runF, hd, runN, if_pos hp, show s.size - (i + 1) = d by omega]
theorem runF_stop {p : Int → Bool} {s : ByteArray} {i : Nat} (hp : p (gt s i) = false) : runF p s i = i := by
  rw [runF]
  cases s.size - i with
  | zero => rfl
  | succ d => rw [runN, if_neg (by simp [hp])]
theorem runF_end {p : Int → Bool} {s : ByteArray} {i : Nat} (h : ¬ i < s.size) : runF p s i = i := by
  rw [runF, show s.size - i = 0 by omega]; rfl
theorem runF_spec {p : Int → Bool} (s : ByteArray) : ∀ d i, s.size - i = d → (runF p s i < s.size → p (gt s (runF p s i)) = false) ∧ i ≤ runF p s i ∧ (i ≤ s.size → runF p s i ≤ s.size) ∧ ∀ j, i ≤ j → j < runF p s i → p (gt s j) = true := by
  intro d; induction d with
  | zero =>
    intro i h
    rw [runF_end (by omega : ¬ i < s.size)]
    exact ⟨fun h2 => by omega, Nat.le_refl _, id, fun j h1 h2 => by omega⟩
  | succ d ih =>
    intro i h
    by_cases hp : p (gt s i) = true
    · rw [runF_go (by omega) hp]
      obtain ⟨a, b, c, e⟩ := ih (i + 1) (by omega)
      exact ⟨a, by omega, fun _ => c (by omega), fun j h1 h2 => by
        by_cases e2 : j = i
        · rw [e2]; exact hp
        · exact e j (by omega) h2⟩
    · rw [runF_stop (by simpa using hp)]
      exact ⟨fun _ => by simpa using hp, Nat.le_refl _, id, fun j h1 h2 => by omega⟩
theorem run_le {p : Int → Bool} {s : ByteArray} {i : Nat} (h : i ≤ s.size) : runF p s i ≤ s.size := (runF_spec s _ i rfl).2.2.1 h
theorem run_ge (p : Int → Bool) (s : ByteArray) (i : Nat) : i ≤ runF p s i := (runF_spec s _ i rfl).2.1
def blk (c : Int) : Bool := decide (c = 32) || decide (c = 9) || decide (c = 10) || decide (c = 13)
def ncm (c : Int) : Bool := !decide (c = 10)
def dig (c : Int) : Bool := decide (48 ≤ c) && decide (c ≤ 57)
/-- Blanks and comments: whether a place lies in a comment. -/
def skM (s : ByteArray) : Bool → Nat → Nat → Nat
  | _, 0, i => i
  | true, d + 1, i => if gt s i = 10 then skM s false d (i + 1) else skM s true d (i + 1)
  | false, d + 1, i => if blk (gt s i) then skM s false d (i + 1) else if gt s i = 35 then skM s true d (i + 1) else i
def sk (s : ByteArray) (i : Nat) : Nat := skM s false (s.size - i) i
def skT (s : ByteArray) (i : Nat) : Nat := skM s true (s.size - i) i
section
variable {s : ByteArray} {i : Nat}
theorem left_succ (h : i < s.size) : s.size - i = (s.size - (i + 1)) + 1 := by omega
theorem sk_blk (h : i < s.size) (hb : blk (gt s i) = true) : sk s i = sk s (i + 1) := by rw [sk, sk, left_succ h, skM, if_pos hb]
theorem sk_hash0 (h : gt s i = 35) : sk s i = skT s (i + 1) := by
  have hi := gt_in (s := s) (i := i) (by omega)
  rw [sk, skT, left_succ hi, skM, if_neg (by simp [h, blk]), if_pos h]
theorem sk_end (h : ¬ i < s.size) : sk s i = i := by rw [sk, show s.size - i = 0 by omega]; rfl
theorem skT_end (h : ¬ i < s.size) : skT s i = i := by rw [skT, show s.size - i = 0 by omega]; rfl
theorem sk_stop (hb : blk (gt s i) = false) (h : gt s i ≠ 35) : sk s i = i := by
  by_cases hi : i < s.size
  · rw [sk, left_succ hi, skM, if_neg (by simp [hb]), if_neg h]
  · exact sk_end hi
theorem skT_go (h : i < s.size) (hc : gt s i ≠ 10) : skT s i = skT s (i + 1) := by rw [skT, skT, left_succ h, skM, if_neg hc]
theorem skT_nl (hc : gt s i = 10) : skT s i = sk s i := by
  have h := gt_in (s := s) (i := i) (by omega)
  rw [sk_blk h (by rw [hc]; rfl), skT, sk, left_succ h, skM, if_pos hc]
theorem sk_hash (h : gt s i = 35) : sk s i = skT s i := by
  rw [sk_hash0 h, ← skT_go (gt_in (by omega)) (by omega)]
theorem skT_stop (h : ncm (gt s i) = false ∨ ¬ i < s.size) : skT s i = sk s i := by
  rcases h with h | h
  · exact skT_nl (by simpa [ncm] using h)
  · rw [skT_end h, sk_end h]
end
theorem sk_run (s : ByteArray) : ∀ d i, s.size - i = d → sk s (runF blk s i) = sk s i := by
  intro d; induction d with
  | zero => intro i h; rw [runF_end (by omega)]
  | succ d ih =>
    intro i h
    by_cases hp : blk (gt s i) = true
    · rw [runF_go (by omega) hp, ih (i + 1) (by omega), sk_blk (by omega) hp]
    · rw [runF_stop (by simpa using hp)]
theorem skT_run (s : ByteArray) : ∀ d i, s.size - i = d → sk s (runF ncm s i) = skT s i := by
  intro d; induction d with
  | zero => intro i h; rw [runF_end (by omega), skT_stop (.inr (by omega))]
  | succ d ih =>
    intro i h
    by_cases hp : ncm (gt s i) = true
    · rw [runF_go (by omega) hp, ih (i + 1) (by omega), skT_go (i := i) (by omega) (by simpa [ncm] using hp)]
    · rw [runF_stop (by simpa using hp), skT_stop (.inl (by simpa using hp))]
theorem sk_step {s : ByteArray} {i : Nat} (h : gt s i = 35) : sk s (runF blk s (runF ncm s i)) = sk s i := by
  rw [sk_run s _ _ rfl, skT_run s _ _ rfl, sk_hash h]
theorem sk_two (s : ByteArray) : ∀ d i, s.size - i = d → (i ≤ sk s i ∧ (i ≤ s.size → sk s i ≤ s.size) ∧ blk (gt s (sk s i)) = false ∧ gt s (sk s i) ≠ 35) ∧ (i ≤ skT s i ∧ (i ≤ s.size → skT s i ≤ s.size) ∧ blk (gt s (skT s i)) = false ∧ gt s (skT s i) ≠ 35) := by
  intro d; induction d with
  | zero =>
    intro i h
    have hi : ¬ i < s.size := by omega
    rw [sk_end hi, skT_end hi, gt_ge hi]
    exact ⟨⟨Nat.le_refl _, id, rfl, by decide⟩, ⟨Nat.le_refl _, id, rfl, by decide⟩⟩
  | succ d ih =>
    intro i h
    have hi : i < s.size := by omega
    obtain ⟨⟨a1, a2, a3, a4⟩, ⟨b1, b2, b3, b4⟩⟩ := ih (i + 1) (by omega)
    have A : i ≤ sk s i ∧ (i ≤ s.size → sk s i ≤ s.size) ∧ blk (gt s (sk s i)) = false ∧ gt s (sk s i) ≠ 35 := by
      by_cases hp : blk (gt s i) = true
      · rw [sk_blk hi hp]; exact ⟨by omega, fun _ => a2 (by omega), a3, a4⟩
      · by_cases hh : gt s i = 35
        · rw [sk_hash0 hh]; exact ⟨by omega, fun _ => b2 (by omega), b3, b4⟩
        · rw [sk_stop (by simpa using hp) hh]; exact ⟨Nat.le_refl _, id, by simpa using hp, hh⟩
    refine ⟨A, ?_⟩
    by_cases hn : gt s i = 10
    · rw [skT_nl hn]; exact A
    · rw [skT_go hi hn]; exact ⟨by omega, fun _ => b2 (by omega), b3, b4⟩
theorem sk_spec (s : ByteArray) (i : Nat) : i ≤ sk s i ∧ (i ≤ s.size → sk s i ≤ s.size) ∧ blk (gt s (sk s i)) = false ∧ gt s (sk s i) ≠ 35 := (sk_two s _ i rfl).1
theorem sk_idem (s : ByteArray) (i : Nat) : sk s (sk s i) = sk s i := sk_stop (sk_spec s i).2.2.1 (sk_spec s i).2.2.2

def KW : List ByteArray := [⟨#[97, 110, 100]⟩, ⟨#[98, 111, 111, 108]⟩, ⟨#[98, 111, 116, 116, 111, 109]⟩, ⟨#[99, 108, 111, 115, 101, 100]⟩, ⟨#[99, 111, 110, 102, 108, 105, 99, 116]⟩, ⟨#[101, 108, 115, 101]⟩, ⟨#[102, 97, 108, 115, 101]⟩, ⟨#[102, 105, 114, 115, 116]⟩, ⟨#[102, 108, 97, 103]⟩, ⟨#[102, 108, 97, 116]⟩, ⟨#[105, 102]⟩, ⟨#[105, 110]⟩, ⟨#[105, 110, 116]⟩, ⟨#[106, 111, 105, 110]⟩, ⟨#[107, 101, 121, 115]⟩, ⟨#[108, 97, 116, 116, 105, 99, 101]⟩, ⟨#[108, 101, 113]⟩, ⟨#[108, 101, 120]⟩, ⟨#[109, 97, 112]⟩, ⟨#[109, 97, 120]⟩, ⟨#[109, 105, 110]⟩, ⟨#[110, 97, 109, 101]⟩, ⟨#[110, 97, 109, 101, 115]⟩, ⟨#[110, 111, 116]⟩, ⟨#[110, 117, 109]⟩, ⟨#[110, 117, 109, 98, 101, 114]⟩, ⟨#[111, 98, 106, 101, 99, 116]⟩, ⟨#[111, 110]⟩, ⟨#[111, 110, 101]⟩, ⟨#[111, 114]⟩, ⟨#[112, 97, 105, 114]⟩, ⟨#[113, 117, 101, 114, 121]⟩, ⟨#[114, 101, 99]⟩, ⟨#[114, 101, 103, 105, 115, 116, 101, 114]⟩, ⟨#[115]⟩, ⟨#[115, 101, 99, 111, 110, 100]⟩, ⟨#[115, 101, 116]⟩, ⟨#[115, 105, 122, 101]⟩, ⟨#[115, 117, 109]⟩, ⟨#[116, 104, 101, 110]⟩, ⟨#[116, 114, 117, 101]⟩, ⟨#[117, 112, 100, 97, 116, 101]⟩, ⟨#[118, 97, 108, 117, 101, 115]⟩, ⟨#[119, 114, 105, 116, 101]⟩]
def SG : List ByteArray := [⟨#[61]⟩, ⟨#[58]⟩, ⟨#[59]⟩, ⟨#[44]⟩, ⟨#[40]⟩, ⟨#[41]⟩, ⟨#[123]⟩, ⟨#[125]⟩, ⟨#[91]⟩, ⟨#[93]⟩, ⟨#[46]⟩, ⟨#[43]⟩, ⟨#[45]⟩, ⟨#[60]⟩, ⟨#[60, 61]⟩, ⟨#[61, 61]⟩, ⟨#[61, 62]⟩]
def SR : List ByteArray := [⟨#[60, 61]⟩, ⟨#[61, 61]⟩, ⟨#[61, 62]⟩, ⟨#[61]⟩, ⟨#[58]⟩, ⟨#[59]⟩, ⟨#[44]⟩, ⟨#[40]⟩, ⟨#[41]⟩, ⟨#[123]⟩, ⟨#[125]⟩, ⟨#[91]⟩, ⟨#[93]⟩, ⟨#[46]⟩, ⟨#[43]⟩, ⟨#[45]⟩, ⟨#[60]⟩]
/-- A string is one of a list. -/
def among (l : List ByteArray) (s : ByteArray) : Bool := l.any fun x => decide (x = s)
theorem among_iff {l : List ByteArray} {s : ByteArray} : among l s = true ↔ s ∈ l := by
  simp [among]
def kw (s : ByteArray) : Bool := among KW s
def sgn (s : ByteArray) : Bool := among SG s
theorem sgn_eq (s : ByteArray) : among SR s = sgn s := by
  rw [sgn, Bool.eq_iff_iff, among_iff, among_iff]
  simp only [SR, SG, List.mem_cons, List.not_mem_nil, or_false]
  constructor <;> intro h <;> rcases h with h | h | h | h | h | h | h | h | h | h | h | h | h | h | h | h | h <;> simp [h]
def we (s : ByteArray) (i : Nat) : Nat := runF inw s i
def de (s : ByteArray) (i : Nat) : Nat := runF dig s i
/-- The number of a row of digits. -/
def numF (l : List UInt8) : Nat := l.foldl (fun a c => 10 * a + (c.toNat - 48)) 0
def numS (s : ByteArray) : Nat := numF s.data.toList
/-- A token, or the code of a fault. -/
structure Got where
  kind : Int
  text : ByteArray
  n : Int
  stop : Nat
  code : Int
def bad (c : Int) : Got := ⟨0, ⟨#[]⟩, 0, 0, c⟩
def wordF (s : ByteArray) (j : Nat) : Got :=
  if 16 < we s j - j then bad 3 else if kw (s.extract j (we s j)) = true then ⟨2, s.extract j (we s j), 0, we s j, 0⟩ else ⟨1, s.extract j (we s j), 0, we s j, 0⟩
def intF (s : ByteArray) (j : Nat) : Got :=
  if gt s j = 48 ∧ 1 < de s j - j then bad 2 else if 1000000000000000 < numS (s.extract j (de s j)) then bad 5 else ⟨3, ⟨#[]⟩, numS (s.extract j (de s j)), de s j, 0⟩
def quoF (s : ByteArray) (j : Nat) : Got :=
  if gt s (we s (j + 1)) ≠ 39 then bad 2 else if isName (strBytes (s.extract (j + 1) (we s (j + 1)))) = false then bad 3 else ⟨4, s.extract (j + 1) (we s (j + 1)), 0, we s (j + 1) + 1, 0⟩
def sigF (s : ByteArray) (j : Nat) : Got :=
  if 2 ≤ s.size - j ∧ sgn (s.extract j (j + 2)) = true then ⟨5, s.extract j (j + 2), 0, j + 2, 0⟩ else if sgn (s.extract j (j + 1)) = true then ⟨5, s.extract j (j + 1), 0, j + 1, 0⟩ else bad 2
/-- The token that begins at a place of the source. -/
def tokF (s : ByteArray) (j : Nat) : Got :=
  if isl (gt s j) = true then wordF s j else if dig (gt s j) = true then intF s j else if gt s j = 39 then quoF s j else sigF s j
/-- The first token from a place on. -/
def nextF (s : ByteArray) (i : Nat) : Got := if sk s i = s.size then ⟨6, ⟨#[]⟩, 0, s.size, 0⟩ else tokF s (sk s i)
structure Tok where
  kind : Int
  text : ByteArray
  n : Int
  place : Nat
/-- All tokens from a place on: the tokens, a code and the place of a fault. -/
def lexN (s : ByteArray) : Nat → Nat → List Tok × Int × Nat
  | 0, _ => ([], 2, 0)
  | d + 1, i =>
    if (nextF s i).code ≠ 0 then ([], (nextF s i).code, sk s i)
    else if (nextF s i).kind = 6 then ([⟨6, ⟨#[]⟩, 0, sk s i⟩], 0, 0)
    else if (lexN s d (nextF s i).stop).2.1 ≠ 0 then ([], (lexN s d (nextF s i).stop).2)
    else (⟨(nextF s i).kind, (nextF s i).text, (nextF s i).n, sk s i⟩ :: (lexN s d (nextF s i).stop).1, 0, 0)
def lexF (s : ByteArray) : List Tok × Int × Nat := lexN s (s.size + 1) 0
theorem run_gt {p : Int → Bool} {s : ByteArray} {j : Nat} (hp : p (gt s j) = true) (hj : j < s.size) : j < runF p s j := by
  rw [runF_go hj hp]; have := run_ge p s (j + 1); omega
/-- A token that is no end moves on, and ends within the source. -/
theorem tok_stop {s : ByteArray} {j : Nat} (hj : j < s.size) (h : (tokF s j).code = 0) : j < (tokF s j).stop ∧ (tokF s j).stop ≤ s.size ∧ 1 ≤ (tokF s j).kind ∧ (tokF s j).kind ≤ 5 := by
  unfold tokF at h ⊢
  split at h
  · rename_i h1
    rw [if_pos h1]
    have hp : inw (gt s j) = true := by simp [inw, h1]
    have g1 := run_gt hp hj
    have g2 := run_le (p := inw) (Nat.le_of_lt hj)
    unfold wordF at h ⊢
    split at h
    · simp [bad] at h
    · rename_i h2
      rw [if_neg h2]
      split <;> exact ⟨g1, g2, by simp, by simp⟩
  · rename_i h1
    rw [if_neg h1]
    split at h
    · rename_i h2
      rw [if_pos h2]
      have g1 := run_gt h2 hj
      have g2 := run_le (p := dig) (Nat.le_of_lt hj)
      unfold intF at h ⊢
      split at h
      · simp [bad] at h
      · rename_i h3
        rw [if_neg h3]
        split at h
        · simp [bad] at h
        · rename_i h4
          rw [if_neg h4]
          exact ⟨g1, g2, by simp, by simp⟩
    · rename_i h2
      rw [if_neg h2]
      split at h
      · rename_i h3
        rw [if_pos h3]
        unfold quoF at h ⊢
        split at h
        · simp [bad] at h
        · rename_i h4
          rw [if_neg h4]
          split at h
          · simp [bad] at h
          · rename_i h5
            rw [if_neg h5]
            have g1 := run_ge inw s (j + 1)
            have g2 := gt_in (s := s) (i := we s (j + 1)) (by simp only [Decidable.not_not] at h4; omega)
            exact ⟨by show j < we s (j + 1) + 1; unfold we; omega, by show we s (j + 1) + 1 ≤ s.size; omega, by simp, by simp⟩
      · rename_i h3
        rw [if_neg h3]
        unfold sigF at h ⊢
        split
        · rename_i h4
          exact ⟨by show j < j + 2; omega, by show j + 2 ≤ s.size; omega, by simp, by simp⟩
        · rename_i h4
          rw [if_neg h4] at h
          split
          · exact ⟨by show j < j + 1; omega, by show j + 1 ≤ s.size; omega, by simp, by simp⟩
          · rename_i h5
            rw [if_neg h5] at h
            simp [bad] at h
end Go.Proofs.YtdmjlmlmdllhgaaDoor
