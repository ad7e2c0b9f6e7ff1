/- All tokens of a source, one after the other: plain mathematics. No condition. -/
import Derived.Test.YtdmjlmlmdllhgaaDoorLexMath
namespace Go.Proofs.YtdmjlmlmdllhgaaDoor

/-- A token in front of what follows. -/
def pre (t : Tok) (r : List Tok × Int × Nat) : List Tok × Int × Nat := if r.2.1 ≠ 0 then ([], r.2) else (t :: r.1, 0, 0)
/-- Tokens in front of what follows. -/
def pres (l : List Tok) (r : List Tok × Int × Nat) : List Tok × Int × Nat := if r.2.1 ≠ 0 then ([], r.2) else (l ++ r.1, 0, 0)
def tkOf (s : ByteArray) (i : Nat) : Tok := ⟨(nextF s i).kind, (nextF s i).text, (nextF s i).n, sk s i⟩
section
variable {s : ByteArray} {i : Nat}
theorem next_end (h : sk s i = s.size) : nextF s i = ⟨6, ⟨#[]⟩, 0, s.size, 0⟩ := by rw [nextF, if_pos h]
theorem next_tok (h : sk s i ≠ s.size) : nextF s i = tokF s (sk s i) := by rw [nextF, if_neg h]
theorem sk_lt (hi : i ≤ s.size) (h : sk s i ≠ s.size) : sk s i < s.size := by
  have := (sk_spec s i).2.1 hi; omega
theorem next_stop (hi : i ≤ s.size) (h : sk s i ≠ s.size) (hc : (nextF s i).code = 0) : i < (nextF s i).stop ∧ sk s i < (nextF s i).stop ∧ (nextF s i).stop ≤ s.size ∧ 1 ≤ (nextF s i).kind ∧ (nextF s i).kind ≤ 5 := by
  rw [next_tok h] at hc ⊢
  have := tok_stop (sk_lt hi h) hc
  have := (sk_spec s i).1
  omega
theorem next_six (hi : i ≤ s.size) (hc : (nextF s i).code = 0) : (nextF s i).kind = 6 ↔ sk s i = s.size := by
  constructor
  · intro h
    by_cases h2 : sk s i = s.size
    · exact h2
    · have := (next_stop hi h2 hc).2.2.2.2; omega
  · intro h; rw [next_end h]
end
theorem lexN_bad {s : ByteArray} {i d : Nat} (hc : (nextF s i).code ≠ 0) : lexN s (d + 1) i = ([], (nextF s i).code, sk s i) := by rw [lexN, if_pos hc]
theorem lexN_end {s : ByteArray} {i d : Nat} (h : sk s i = s.size) : lexN s (d + 1) i = ([⟨6, ⟨#[]⟩, 0, s.size⟩], 0, 0) := by
  rw [lexN, next_end h, if_neg (by simp), if_pos rfl, h]
theorem lexN_tok {s : ByteArray} {i d : Nat} (hi : i ≤ s.size) (h : sk s i ≠ s.size) (hc : (nextF s i).code = 0) : lexN s (d + 1) i = pre (tkOf s i) (lexN s d (nextF s i).stop) := by
  rw [lexN, if_neg (by simp [hc]), if_neg (by rw [next_six hi hc]; exact h)]
  rfl
theorem lexN_fuel (s : ByteArray) : ∀ d e i, i ≤ s.size → s.size - i < d → s.size - i < e → lexN s d i = lexN s e i := by
  intro d; induction d with
  | zero => intro e i h1 h2; omega
  | succ d ih =>
    intro e i h1 h2 h3
    obtain ⟨e, rfl⟩ : ∃ f, e = f + 1 := ⟨e - 1, by omega⟩
    by_cases hc : (nextF s i).code = 0
    · by_cases h : sk s i = s.size
      · rw [lexN_end h, lexN_end h]
      · rw [lexN_tok h1 h hc, lexN_tok h1 h hc]
        have := next_stop h1 h hc
        rw [ih e _ (by omega) (by omega) (by omega)]
    · rw [lexN_bad hc, lexN_bad hc]
/-- All tokens from a place on. -/
def Lx (s : ByteArray) (i : Nat) : List Tok × Int × Nat := lexN s (s.size - i + 1) i
theorem lexF_eq (s : ByteArray) : lexF s = Lx s 0 := by rw [lexF, Lx, Nat.sub_zero]
section
variable {s : ByteArray} {i : Nat}
theorem lx_bad (hc : (nextF s i).code ≠ 0) : Lx s i = ([], (nextF s i).code, sk s i) := lexN_bad hc
theorem lx_end (h : sk s i = s.size) : Lx s i = ([⟨6, ⟨#[]⟩, 0, s.size⟩], 0, 0) := lexN_end h
theorem lx_tok (hi : i ≤ s.size) (h : sk s i ≠ s.size) (hc : (nextF s i).code = 0) : Lx s i = pre (tkOf s i) (Lx s (nextF s i).stop) := by
  rw [Lx, lexN_tok hi h hc, Lx]
  have := next_stop hi h hc
  rw [lexN_fuel s _ (s.size - (nextF s i).stop + 1) _ (by omega) (by omega) (by omega)]
end
theorem lx_ok (s : ByteArray) : ∀ d i, s.size - i = d → i ≤ s.size → ((Lx s i).2.1 = 0 → (Lx s i).2.2 = 0) ∧ ((Lx s i).2.1 ≠ 0 → (Lx s i).1 = [] ∧ i ≤ (Lx s i).2.2 ∧ (Lx s i).2.2 < s.size) ∧ ((Lx s i).2.1 = 0 → (Lx s i).1 ≠ [] ∧ (Lx s i).1.length ≤ s.size - i + 1) := by
  intro d
  induction d using Nat.strongRecOn with
  | _ d ih =>
    intro i hd hi
    by_cases hc : (nextF s i).code = 0
    · by_cases h : sk s i = s.size
      · rw [lx_end h]
        exact ⟨fun _ => rfl, fun h2 => absurd rfl h2, fun _ => ⟨by simp, by simp⟩⟩
      · have hs := next_stop hi h hc
        obtain ⟨a1, a2, a3⟩ := ih (s.size - (nextF s i).stop) (by omega) (nextF s i).stop rfl (by omega)
        rw [lx_tok hi h hc, pre]
        split
        · rename_i h2
          have := a2 h2
          exact ⟨fun h3 => absurd h3 h2, fun _ => ⟨rfl, by show i ≤ (Lx s (nextF s i).stop).2.2; omega, this.2.2⟩, fun h3 => absurd h3 h2⟩
        · rename_i h2
          have := a3 (by simpa using h2)
          exact ⟨fun _ => rfl, fun h3 => absurd rfl h3, fun _ => ⟨by simp, by simp only [List.length_cons]; omega⟩⟩
    · rw [lx_bad hc]
      have h : sk s i ≠ s.size := fun h => hc (by rw [next_end h])
      exact ⟨fun h2 => absurd h2 hc, fun _ => ⟨rfl, (sk_spec s i).1, sk_lt hi h⟩, fun h2 => absurd h2 hc⟩
theorem pres_nil (r : List Tok × Int × Nat) (h : r.2.1 ≠ 0 → r.1 = []) (h2 : r.2.1 = 0 → r.2.2 = 0) : pres [] r = r := by
  obtain ⟨l, c, p⟩ := r
  unfold pres
  split
  · rename_i h3; have := h h3; simp at this; rw [this]
  · rename_i h3; simp at h3; have := h2 h3; simp at this; rw [this, h3]; rfl
theorem pres_pre (l : List Tok) (t : Tok) (r : List Tok × Int × Nat) : pres l (pre t r) = pres (l ++ [t]) r := by
  unfold pres pre
  by_cases h : r.2.1 ≠ 0
  · simp [h]
  · simp [h]
end Go.Proofs.YtdmjlmlmdllhgaaDoor
