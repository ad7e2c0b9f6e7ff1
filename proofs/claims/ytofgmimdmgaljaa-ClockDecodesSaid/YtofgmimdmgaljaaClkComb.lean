/- The walk over two version vectors, mathematically. -/
import Derived.Test.YtofgmimdmgaljaaClkVal
namespace Go.Proofs.Ytofgmimdmgaljaa
open Go.RowKit

theorem cut_spec {a : List Tk} {p : Int} (h : VV a) (hp : ∀ t ∈ a, p ≤ t.1) :
    cutX a p = look a p ∧ VV (cutR a p) ∧ (∀ t ∈ cutR a p, p + 1 ≤ t.1) ∧ (∀ p', p + 1 ≤ p' → look (cutR a p) p' = look a p') ∧ (cutR a p).length ≤ a.length ∧ ((∃ t ∈ a, t.1 = p) → (cutR a p).length < a.length) := by
  cases a with
  | nil => exact ⟨rfl, h, fun t ht => (by cases ht), fun _ _ => rfl, Nat.le_refl _, fun ⟨t, ht, _⟩ => (by cases ht)⟩
  | cons t r =>
    by_cases e : t.1 = p
    · have hx : cutX (t :: r) p = t.2 := if_pos e
      have hr : cutR (t :: r) p = r := if_pos e
      rw [hx, hr]
      refine ⟨?_, h.tail, fun s hs => by have := h.head s hs; omega, fun p' hp' => ?_, by simp, fun _ => by simp⟩
      · show t.2 = if t.1 = p then t.2 else look r p
        rw [if_pos e]
      · show look r p' = if t.1 = p' then t.2 else look r p'
        rw [if_neg (by omega)]
    · have hx : cutX (t :: r) p = 0 := if_neg e
      have hr : cutR (t :: r) p = t :: r := if_neg e
      have hall : ∀ s ∈ t :: r, p + 1 ≤ s.1 := fun s hs => by
        have h1 := hp t (by simp)
        rcases List.mem_cons.1 hs with rfl | hs
        · omega
        · have := h.head s hs; omega
      rw [hx, hr]
      refine ⟨(look_zero _ _ fun s hs => by have := hall s hs; omega).symm, h, hall, fun _ _ => rfl, Nat.le_refl _, fun ⟨s, hs, e2⟩ => by have := hall s hs; omega⟩
theorem first_le {a b : List Tk} (ha : VV a) (hb : VV b) : (∀ t ∈ a, firstP a b ≤ t.1) ∧ (∀ t ∈ b, firstP a b ≤ t.1) := by
  cases a with
  | nil =>
    cases b with
    | nil => exact ⟨fun t h => (by cases h), fun t h => (by cases h)⟩
    | cons s u =>
      refine ⟨fun t h => (by cases h), fun t h => ?_⟩
      simp only [firstP]
      rcases List.mem_cons.1 h with rfl | h
      · omega
      · have := hb.head t h; omega
  | cons t r =>
    cases b with
    | nil =>
      refine ⟨fun s h => ?_, fun t h => (by cases h)⟩
      simp only [firstP]
      rcases List.mem_cons.1 h with rfl | h
      · omega
      · have := ha.head s h; omega
    | cons s u =>
      refine ⟨fun x h => ?_, fun x h => ?_⟩
      · simp only [firstP]
        rcases List.mem_cons.1 h with rfl | h
        · omega
        · have := ha.head x h; omega
      · simp only [firstP]
        rcases List.mem_cons.1 h with rfl | h
        · omega
        · have := hb.head x h; omega
theorem first_in {a b : List Tk} (ha : VV a) (hb : VV b) (h : ¬ (a = [] ∧ b = [])) : (∃ t ∈ a, t.1 = firstP a b) ∨ (∃ t ∈ b, t.1 = firstP a b) := by
  cases a with
  | nil =>
    cases b with
    | nil => exact absurd ⟨rfl, rfl⟩ h
    | cons s u =>
      have := hb.2 s (by simp)
      exact .inr ⟨s, by simp, by simp only [firstP]; omega⟩
  | cons t r =>
    cases b with
    | nil => exact .inl ⟨t, by simp, rfl⟩
    | cons s u =>
      by_cases e : t.1 ≤ s.1
      · exact .inl ⟨t, by simp, by simp only [firstP]; omega⟩
      · exact .inr ⟨s, by simp, by simp only [firstP]; omega⟩

/-- What the walk has come to: the ticks left, the list so far. -/
def CInv (g : Int → Int → Int) (a b a' b' list : List Tk) : Prop :=
  VV a' ∧ VV b' ∧ ∃ q : Nat, q ≤ 64 ∧ (∀ t ∈ a', (q : Int) ≤ t.1) ∧ (∀ t ∈ b', (q : Int) ≤ t.1) ∧ list = canTo (fun p => g (look a p) (look b p)) q ∧ ∀ p : Int, (q : Int) ≤ p → look a p = look a' p ∧ look b p = look b' p
theorem cinv_start (g : Int → Int → Int) {a b : List Tk} (ha : VV a) (hb : VV b) : CInv g a b a b [] :=
  ⟨ha, hb, 0, by omega, fun t h => (ha.2 t h).1, fun t h => (hb.2 t h).1, rfl, fun _ _ => ⟨rfl, rfl⟩⟩
theorem cinv_end {g : Int → Int → Int} (hg : Gd g) {a b list : List Tk} (h : CInv g a b [] [] list) : list = comb g a b := by
  obtain ⟨_, _, q, hq, _, _, e, hl⟩ := h
  rw [e]
  unfold comb can
  obtain ⟨n, hn⟩ : ∃ n, 64 = q + n := ⟨64 - q, by omega⟩
  rw [hn]
  refine (canTo_skip q n fun p h0 _ => ?_).symm
  have := hl p h0
  simp only [look] at this
  show g (look a p) (look b p) ≤ 0
  rw [this.1, this.2, hg.zero]
  exact Int.le_refl _
theorem cinv_len {g : Int → Int → Int} {a b a' b' list : List Tk} (h : CInv g a b a' b' list) : list.length ≤ 64 := by
  obtain ⟨_, _, q, hq, _, _, e, _⟩ := h
  rw [e]
  exact Nat.le_trans (canTo_len q) hq
theorem cinv_step {g : Int → Int → Int} (hg : Gd g) {a b a' b' list : List Tk} (h : CInv g a b a' b' list) (hne : ¬ (a' = [] ∧ b' = [])) :
    0 ≤ cutX a' (firstP a' b') ∧ cutX a' (firstP a' b') ≤ 1000000000000000 ∧ 0 ≤ cutX b' (firstP a' b') ∧ cutX b' (firstP a' b') ≤ 1000000000000000 ∧
    CInv g a b (cutR a' (firstP a' b')) (cutR b' (firstP a' b')) (list ++ (if 0 < g (cutX a' (firstP a' b')) (cutX b' (firstP a' b')) then [(firstP a' b', g (cutX a' (firstP a' b')) (cutX b' (firstP a' b')))] else [])) ∧
    (cutR a' (firstP a' b')).length + (cutR b' (firstP a' b')).length < a'.length + b'.length := by
  obtain ⟨ha, hb, q, hq, qa, qb, e, hl⟩ := h
  obtain ⟨fa, fb⟩ := first_le ha hb
  have fi := first_in ha hb hne
  obtain ⟨p, hp⟩ : ∃ p, p = firstP a' b' := ⟨_, rfl⟩
  rw [← hp] at fa fb fi ⊢
  obtain ⟨xa, va, ga, la, na, na'⟩ := cut_spec ha fa
  obtain ⟨xb, vb, gb, lb, nb, nb'⟩ := cut_spec hb fb
  have hpq : (q : Int) ≤ p ∧ p ≤ 63 := by
    rcases fi with ⟨t, ht, rfl⟩ | ⟨t, ht, rfl⟩
    · exact ⟨qa t ht, (ha.2 t ht).2.1⟩
    · exact ⟨qb t ht, (hb.2 t ht).2.1⟩
  have ba := ha.bd p
  have bb := hb.bd p
  have l0 := hl p hpq.1
  rw [xa, xb]
  refine ⟨ba.1, ba.2, bb.1, bb.2, ⟨va, vb, (p + 1).toNat, by omega, fun t ht => by have := ga t ht; omega, fun t ht => by have := gb t ht; omega, ?_, fun p' h' => ?_⟩, ?_⟩
  · obtain ⟨n, hn⟩ : ∃ n : Nat, p = ((q + n : Nat) : Int) := ⟨(p - q).toNat, by omega⟩
    rw [show (p + 1).toNat = (q + n) + 1 by omega, canTo_succ, ← hn, canTo_skip q n fun p' h0 h1 => ?_, ← e, l0.1, l0.2]
    have h2 := hl p' h0
    show g (look a p') (look b p') ≤ 0
    rw [h2.1, h2.2, look_zero a' p' fun t ht => by have := fa t ht; omega, look_zero b' p' fun t ht => by have := fb t ht; omega, hg.zero]
    exact Int.le_refl _
  · have h2 := hl p' (by omega)
    rw [la p' (by omega), lb p' (by omega)]
    exact h2
  · rcases fi with h1 | h1
    · have := na' h1; omega
    · have := nb' h1; omega
end Go.Proofs.Ytofgmimdmgaljaa
