/- Ranks of increasing lists, and their inverse: plain mathematics. No condition. -/
import Derived.Test.YtpmajdgabpmooaaRanChoose
import Derived.Test.YtpmajdgabpmooaaRanRank
namespace Go.Proofs.Ytpmajdgabpmooaa

/-- l is strictly increasing, with elements from `v` to n - 1. -/
def incL (n : Nat) : Nat → List Nat → Prop
  | _, [] => True
  | v, a :: l => v ≤ a ∧ a < n ∧ incL n (a + 1) l
/-- The number of lists that begin with v to a - 1 in the place of a, for lists of k elements more. -/
def sumC (n k v : Nat) : Nat → Nat
  | 0 => 0
  | j + 1 => sumC n k v j + chN (n - 1 - (v + j)) k
def rs (n : Nat) : Nat → List Nat → Nat
  | _, [] => 0
  | v, a :: l => sumC n l.length v (a - v) + rs n (a + 1) l
theorem sumC_tele (n k v : Nat) : ∀ j, v + j ≤ n → sumC n k v j + chN (n - (v + j)) (k + 1) = chN (n - v) (k + 1) := by
  intro j; induction j with
  | zero => intro _; simp [sumC]
  | succ j ih =>
    intro h
    have h1 := ih (by omega)
    have e : n - (v + j) = (n - (v + (j + 1))) + 1 := by omega
    rw [e, chN_succ] at h1
    rw [sumC, show n - 1 - (v + j) = n - (v + (j + 1)) by omega]
    omega
theorem incL_length : ∀ l n v, incL n v l → v ≤ n → l.length ≤ n - v := by
  intro l; induction l with
  | nil => intro n v _ _; simp
  | cons a l ih =>
    intro n v h hv
    obtain ⟨h1, h2, h3⟩ := h
    have := ih n (a + 1) h3 (by omega)
    rw [List.length_cons]; omega
theorem rs_lt : ∀ l n v, incL n v l → v ≤ n → rs n v l < chN (n - v) l.length := by
  intro l; induction l with
  | nil => intro n v _ _; rw [rs, List.length_nil, chN_zero]; omega
  | cons a l ih =>
    intro n v h hv
    obtain ⟨h1, h2, h3⟩ := h
    have h4 := ih n (a + 1) h3 (by omega)
    have h5 := sumC_tele n l.length v (a - v) (by omega)
    rw [show v + (a - v) = a by omega] at h5
    have e : chN (n - a) (l.length + 1) = chN (n - (a + 1)) l.length + chN (n - (a + 1)) (l.length + 1) := by
      rw [show n - a = (n - (a + 1)) + 1 by omega, chN_succ]
    rw [rs, List.length_cons]
    omega
theorem chN_mono {k : Nat} : ∀ {m n : Nat}, m ≤ n → chN m k ≤ chN n k := by
  intro m n h
  induction h with
  | refl => exact Nat.le_refl _
  | step h ih =>
    refine Nat.le_trans ih ?_
    cases k with
    | zero => rw [chN_zero, chN_zero]; omega
    | succ k => rw [chN_succ]; omega
theorem rs_less : ∀ l m n v, incL n v l → incL n v m → v ≤ n → l.length = m.length → (rs n v l < rs n v m ↔ lessN l m) := by
  intro l; induction l with
  | nil =>
    intro m n v _ _ _ h
    cases m with
    | nil => simp [rs, lessN]
    | cons b m => simp at h
  | cons a l ih =>
    intro m n v hl hm hv h
    cases m with
    | nil => simp at h
    | cons b m =>
      have hlen : l.length = m.length := by simpa using h
      obtain ⟨l1, l2, l3⟩ := hl
      obtain ⟨m1, m2, m3⟩ := hm
      have key : ∀ (a b : Nat) (l m : List Nat), v ≤ a → a < n → b < n → a < b → incL n (a + 1) l → l.length = m.length → sumC n l.length v (a - v) + rs n (a + 1) l < sumC n m.length v (b - v) + rs n (b + 1) m := by
        intro a b l m ha han hbn hab hl hlen
        have r1 := rs_lt l n (a + 1) hl (by omega)
        have s1 := sumC_tele n l.length v (a - v) (by omega)
        have s2 := sumC_tele n l.length v (b - v) (by omega)
        rw [show v + (a - v) = a by omega] at s1
        rw [show v + (b - v) = b by omega] at s2
        have e : chN (n - a) (l.length + 1) = chN (n - (a + 1)) l.length + chN (n - (a + 1)) (l.length + 1) := by
          rw [show n - a = (n - (a + 1)) + 1 by omega, chN_succ]
        have h3 : chN (n - b) (l.length + 1) ≤ chN (n - (a + 1)) (l.length + 1) := chN_mono (by omega)
        rw [← hlen]
        omega
      rw [rs, rs, lessN]
      rcases Nat.lt_trichotomy a b with hab | hab | hab
      · have := key a b l m l1 l2 m2 hab l3 hlen
        exact ⟨fun _ => .inl hab, fun _ => this⟩
      · subst hab
        have := ih m n (a + 1) l3 m3 (by omega) hlen
        rw [← hlen]
        constructor
        · intro h; exact .inr ⟨rfl, this.1 (by omega)⟩
        · intro h
          rcases h with h | ⟨_, h⟩
          · omega
          · have := this.2 h; omega
      · have := key b a m l m1 m2 l2 hab m3 hlen.symm
        exact ⟨fun h => by omega, fun h => by rcases h with h | ⟨h, _⟩ <;> omega⟩

/-- Unranking, as the loop does: elements v, v + 1, .. (d of them left), k elements wanted. -/
def unS (n : Nat) : Nat → Nat → Nat → Nat → List Nat
  | 0, _, _, _ => []
  | d + 1, v, k, r => match k with
    | 0 => unS n d (v + 1) 0 r
    | k + 1 => if r < chN (n - 1 - v) k then v :: unS n d (v + 1) k r else unS n d (v + 1) (k + 1) (r - chN (n - 1 - v) k)
theorem unS_zero (n : Nat) : ∀ d v r, unS n d v 0 r = [] := by
  intro d; induction d with
  | zero => intro _ _; rfl
  | succ d ih => intro v r; rw [unS]; exact ih _ _
theorem sumC_shift (n k v : Nat) : ∀ j, sumC n k v (j + 1) = chN (n - 1 - v) k + sumC n k (v + 1) j := by
  intro j; induction j with
  | zero => simp [sumC]
  | succ j ih => rw [sumC, ih, sumC, show v + (j + 1) = v + 1 + j by omega]; omega
theorem unS_rs : ∀ d n v l, v + d = n → incL n v l → unS n d v l.length (rs n v l) = l := by
  intro d; induction d with
  | zero =>
    intro n v l h hl
    have := incL_length l n v hl (by omega)
    have : l = [] := List.eq_nil_of_length_eq_zero (by omega)
    subst this; rfl
  | succ d ih =>
    intro n v l h hl
    cases l with
    | nil => rw [List.length_nil]; exact unS_zero _ _ _ _
    | cons a l =>
      obtain ⟨h1, h2, h3⟩ := hl
      rw [List.length_cons, unS, rs]
      by_cases e : a = v
      · subst e
        have hr := rs_lt l n (a + 1) h3 (by omega)
        rw [Nat.sub_self, sumC, Nat.zero_add, if_pos (by rw [show n - 1 - a = n - (a + 1) by omega]; exact hr)]
        rw [ih n (a + 1) l (by omega) h3]
      · obtain ⟨j, hj⟩ : ∃ j, a - v = j + 1 := ⟨a - v - 1, by omega⟩
        rw [hj, sumC_shift, if_neg (by omega)]
        have e2 : chN (n - 1 - v) l.length + sumC n l.length (v + 1) j + rs n (a + 1) l - chN (n - 1 - v) l.length = rs n (v + 1) (a :: l) := by
          rw [rs, show a - (v + 1) = j by omega]; omega
        rw [e2]
        exact ih n (v + 1) (a :: l) (by omega) ⟨by omega, h2, h3⟩
theorem rs_unS : ∀ d n v k r, v + d = n → r < chN (n - v) k → incL n v (unS n d v k r) ∧ (unS n d v k r).length = k ∧ rs n v (unS n d v k r) = r := by
  intro d; induction d with
  | zero =>
    intro n v k r h hr
    cases k with
    | zero => rw [chN_zero] at hr; exact ⟨trivial, rfl, by simp only [unS, rs]; omega⟩
    | succ k => rw [chN_gt _ _ (by omega)] at hr; omega
  | succ d ih =>
    intro n v k r h hr
    cases k with
    | zero =>
      rw [unS_zero]; rw [chN_zero] at hr
      exact ⟨trivial, rfl, by simp only [rs]; omega⟩
    | succ k =>
      rw [unS]
      have e : chN (n - v) (k + 1) = chN (n - 1 - v) k + chN (n - 1 - v) (k + 1) := by
        rw [show n - v = (n - 1 - v) + 1 by omega, chN_succ]
      by_cases hlt : r < chN (n - 1 - v) k
      · rw [if_pos hlt]
        obtain ⟨i1, i2, i3⟩ := ih n (v + 1) k r (by omega) (by rw [show n - (v + 1) = n - 1 - v by omega]; exact hlt)
        exact ⟨⟨Nat.le_refl _, by omega, i1⟩, by rw [List.length_cons, i2], by rw [rs, i3, Nat.sub_self, sumC]; omega⟩
      · rw [if_neg hlt]
        obtain ⟨i1, i2, i3⟩ := ih n (v + 1) (k + 1) (r - chN (n - 1 - v) k) (by omega) (by rw [show n - (v + 1) = n - 1 - v by omega]; omega)
        cases hl : unS n d (v + 1) (k + 1) (r - chN (n - 1 - v) k) with
        | nil => rw [hl] at i2; simp at i2
        | cons a l =>
          rw [hl] at i1 i2 i3
          obtain ⟨j1, j2, j3⟩ := i1
          refine ⟨⟨by omega, j2, j3⟩, i2, ?_⟩
          have hlen : l.length = k := by simpa using i2
          rw [rs] at i3 ⊢
          obtain ⟨j, hj⟩ : ∃ j, a - v = j + 1 := ⟨a - v - 1, by omega⟩
          rw [hj, sumC_shift, hlen]
          rw [show a - (v + 1) = j by omega, hlen] at i3
          omega
end Go.Proofs.Ytpmajdgabpmooaa
