/- Permutations: exchanges, ranks by Lehmer's code, and their inverse. No condition. -/
import Derived.Test.YtpmajdgabpmooaaRanMath
namespace Go.Proofs.Ytpmajdgabpmooaa

/-- An exchange of two elements. -/
def swapN (l : List Nat) (i j : Nat) : List Nat := (l.set i (l.getD j 0)).set j (l.getD i 0)
theorem swapN_length (l : List Nat) (i j : Nat) : (swapN l i j).length = l.length := by simp [swapN]
def tauN (i j a : Nat) : Nat := if a = j then i else if a = i then j else a
theorem swapN_at {l : List Nat} {i j a : Nat} (hi : i < l.length) (hj : j < l.length) (ha : a < l.length) : (swapN l i j).getD a 0 = l.getD (tauN i j a) 0 := by
  unfold swapN tauN
  simp only [List.getD_eq_getElem?_getD, List.getElem?_set, List.length_set]
  by_cases h1 : a = j
  · subst h1; simp [ha]
  · by_cases h2 : a = i
    · subst h2; simp [h1, ha, Ne.symm h1]
    · simp [h1, h2, Ne.symm h1, Ne.symm h2]
/-- l is a permutation of 0 to n - 1. -/
def PermF (l : List Nat) (n : Nat) : Prop := l.length = n ∧ (∀ a, a < n → l.getD a 0 < n) ∧ ∀ a b, a < n → b < n → l.getD a 0 = l.getD b 0 → a = b
theorem permF_range (n : Nat) : PermF (List.range n) n := by
  refine ⟨by simp, fun a ha => by simp [List.getD, ha], fun a b ha hb h => by simpa [List.getD, ha, hb] using h⟩
theorem tauN_lt {n i j a : Nat} (hi : i < n) (hj : j < n) (ha : a < n) : tauN i j a < n := by unfold tauN; split <;> (try split) <;> omega
theorem tauN_inj {i j a b : Nat} (h : tauN i j a = tauN i j b) : a = b := by
  unfold tauN at h; split at h <;> split at h <;> (try split at h) <;> (try split at h) <;> omega
theorem permF_swap {l : List Nat} {n i j : Nat} (h : PermF l n) (hi : i < n) (hj : j < n) : PermF (swapN l i j) n := by
  obtain ⟨h1, h2, h3⟩ := h
  subst h1
  refine ⟨swapN_length _ _ _, fun a ha => ?_, fun a b ha hb e => ?_⟩
  · rw [swapN_at hi hj ha]; exact h2 _ (tauN_lt hi hj ha)
  · rw [swapN_at hi hj ha, swapN_at hi hj hb] at e
    exact tauN_inj (h3 _ _ (tauN_lt hi hj ha) (tauN_lt hi hj hb) e)
/-- The list behind k exchanges. -/
def shufN (seed n : Nat) : Nat → List Nat
  | 0 => List.range n
  | k + 1 => swapN (shufN seed n k) (n - 1 - k) (highN (mixN (atN seed (k + 1))) (n - 1 - k + 1))
theorem shufN_length (seed n : Nat) : ∀ k, (shufN seed n k).length = n := by
  intro k; induction k with
  | zero => simp [shufN]
  | succ k ih => rw [shufN, swapN_length, ih]
theorem shuf_other {seed n k : Nat} : highN (mixN (atN seed (k + 1))) (n - 1 - k + 1) < n - 1 - k + 1 := highN_lt (mixN_lt _) (by omega)
theorem shufN_perm (seed n : Nat) : ∀ k, k < n → PermF (shufN seed n k) n := by
  intro k; induction k with
  | zero => intro _; exact permF_range n
  | succ k ih =>
    intro h
    refine permF_swap (ih (by omega)) (by omega) ?_
    have := shuf_other (seed := seed) (n := n) (k := k)
    omega
theorem shufN_zero (seed : Nat) : shufN seed 0 0 = [] := rfl
end Go.Proofs.Ytpmajdgabpmooaa
