/- What is asked of the parts of a description. Plain mathematics. -/
import Derived.Test.YtoogcafceghdjaaLatMath
namespace Go.Proofs.Ytoogcafceghdjaa
open Go.RowKit

mutual
theorem chkT_mono : ∀ (t : Lat) (d c d' c' : Nat), d' ≤ d → c' ≤ c → (chkT t d c).2 = 0 → (chkT t d' c').2 = 0 ∧ (chkT t d' c').1 + c = (chkT t d c).1 + c'
  | ⟨k, lo, hi, ns, ps, rs⟩, d, c, d', c', hd, hc, h => by
    rw [chkT] at h ⊢
    split at h
    · cases h
    · rename_i h1
      split at h
      · rename_i h2; exact absurd h h2
      · rename_i h2
        have := chkTs_mono ps (d + 1) (c + 1) (d' + 1) (c' + 1) (by omega) (by omega) h
        rw [if_neg (by omega), if_neg h2, chkT, if_neg h1, if_neg h2]
        exact ⟨this.1, by omega⟩
theorem chkTs_mono : ∀ (l : List Lat) (d c d' c' : Nat), d' ≤ d → c' ≤ c → (chkTs l d c).2 = 0 → (chkTs l d' c').2 = 0 ∧ (chkTs l d' c').1 + c = (chkTs l d c).1 + c'
  | [], d, c, d', c', hd, hc, h => by rw [chkTs, chkTs]; exact ⟨rfl, by simp only; omega⟩
  | p :: ps, d, c, d', c', hd, hc, h => by
    rw [chkTs] at h
    split at h
    · rename_i h2; exact absurd h h2
    · rename_i h2
      have h2 := Classical.not_not.1 h2
      have a := chkT_mono p d c d' c' hd hc h2
      have b := chkTs_mono ps d (chkT p d c).1 d' (chkT p d' c').1 hd (by omega) h
      rw [chkTs, if_neg (by rw [a.1]; simp), chkTs, if_neg (by rw [h2]; simp)]
      exact ⟨b.1, by omega⟩
end
mutual
theorem chkT_depth : ∀ (t : Lat) (d c : Nat), (chkT t d c).2 = 0 → depthL t + d ≤ 7
  | ⟨k, lo, hi, ns, ps, rs⟩, d, c, h => by
    rw [chkT] at h
    split at h
    · cases h
    · rename_i h1
      split at h
      · rename_i h2; exact absurd h h2
      · rw [depthL]
        have := chkTs_depth ps (d + 1) (c + 1) h
        omega
theorem chkTs_depth : ∀ (l : List Lat) (d c : Nat), (chkTs l d c).2 = 0 → depthsL l = 0 ∨ depthsL l + d ≤ 7
  | [], d, c, h => .inl (by rw [depthsL])
  | p :: ps, d, c, h => by
    rw [chkTs] at h
    split at h
    · rename_i h2; exact absurd h h2
    · rename_i h2
      have h2 := Classical.not_not.1 h2
      have a := chkT_depth p d c h2
      have b := chkTs_depth ps d _ h
      rw [depthsL]
      omega
end
/-- What is asked of the parts of a description without an error. -/
theorem parts_ok {t : Lat} (h : chkL t = 0) : depthL t ≤ 6 ∧ ∀ p ∈ t.ps, chkL p = 0 ∧ (distL t = true → distL p = true) ∧ (finL t = true → finL p = true) := by
  have hd := chkT_depth t 1 0 h
  have ho := okay_of t 1 0 h
  refine ⟨by omega, fun p hp => ?_⟩
  have h1 := h
  unfold chkL at h1
  rw [chkT_eq] at h1
  split at h1
  · cases h1
  · split at h1
    · rename_i h2; exact absurd h1 h2
    · obtain ⟨c', h3⟩ := chkTs_mem _ _ _ h1 p hp
      refine ⟨?_, fun hq => ?_, fun hq => ?_⟩
      · -- at any place: the place 1, 0
        have : ∀ (l : List Lat) (d c : Nat), (chkTs l d c).2 = 0 → 1 ≤ d → p ∈ l → chkL p = 0 := by
          intro l
          induction l with
          | nil => intro d c _ _ hp; cases hp
          | cons q l ih =>
            intro d c h hd hp
            rw [chkTs] at h
            split at h
            · rename_i h2; exact absurd h h2
            · rename_i h2
              rcases List.mem_cons.1 hp with rfl | hp
              · exact (chkT_mono p d c 1 0 hd (Nat.zero_le _) (Classical.not_not.1 h2)).1
              · exact ih _ _ h hd hp
        exact this t.ps _ _ h1 (by omega) hp
      · obtain ⟨k, lo, hi, ns, ps, rs⟩ := t
        rw [distL] at hq
        split at hq
        · cases hq
        · rw [distsL_all, List.all_eq_true] at hq
          exact hq p hp
      · cases ho with
        | mk h0 _ =>
          have hl := shape_leaf (node_shape h0)
          obtain ⟨k, lo, hi, ns, ps, rs⟩ := t
          simp only [Lat.k, Lat.ps] at hl hp
          rw [finL] at hq
          have hno : ps ≠ [] := fun e => by rw [e] at hp; cases hp
          have hk : ¬(k = 1 ∨ k = 2 ∨ k = 3 ∨ k = 10) := fun e => hno (hl (by omega))
          have hk2 : ¬(k = 4 ∨ k = 8) := fun e => hno (hl (by omega))
          rw [if_neg hk, if_neg hk2] at hq
          split at hq
          · rw [Bool.and_eq_true, finsL_all, List.all_eq_true] at hq
            exact hq.2 p hp
          · split at hq
            · rw [finsL_all, List.all_eq_true] at hq
              exact hq p hp
            · cases hq
end Go.Proofs.Ytoogcafceghdjaa
