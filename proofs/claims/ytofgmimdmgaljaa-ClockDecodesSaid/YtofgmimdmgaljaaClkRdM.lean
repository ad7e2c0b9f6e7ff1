/- The reference's reading of numbers of at most eight groups, and Decode with it. No condition. -/
import Derived.Test.YtofgmimdmgaljaaClkIn
namespace Go.Proofs.Ytofgmimdmgaljaa
open Go.RowKit

def rd8 (l : List Int) : Option (Nat × Nat) := Wr.decAt 8 0 0 l
theorem decAt_more : ∀ (f i acc : Nat) (l : List Int) (x : Nat × Nat), Wr.decAt f i acc l = some x → Wr.decAt (f + 1) i acc l = some x := by
  intro f
  induction f with
  | zero => intro i acc l x h; cases h
  | succ f ih =>
    intro i acc l x h
    cases l with
    | nil => cases h
    | cons g r =>
      unfold Wr.decAt at h ⊢
      by_cases hg : 128 ≤ g
      · rw [if_pos hg] at h ⊢; exact ih _ _ _ _ h
      · rw [if_neg hg] at h ⊢; exact h
theorem decAt_big : ∀ (f i acc : Nat) (l : List Int) (n k : Nat), 0 < i + f → (∀ y ∈ l, 0 ≤ y) → Wr.decAt f i acc l = none → Wr.decAt (f + 2) i acc l = some (n, k) → 128 ^ (i + f) ≤ n := by
  intro f
  induction f with
  | zero =>
    intro i acc l n k hi hr _ h
    cases l with
    | nil => cases h
    | cons g r =>
      have hg0 := hr g (by simp)
      unfold Wr.decAt at h
      by_cases hg : 128 ≤ g
      · rw [if_pos hg] at h
        cases r with
        | nil => cases h
        | cons g2 r2 =>
          have hg20 := hr g2 (by simp)
          unfold Wr.decAt at h
          by_cases hg2 : 128 ≤ g2
          · rw [if_pos hg2] at h; cases h
          · rw [if_neg hg2] at h
            split at h
            · rename_i hm
              simp only [Option.some.injEq, Prod.mk.injEq] at h
              unfold Wr.mayEnd at hm
              have hne : g2 ≠ 0 := by
                intro e; subst e; simp at hm
              have h1 : 1 ≤ g2.toNat := by omega
              have h2 : 128 ^ (i + 1) ≤ g2.toNat * 128 ^ (i + 1) := Nat.le_mul_of_pos_left _ h1
              have h3 : 128 ^ i ≤ 128 ^ (i + 1) := Nat.pow_le_pow_right (by omega) (by omega)
              show 128 ^ i ≤ n
              omega
            · cases h
      · rw [if_neg hg] at h
        split at h
        · rename_i hm
          simp only [Option.some.injEq, Prod.mk.injEq] at h
          unfold Wr.mayEnd at hm
          have hne : g ≠ 0 := by
            intro e; subst e; simp at hm; omega
          have h1 : 1 ≤ g.toNat := by omega
          have h2 : 128 ^ i ≤ g.toNat * 128 ^ i := Nat.le_mul_of_pos_left _ h1
          show 128 ^ i ≤ n
          omega
        · cases h
  | succ f ih =>
    intro i acc l n k hi hr h0 h
    cases l with
    | nil => cases h
    | cons g r =>
      rw [show f + 1 + 2 = (f + 2) + 1 from rfl] at h
      unfold Wr.decAt at h h0
      by_cases hg : 128 ≤ g
      · rw [if_pos hg] at h h0
        have := ih (i + 1) _ r n k (by omega) (fun y hy => hr y (by simp [hy])) h0 h
        rw [show i + (f + 1) = i + 1 + f by omega]; exact this
      · rw [if_neg hg] at h h0
        rw [h0] at h; cases h
theorem rd8_some {l : List Int} {x : Nat × Nat} (h : rd8 l = some x) : Wr.dec l = some x := decAt_more 9 0 0 l x (decAt_more 8 0 0 l x h)
theorem rd8_none {l : List Int} (hr : ∀ y ∈ l, 0 ≤ y) {n k : Nat} (h : rd8 l = none) (hd : Wr.dec l = some (n, k)) : 1000000000000000 < n := by
  have := decAt_big 8 0 0 l n k (by omega) hr h hd
  have e : (128 : Nat) ^ (0 + 8) = 72057594037927936 := by decide
  omega
/-- The rounds of the reference's Decode. -/
def rloop (d : List Int) : Nat → Nat → List Tk → Option (List Tk)
  | 0, a, c => if a = d.length ∧ okV c = true then some c else none
  | k + 1, a, c => match rd8 (d.drop a) with
    | none => none
    | some (p, j) => if 63 < p then none else match rd8 (d.drop (a + j)) with
      | none => none
      | some (n, j2) => if 1000000000000000 < n then none else rloop d k (a + j + j2) (c ++ [((p : Int), (n : Int))])
def rdcd (d : List Int) : Option (List Tk) := match rd8 d with
  | none => none
  | some (n, j) => if 64 < n then none else rloop d n j []
theorem drop_pos {d : List Int} (hr : ∀ y ∈ d, 0 ≤ y ∧ y ≤ 255) (a : Nat) : ∀ y ∈ d.drop a, 0 ≤ y := fun y hy => (hr y (List.mem_of_mem_drop hy)).1
theorem rd8_bound {d : List Int} (hr : ∀ y ∈ d, 0 ≤ y ∧ y ≤ 255) {a n k : Nat} (ha : a ≤ d.length) (h : rd8 (d.drop a) = some (n, k)) : 0 < k ∧ a + k ≤ d.length := by
  have := Wr.decl_bound (fun x hx => hr x (List.mem_of_mem_drop hx)) (rd8_some h)
  rw [List.length_drop] at this
  omega
theorem rloop_len {d : List Int} (hr : ∀ y ∈ d, 0 ≤ y ∧ y ≤ 255) : ∀ (k a : Nat) (c x : List Tk), a ≤ d.length → rloop d k a c = some x → a + k ≤ d.length := by
  intro k
  induction k with
  | zero =>
    intro a c x ha h
    omega
  | succ k ih =>
    intro a c x ha h
    unfold rloop at h
    cases h1 : rd8 (d.drop a) with
    | none => simp only [h1] at h; cases h
    | some y =>
      obtain ⟨p, j⟩ := y
      simp only [h1] at h
      have hb1 := rd8_bound hr ha h1
      split at h
      · cases h
      · cases h2 : rd8 (d.drop (a + j)) with
        | none => simp only [h2] at h; cases h
        | some z =>
          obtain ⟨n, j2⟩ := z
          simp only [h2] at h
          have hb2 := rd8_bound hr hb1.2 h2
          split at h
          · cases h
          · have := ih _ _ _ hb2.2 h
            omega
theorem uR_of {d : List Int} {a : Nat} : Wr.uR d (some a) = match Wr.dec (d.drop a) with | some (n, k) => (n, some (a + k)) | none => (0, none) := rfl
theorem dloop_rloop {d : List Int} (hr : ∀ y ∈ d, 0 ≤ y ∧ y ≤ 255) : ∀ (k a : Nat) (c : List Tk), a ≤ d.length → dloop d k (some a) c = rloop d k a c := by
  intro k
  induction k with
  | zero =>
    intro a c _
    show (if Wr.eR d (some a) = 0 ∧ okV c = true then some c else none) = if a = d.length ∧ okV c = true then some c else none
    have : Wr.eR d (some a) = 0 ↔ a = d.length := by
      unfold Wr.eR
      by_cases e : a = d.length <;> simp [e]
    simp only [this]
  | succ k ih =>
    intro a c ha
    show (if 63 < (Wr.uR d (some a)).1 ∨ 1000000000000000 < (Wr.uR d (Wr.uR d (some a)).2).1 then none else dloop d k (Wr.uR d (Wr.uR d (some a)).2).2 (c ++ [(((Wr.uR d (some a)).1 : Int), ((Wr.uR d (Wr.uR d (some a)).2).1 : Int))])) = _
    unfold rloop
    cases hd : Wr.dec (d.drop a) with
    | none =>
      have h8 : rd8 (d.drop a) = none := by
        cases h : rd8 (d.drop a) with
        | none => rfl
        | some x => rw [rd8_some h] at hd; cases hd
      have e1 : Wr.uR d (some a) = (0, none) := by rw [uR_of, hd]
      have e2 : Wr.uR d none = (0, none) := rfl
      simp only [h8, e1, e2]
      rw [if_neg (by omega)]
      exact dloop_dead d _ _
    | some x =>
      obtain ⟨p, j⟩ := x
      have e1 : Wr.uR d (some a) = (p, some (a + j)) := by rw [uR_of, hd]
      simp only [e1]
      cases h8 : rd8 (d.drop a) with
      | none =>
        have := rd8_none (drop_pos hr a) h8 hd
        rw [if_pos (by omega)]
      | some y =>
        have hy := rd8_some h8
        rw [hd] at hy
        simp only [Option.some.injEq] at hy
        subst hy
        have hb := rd8_bound hr ha h8
        simp only
        by_cases hp : 63 < p
        · rw [if_pos (.inl hp), if_pos hp]
        · rw [if_neg hp]
          cases hd2 : Wr.dec (d.drop (a + j)) with
          | none =>
            have h82 : rd8 (d.drop (a + j)) = none := by
              cases h : rd8 (d.drop (a + j)) with
              | none => rfl
              | some x => rw [rd8_some h] at hd2; cases hd2
            have e2 : Wr.uR d (some (a + j)) = (0, none) := by rw [uR_of, hd2]
            simp only [h82, e2]
            rw [if_neg (by omega)]
            exact dloop_dead d _ _
          | some x2 =>
            obtain ⟨n, j2⟩ := x2
            have e2 : Wr.uR d (some (a + j)) = (n, some (a + j + j2)) := by rw [uR_of, hd2]
            simp only [e2]
            cases h82 : rd8 (d.drop (a + j)) with
            | none =>
              have := rd8_none (drop_pos hr _) h82 hd2
              rw [if_pos (.inr this)]
            | some y2 =>
              have hy2 := rd8_some h82
              rw [hd2] at hy2
              simp only [Option.some.injEq] at hy2
              subst hy2
              have hb2 := rd8_bound hr hb.2 h82
              simp only
              by_cases hn : 1000000000000000 < n
              · rw [if_pos (.inr hn), if_pos hn]
              · rw [if_neg (by omega), if_neg hn]
                exact ih _ _ hb2.2
theorem rdcd_eq {d : List Int} (hr : ∀ y ∈ d, 0 ≤ y ∧ y ≤ 255) : rdcd d = dcd d := by
  unfold rdcd dcd
  cases hd : Wr.dec (d.drop 0) with
  | none =>
    have h8 : rd8 d = none := by
      cases h : rd8 d with
      | none => rfl
      | some x => rw [List.drop_zero, rd8_some h] at hd; cases hd
    have hc : Wr.cR d 0 = (0, none) := by simp only [Wr.cR, hd]
    rw [h8, hc]
    simp only
    rw [if_neg (by omega)]
    exact (dloop_dead d _ _).symm
  | some x =>
    obtain ⟨n, j⟩ := x
    cases h8 : rd8 d with
    | none =>
      have hbig := rd8_none (drop_pos hr 0) (show rd8 (d.drop 0) = none from h8) hd
      simp only
      by_cases hl : 0 + j + n ≤ d.length
      · have hc : Wr.cR d 0 = (n, some (0 + j)) := by simp only [Wr.cR, hd, if_pos hl]
        rw [hc, if_pos (by simp only; omega)]
      · have hc : Wr.cR d 0 = (0, none) := by simp only [Wr.cR, hd, if_neg hl]
        rw [hc]
        simp only
        rw [if_neg (by omega)]
        exact (dloop_dead d _ _).symm
    | some y =>
      have hy := rd8_some h8
      rw [List.drop_zero, hy] at hd
      simp only [Option.some.injEq] at hd
      subst hd
      have hd : Wr.dec (d.drop 0) = some (n, j) := hy
      have hb := rd8_bound hr (Nat.zero_le _) (show rd8 (d.drop 0) = some (n, j) from h8)
      simp only
      by_cases hl : 0 + j + n ≤ d.length
      · have hc : Wr.cR d 0 = (n, some (0 + j)) := by simp only [Wr.cR, hd, if_pos hl]
        rw [hc]
        simp only
        by_cases h64 : 64 < n
        · rw [if_pos h64, if_pos h64]
        · rw [if_neg h64, if_neg h64, Nat.zero_add, dloop_rloop hr _ _ _ (by omega)]
      · have hc : Wr.cR d 0 = (0, none) := by simp only [Wr.cR, hd, if_neg hl]
        rw [hc]
        simp only
        rw [if_neg (show ¬ 64 < 0 by omega)]
        rw [dloop_dead]
        by_cases h64 : 64 < n
        · rw [if_pos h64]
        · rw [if_neg h64]
          cases hx : rloop d n j [] with
          | none => rfl
          | some x =>
            have := rloop_len hr n j [] x (by omega) hx
            omega
end Go.Proofs.Ytofgmimdmgaljaa
