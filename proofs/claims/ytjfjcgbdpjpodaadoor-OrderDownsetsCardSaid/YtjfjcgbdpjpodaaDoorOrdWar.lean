/- Mathematics of the closure: it is the least transitive relation with the pairs. No program. -/
import Derived.Test.YtjfjcgbdpjpodaaDoorOrdMath
namespace Go.Proofs.YtjfjcgbdpjpodaaDoor

theorem row_part (via : Nat) (A : Nat → Nat) : ∀ k x, ((List.range k).foldl (wst via) A) x = if x < k ∧ (A x).testBit via = true then A x ||| A via else A x := by
  intro k
  induction k with
  | zero => intro x; simp
  | succ k ih =>
    intro x
    rw [range_foldl_succ]
    generalize hF : (List.range k).foldl (wst via) A = F at ih
    have h1 : F k = A k := by rw [ih]; rw [if_neg (by omega)]
    have h2 : F via = A via := by
      rw [ih]
      split
      · exact Nat.or_self _
      · rfl
    unfold wst
    rw [h1, h2]
    by_cases hk : (A k).testBit via = true
    · rw [if_pos hk]
      by_cases hx : x = k
      · subst hx; rw [upd_same, if_pos ⟨by omega, hk⟩]
      · rw [upd_other _ _ hx, ih]
        by_cases hl : x < k ∧ (A x).testBit via = true
        · rw [if_pos hl, if_pos ⟨by omega, hl.2⟩]
        · rw [if_neg hl, if_neg (fun h => hl ⟨by omega, h.2⟩)]
    · rw [if_neg hk, ih]
      by_cases hl : x < k ∧ (A x).testBit via = true
      · rw [if_pos hl, if_pos ⟨by omega, hl.2⟩]
      · rw [if_neg hl, if_neg (fun h => by
          by_cases hx : x = k
          · subst hx; exact hk h.2
          · exact hl ⟨by omega, h.2⟩)]
theorem row_bit (n : Nat) (A : Nat → Nat) (via a b : Nat) : (row n A via a).testBit b = ((A a).testBit b || (decide (a < n) && (A a).testBit via && (A via).testBit b)) := by
  unfold row
  rw [row_part]
  by_cases h : a < n ∧ (A a).testBit via = true
  · rw [if_pos h, Nat.testBit_or]; simp [h.1, h.2]
  · rw [if_neg h]
    by_cases h1 : a < n
    · have h2 : (A a).testBit via = false := by rw [Bool.eq_false_iff]; exact fun h2 => h ⟨h1, h2⟩
      simp [h2]
    · simp [h1]
/-- The closure after k rounds. -/
def wk (n : Nat) (ps : List (Int × Int)) (k : Nat) : Nat → Nat := (List.range k).foldl (row n) (base ps)
theorem wk_succ (n : Nat) (ps : List (Int × Int)) (k : Nat) : wk n ps (k + 1) = row n (wk n ps k) k := by unfold wk; rw [range_foldl_succ]
theorem wk_full (n : Nat) (ps : List (Int × Int)) : wk n ps n = clo n ps := rfl
theorem base_out {n : Nat} {ps : List (Int × Int)} (h : valid n ps = true) : ∀ x, n ≤ x → base ps x = 0 := by
  refine foldl_inv (fun A : Nat → Nat => ∀ x, n ≤ x → A x = 0) _ _ _ (fun _ _ => rfl) fun A p hp hb x hx => ?_
  obtain ⟨h1, _⟩ := valid_mem h hp
  unfold put1
  rw [upd_other _ _ (by omega)]
  exact hb x hx
theorem wk_out {n : Nat} {ps : List (Int × Int)} (h : valid n ps = true) : ∀ k x, n ≤ x → wk n ps k x = 0 := by
  intro k
  induction k with
  | zero => exact base_out h
  | succ k ih =>
    intro x hx
    rw [wk_succ]
    apply Nat.eq_of_testBit_eq
    intro j
    rw [row_bit, ih x hx]
    simp
theorem bd_wk {n : Nat} (hn : n ≤ 64) {ps : List (Int × Int)} (h : valid n ps = true) (k : Nat) : Bd n (wk n ps k) := foldl_inv (Bd n) _ _ _ (bd_base hn h) fun _ v _ hb => hb.row v
theorem wk_lt {n : Nat} (hn : n ≤ 64) {ps : List (Int × Int)} (h : valid n ps = true) {k a b : Nat} (hb : (wk n ps k a).testBit b = true) : a < n ∧ b < n := by
  refine ⟨?_, (bd_wk hn h k).bit hb⟩
  apply Nat.lt_of_not_le
  intro hle
  rw [wk_out h k a hle] at hb
  simp at hb
theorem wk_step {n : Nat} (hn : n ≤ 64) {ps : List (Int × Int)} (h : valid n ps = true) (k a b : Nat) : (wk n ps (k + 1) a).testBit b = true ↔ (wk n ps k a).testBit b = true ∨ ((wk n ps k a).testBit k = true ∧ (wk n ps k k).testBit b = true) := by
  rw [wk_succ, row_bit]
  constructor
  · intro hb
    simp only [Bool.or_eq_true, Bool.and_eq_true] at hb
    rcases hb with hb | ⟨⟨_, h1⟩, h2⟩
    · exact .inl hb
    · exact .inr ⟨h1, h2⟩
  · intro hb
    simp only [Bool.or_eq_true, Bool.and_eq_true]
    rcases hb with hb | ⟨h1, h2⟩
    · exact .inl hb
    · exact .inr ⟨⟨by simpa using (wk_lt hn h h1).1, h1⟩, h2⟩
theorem wk_trans {n : Nat} (hn : n ≤ 64) {ps : List (Int × Int)} (h : valid n ps = true) : ∀ k c, c < k → ∀ a b, (wk n ps k a).testBit c = true → (wk n ps k c).testBit b = true → (wk n ps k a).testBit b = true := by
  intro k
  induction k with
  | zero => intro c hc; omega
  | succ k ih =>
    intro c hc a b h1 h2
    rw [wk_step hn h] at h1 h2 ⊢
    by_cases hck : c = k
    · subst hck
      have h3 : (wk n ps c a).testBit c = true := by rcases h1 with h1 | ⟨h1, _⟩ <;> exact h1
      have h4 : (wk n ps c c).testBit b = true := by rcases h2 with h2 | ⟨_, h2⟩ <;> exact h2
      exact .inr ⟨h3, h4⟩
    · have hl : c < k := by omega
      rcases h1 with h1 | ⟨h1, h3⟩
      · rcases h2 with h2 | ⟨h2, h4⟩
        · exact .inl (ih c hl a b h1 h2)
        · exact .inr ⟨ih c hl a k h1 h2, h4⟩
      · rcases h2 with h2 | ⟨_, h4⟩
        · exact .inr ⟨h1, ih c hl k b h3 h2⟩
        · exact .inr ⟨h1, h4⟩
theorem clo_lt {n : Nat} (hn : n ≤ 64) {ps : List (Int × Int)} (h : valid n ps = true) {a b : Nat} (hb : (clo n ps a).testBit b = true) : a < n ∧ b < n := wk_lt (k := n) hn h hb
theorem clo_trans {n : Nat} (hn : n ≤ 64) {ps : List (Int × Int)} (h : valid n ps = true) {a b c : Nat} (h1 : (clo n ps a).testBit b = true) (h2 : (clo n ps b).testBit c = true) : (clo n ps a).testBit c = true :=
  wk_trans hn h n b (clo_lt hn h h1).2 a c h1 h2
theorem base_wk {n : Nat} (hn : n ≤ 64) {ps : List (Int × Int)} (h : valid n ps = true) {a b : Nat} (hb : (base ps a).testBit b = true) : ∀ k, (wk n ps k a).testBit b = true
  | 0 => hb
  | k + 1 => (wk_step hn h k a b).2 (.inl (base_wk hn h hb k))
theorem base_clo {n : Nat} (hn : n ≤ 64) {ps : List (Int × Int)} (h : valid n ps = true) {a b : Nat} (hb : (base ps a).testBit b = true) : (clo n ps a).testBit b = true := base_wk hn h hb n
theorem wk_least {n : Nat} (hn : n ≤ 64) {ps : List (Int × Int)} (h : valid n ps = true) (S : Nat → Nat → Prop) (ht : ∀ a b c, S a b → S b c → S a c) (hb : ∀ a b, (base ps a).testBit b = true → S a b) : ∀ k a b, (wk n ps k a).testBit b = true → S a b := by
  intro k
  induction k with
  | zero => exact hb
  | succ k ih =>
    intro a b h1
    rw [wk_step hn h] at h1
    rcases h1 with h1 | ⟨h1, h2⟩
    · exact ih a b h1
    · exact ht a k b (ih a k h1) (ih k b h2)
theorem clo_least {n : Nat} (hn : n ≤ 64) {ps : List (Int × Int)} (h : valid n ps = true) (S : Nat → Nat → Prop) (ht : ∀ a b c, S a b → S b c → S a c) (hb : ∀ a b, (base ps a).testBit b = true → S a b) {a b : Nat} (h1 : (clo n ps a).testBit b = true) : S a b :=
  wk_least hn h S ht hb n a b h1
theorem put1_bitw (A : Nat → Nat) (p : Int × Int) (a b : Nat) (h1 : (p.1.toNat : Int) = p.1) (h2 : (p.2.toNat : Int) = p.2) (h3 : p.2.toNat < 64) : (put1 A p a).testBit b = true ↔ (p = ((a : Int), (b : Int)) ∨ (A a).testBit b = true) := by
  obtain ⟨p1, p2⟩ := p
  simp only at h1 h2 h3
  unfold put1 upd
  simp only [Prod.mk.injEq]
  by_cases h : a = p1.toNat
  · rw [if_pos h, Nat.testBit_or, sg_bit h3, ← h]
    simp only [Bool.or_eq_true, decide_eq_true_eq]
    constructor
    · rintro (h4 | h4)
      · exact .inr h4
      · exact .inl ⟨by omega, by omega⟩
    · rintro (⟨h4, h5⟩ | h4)
      · exact .inr (by omega)
      · exact .inl h4
  · rw [if_neg h]
    constructor
    · exact .inr
    · rintro (⟨h4, h5⟩ | h4)
      · omega
      · exact h4
theorem base_bit {n : Nat} (hn : n ≤ 64) {ps : List (Int × Int)} (h : valid n ps = true) (a b : Nat) : (base ps a).testBit b = true ↔ ((a : Int), (b : Int)) ∈ ps := by
  have key : ∀ (l : List (Int × Int)) (A : Nat → Nat), (∀ p ∈ l, p ∈ ps) → ((l.foldl put1 A a).testBit b = true ↔ (((a : Int), (b : Int)) ∈ l ∨ (A a).testBit b = true)) := by
    intro l
    induction l with
    | nil => intro A _; simp
    | cons p r ih =>
      intro A hp
      obtain ⟨q1, q2, q3, q4⟩ := valid_mem h (hp p (by simp))
      rw [List.foldl_cons, ih _ (fun p hp2 => hp p (by simp [hp2])), put1_bitw A p a b q3 q4 (by omega), List.mem_cons]
      constructor
      · rintro (h1 | h1 | h1)
        · exact .inl (.inr h1)
        · exact .inl (.inl h1.symm)
        · exact .inr h1
      · rintro ((h1 | h1) | h1)
        · exact .inr (.inl h1.symm)
        · exact .inl h1
        · exact .inr (.inr h1)
  unfold base
  rw [key ps _ (fun _ h => h)]
  simp
/-- The last step of a way. -/
theorem clo_last {n : Nat} (hn : n ≤ 64) {ps : List (Int × Int)} (h : valid n ps = true) {a b : Nat} (hb : (clo n ps a).testBit b = true) : ∃ z : Nat, ((z : Int), (b : Int)) ∈ ps ∧ (a = z ∨ (clo n ps a).testBit z = true) := by
  refine clo_least hn h (fun a b => (clo n ps a).testBit b = true ∧ ∃ z : Nat, ((z : Int), (b : Int)) ∈ ps ∧ (a = z ∨ (clo n ps a).testBit z = true)) ?_ ?_ hb |>.2
  · rintro a b c ⟨h1, _⟩ ⟨h2, z, h3, h4⟩
    refine ⟨clo_trans hn h h1 h2, z, h3, .inr ?_⟩
    rcases h4 with rfl | h4
    · exact h1
    · exact clo_trans hn h h1 h4
  · intro a b h1
    exact ⟨base_clo hn h h1, a, (base_bit hn h a b).1 h1, .inl rfl⟩
theorem clo_pair {n : Nat} (hn : n ≤ 64) {ps : List (Int × Int)} (h : valid n ps = true) {a b : Nat} (hp : ((a : Int), (b : Int)) ∈ ps) : (clo n ps a).testBit b = true := base_clo hn h ((base_bit hn h a b).2 hp)
theorem acyc_irr {n : Nat} (hn : n ≤ 64) {ps : List (Int × Int)} (h : valid n ps = true) (hc : acyc n (clo n ps) = true) (a : Nat) : (clo n ps a).testBit a = false := by
  rw [Bool.eq_false_iff]
  intro h1
  unfold acyc at hc
  rw [List.all_eq_true] at hc
  have := hc a (by simpa using (clo_lt hn h h1).1)
  rw [h1] at this
  cases this
end Go.Proofs.YtjfjcgbdpjpodaaDoor
