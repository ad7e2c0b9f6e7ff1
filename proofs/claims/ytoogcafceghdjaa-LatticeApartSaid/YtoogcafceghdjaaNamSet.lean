/- Sets of strings, as lists of lists of bytes: plain mathematics. No condition. -/
import Derived.Sort.LotA
import Derived.Sort.EncStr
namespace Go.Proofs.Ytoogcafceghdjaa

abbrev Str := List UInt8
theorem str_irr (x : Str) : ¬ x < x := List.lt_irrefl x
theorem str_trans {x y z : Str} (h : x < y) (h2 : y < z) : x < z := List.lt_trans h h2
theorem str_tri (x y : Str) : x < y ∨ x = y ∨ y < x := by
  by_cases h1 : x < y
  · exact .inl h1
  · by_cases h2 : y < x
    · exact .inr (.inr h2)
    · exact .inr (.inl (List.le_antisymm (List.not_lt.1 h2) (List.not_lt.1 h1)))
theorem str_asym {x y : Str} (h : x < y) : ¬ y < x := fun h2 => str_irr x (str_trans h h2)
theorem str_le {x y : Str} : x ≤ y ↔ x < y ∨ x = y := by
  rw [← List.not_lt]
  constructor
  · intro h
    rcases str_tri x y with h1 | h1 | h1
    · exact .inl h1
    · exact .inr h1
    · exact absurd h1 h
  · rintro (h | rfl)
    · exact str_asym h
    · exact str_irr x

/-- Strictly increasing. -/
def SS (l : List Str) : Prop := l.Pairwise (· < ·)
theorem SS.nil : SS [] := List.Pairwise.nil
theorem ss_snoc {l : List Str} {x : Str} (h : SS l) (hx : ∀ y ∈ l, y < x) : SS (l ++ [x]) := by
  unfold SS at *
  rw [List.pairwise_append]
  exact ⟨h, List.pairwise_singleton _ _, fun a ha b hb => by rw [List.mem_singleton.1 hb]; exact hx a ha⟩
theorem ss_ext : ∀ {a b : List Str}, SS a → SS b → (∀ x, x ∈ a ↔ x ∈ b) → a = b := by
  intro a; induction a with
  | nil =>
    intro b _ _ h
    cases b with
    | nil => rfl
    | cons y b => have := (h y).2 (by simp); simp at this
  | cons x a ih =>
    intro b ha hb h
    cases b with
    | nil => have := (h x).1 (by simp); simp at this
    | cons y b =>
      have ha' := List.pairwise_cons.1 ha
      have hb' := List.pairwise_cons.1 hb
      have e : x = y := by
        have h1 := (h x).1 (by simp)
        have h2 := (h y).2 (by simp)
        rcases List.mem_cons.1 h1 with h1 | h1
        · exact h1
        · rcases List.mem_cons.1 h2 with h2 | h2
          · exact h2.symm
          · exact absurd (hb'.1 x h1) (str_asym (ha'.1 y h2))
      subst e
      rw [ih ha'.2 hb'.2 (fun z => ?_)]
      constructor
      · intro hz
        rcases List.mem_cons.1 ((h z).1 (List.mem_cons_of_mem _ hz)) with e | hz2
        · subst e; exact absurd (ha'.1 z hz) (str_irr z)
        · exact hz2
      · intro hz
        rcases List.mem_cons.1 ((h z).2 (List.mem_cons_of_mem _ hz)) with e | hz2
        · subst e; exact absurd (hb'.1 z hz) (str_irr z)
        · exact hz2

/-- Of a list: after k elements, those that are greater than the one before. -/
def ddp (a : List Str) : Nat → List Str
  | 0 => []
  | k + 1 => if k = 0 ∨ a.getD (k - 1) [] < a.getD k [] then ddp a k ++ [a.getD k []] else ddp a k
def srt (l : List Str) : List Str := l.mergeSort fun x y => decide (x ≤ y)
def setOf (l : List Str) : List Str := ddp (srt l) l.length
theorem srt_length (l : List Str) : (srt l).length = l.length := by simp [srt]
theorem srt_mem (l : List Str) (x : Str) : x ∈ srt l ↔ x ∈ l := by simp [srt]
theorem srt_pw (l : List Str) : (srt l).Pairwise (· ≤ ·) := by
  have h := List.pairwise_mergeSort (le := fun x y : Str => decide (x ≤ y)) (fun a b c h1 h2 => by
    simp only [decide_eq_true_eq] at *
    exact List.le_trans h1 h2) (fun a b => by
    simp only [Bool.or_eq_true, decide_eq_true_eq]
    rcases str_tri a b with h | h | h
    · exact .inl (str_le.2 (.inl h))
    · exact .inl (str_le.2 (.inr h))
    · exact .inr (str_le.2 (.inl h))) l
  exact h.imp (by simp)
theorem getD_of {l : List Str} {k : Nat} (h : k < l.length) : l.getD k [] = l[k] := by simp [List.getD, h]
theorem pw_get {l : List Str} (h : l.Pairwise (· ≤ ·)) {i j : Nat} (hij : i < j) (hj : j < l.length) : l.getD i [] ≤ l.getD j [] := by
  rw [getD_of hj, getD_of (by omega)]
  exact List.pairwise_iff_getElem.1 h i j (by omega) hj hij
theorem take_snoc' {α : Type} {l : List α} {k : Nat} (h : k < l.length) : l.take (k + 1) = l.take k ++ [l[k]] := List.take_succ_eq_append_getElem h
theorem ddp_spec {a : List Str} (h : a.Pairwise (· ≤ ·)) : ∀ k, k ≤ a.length → SS (ddp a k) ∧ (∀ x, x ∈ ddp a k ↔ x ∈ a.take k) := by
  intro k; induction k with
  | zero => intro _; exact ⟨SS.nil, fun x => by simp [ddp]⟩
  | succ k ih =>
    intro hk
    obtain ⟨h1, h2⟩ := ih (by omega)
    have hkl : k < a.length := by omega
    rw [ddp, take_snoc' hkl]
    by_cases hc : k = 0 ∨ a.getD (k - 1) [] < a.getD k []
    · rw [if_pos hc]
      refine ⟨ss_snoc h1 fun y hy => ?_, fun x => by rw [List.mem_append, List.mem_append, h2, getD_of hkl]⟩
      have hy' := (h2 y).1 hy
      rcases hc with hc | hc
      · subst hc; simp at hy'
      · obtain ⟨j, hj, rfl⟩ := List.mem_iff_getElem.1 hy'
        have hjk : j < k := by simp at hj; omega
        rw [List.getElem_take]
        by_cases e : j = k - 1
        · subst e
          rwa [getD_of (show k - 1 < a.length by omega)] at hc
        · have h3 := pw_get h (show j < k - 1 by omega) (by omega)
          rw [getD_of (show j < a.length by omega)] at h3
          rcases str_le.1 h3 with h4 | h4
          · exact str_trans h4 hc
          · rw [h4]; exact hc
    · rw [if_neg hc]
      refine ⟨h1, fun x => ?_⟩
      rw [h2, List.mem_append, List.mem_singleton]
      constructor
      · exact .inl
      · rintro (hx | hx)
        · exact hx
        · have hk0 : k ≠ 0 := fun e => hc (.inl e)
          have h3 := pw_get h (show k - 1 < k by omega) hkl
          have h4 : a.getD (k - 1) [] = a.getD k [] := by
            rcases str_le.1 h3 with h4 | h4
            · exact absurd (.inr h4) hc
            · exact h4
          rw [hx, ← getD_of hkl, ← h4, getD_of (show k - 1 < a.length by omega)]
          exact List.mem_iff_getElem.2 ⟨k - 1, by simp; omega, by simp⟩
theorem setOf_ss (l : List Str) : SS (setOf l) := (ddp_spec (srt_pw l) l.length (by rw [srt_length]; exact Nat.le_refl _)).1
theorem setOf_mem (l : List Str) (x : Str) : x ∈ setOf l ↔ x ∈ l := by
  rw [setOf, (ddp_spec (srt_pw l) l.length (by rw [srt_length]; exact Nat.le_refl _)).2, List.take_of_length_le (by rw [srt_length]; exact Nat.le_refl _), srt_mem]
theorem setOf_eq {l m : List Str} (h : SS m) (hm : ∀ x, x ∈ m ↔ x ∈ l) : setOf l = m := ss_ext (setOf_ss l) h (fun x => by rw [setOf_mem, hm])
theorem setOf_congr {l m : List Str} (h : ∀ x, x ∈ l ↔ x ∈ m) : setOf l = setOf m := setOf_eq (setOf_ss m) (fun x => by rw [setOf_mem, h])
theorem setOf_self {l : List Str} (h : SS l) : setOf l = l := setOf_eq h (fun _ => Iff.rfl)
theorem setOf_idem (l : List Str) : setOf (setOf l) = setOf l := setOf_self (setOf_ss l)
theorem ss_nodup {l : List Str} (h : SS l) : l.Nodup := h.imp (fun h e => by subst e; exact str_irr _ h)
theorem setOf_le (l : List Str) : (setOf l).length ≤ l.length := by
  have : ∀ k a, (ddp a k).length ≤ k := by
    intro k a; induction k with
    | zero => simp [ddp]
    | succ k ih => rw [ddp]; split
                   · rw [List.length_append]; simp; omega
                   · omega
  exact this _ _
theorem ss_filter {l : List Str} (p : Str → Bool) (h : SS l) : SS (l.filter p) := h.filter p

/-- Insertion into a sorted list. -/
def insS (x : Str) : List Str → List Str
  | [] => [x]
  | y :: l => if x < y then x :: y :: l else y :: insS x l
theorem insS_app (x : Str) : ∀ (p q : List Str), (∀ y ∈ p, y < x) → (∀ y ∈ q, x < y) → insS x (p ++ q) = p ++ x :: q := by
  intro p; induction p with
  | nil =>
    intro q _ hq
    cases q with
    | nil => rfl
    | cons y q => rw [List.nil_append, insS, if_pos (hq y (by simp))]; rfl
  | cons y p ih =>
    intro q hp hq
    rw [List.cons_append, insS, if_neg (str_asym (hp y (by simp))), ih q (fun z hz => hp z (by simp [hz])) hq]; rfl
theorem setOf_snoc_in {l : List Str} {x : Str} (h : x ∈ setOf l) : setOf (l ++ [x]) = setOf l :=
  setOf_congr fun y => by
    rw [List.mem_append, List.mem_singleton]
    exact ⟨fun hy => hy.elim id (fun e => by subst e; exact (setOf_mem l y).1 h), .inl⟩
theorem setOf_snoc_new {l p q : List Str} {x : Str} (h : setOf l = p ++ q) (hp : ∀ y ∈ p, y < x) (hq : ∀ y ∈ q, x < y) : setOf (l ++ [x]) = p ++ x :: q := by
  have hs := setOf_ss l
  rw [h] at hs
  have hs2 := List.pairwise_append.1 hs
  refine setOf_eq ?_ (fun y => ?_)
  · unfold SS
    rw [List.pairwise_append]
    refine ⟨hs2.1, List.pairwise_cons.2 ⟨hq, hs2.2.1⟩, fun a ha b hb => ?_⟩
    rcases List.mem_cons.1 hb with rfl | hb
    · exact hp a ha
    · exact hs2.2.2 a ha b hb
  · have := setOf_mem l y
    rw [h] at this
    rw [List.mem_append, List.mem_cons, List.mem_append, List.mem_singleton, ← this, List.mem_append]
    constructor
    · rintro (h | h | h)
      · exact .inl (.inl h)
      · exact .inr h
      · exact .inl (.inr h)
    · rintro ((h | h) | h)
      · exact .inl h
      · exact .inr (.inr h)
      · exact .inr (.inl h)

/-- The lexicographic comparison of lists, and the comparison of sets. -/
def cmpL : List Str → List Str → Int
  | [], [] => 0
  | [], _ :: _ => -1
  | _ :: _, [] => 1
  | x :: a, y :: b => if x < y then -1 else if y < x then 1 else cmpL a b
def cmpS (a b : List Str) : Int := if a.length < b.length then -1 else if b.length < a.length then 1 else cmpL a b
theorem cmpL_zero : ∀ {a b : List Str}, cmpL a b = 0 ↔ a = b := by
  intro a; induction a with
  | nil => intro b; cases b <;> simp [cmpL]
  | cons x a ih =>
    intro b
    cases b with
    | nil => simp [cmpL]
    | cons y b =>
      rw [cmpL]
      by_cases h1 : x < y
      · rw [if_pos h1]
        exact ⟨fun h => by omega, fun h => by cases h; exact absurd h1 (str_irr x)⟩
      · rw [if_neg h1]
        by_cases h2 : y < x
        · rw [if_pos h2]
          exact ⟨fun h => by omega, fun h => by cases h; exact absurd h2 (str_irr x)⟩
        · rw [if_neg h2, ih]
          have e : x = y := by
            rcases str_tri x y with h | h | h
            · exact absurd h h1
            · exact h
            · exact absurd h h2
          subst e
          simp
theorem cmpL_neg : ∀ (a b : List Str), cmpL b a = 0 - cmpL a b := by
  intro a; induction a with
  | nil => intro b; cases b <;> simp [cmpL]
  | cons x a ih =>
    intro b
    cases b with
    | nil => simp [cmpL]
    | cons y b =>
      rw [cmpL, cmpL]
      by_cases h1 : x < y
      · rw [if_neg (str_asym h1), if_pos h1, if_pos h1]; rfl
      · rw [if_neg h1]
        by_cases h2 : y < x
        · rw [if_pos h2, if_neg h1, if_pos h2]; rfl
        · rw [if_neg h2, if_neg h1, if_neg h2, ih]
theorem cmpL_01 : ∀ (a b : List Str), cmpL a b = -1 ∨ cmpL a b = 0 ∨ cmpL a b = 1 := by
  intro a; induction a with
  | nil => intro b; cases b <;> simp [cmpL]
  | cons x a ih =>
    intro b
    cases b with
    | nil => simp [cmpL]
    | cons y b =>
      rw [cmpL]
      split
      · exact .inl rfl
      · split
        · exact .inr (.inr rfl)
        · exact ih b
theorem cmpL_trans : ∀ {a b c : List Str}, cmpL a b = -1 → cmpL b c = -1 → cmpL a c = -1 := by
  intro a; induction a with
  | nil =>
    intro b c h1 h2
    cases c with
    | nil => cases b <;> simp [cmpL] at h1 h2
    | cons z c => rfl
  | cons x a ih =>
    intro b c h1 h2
    cases b with
    | nil => simp [cmpL] at h1
    | cons y b =>
      cases c with
      | nil => simp [cmpL] at h2
      | cons z c =>
        rw [cmpL] at h1 h2 ⊢
        by_cases a1 : x < y
        · by_cases a2 : y < z
          · rw [if_pos (str_trans a1 a2)]
          · rw [if_neg a2] at h2
            by_cases a3 : z < y
            · rw [if_pos a3] at h2; omega
            · have e : y = z := by
                rcases str_tri y z with h | h | h
                · exact absurd h a2
                · exact h
                · exact absurd h a3
              subst e; rw [if_pos a1]
        · rw [if_neg a1] at h1
          by_cases a2 : y < x
          · rw [if_pos a2] at h1; omega
          · rw [if_neg a2] at h1
            have e : x = y := by
              rcases str_tri x y with h | h | h
              · exact absurd h a1
              · exact h
              · exact absurd h a2
            subst e
            by_cases a3 : x < z
            · rw [if_pos a3]
            · rw [if_neg a3] at h2 ⊢
              by_cases a4 : z < x
              · rw [if_pos a4] at h2; omega
              · rw [if_neg a4] at h2 ⊢; exact ih h1 h2
theorem cmpS_zero {a b : List Str} : cmpS a b = 0 ↔ a = b := by
  unfold cmpS
  split
  · rename_i h
    exact ⟨fun h => by omega, fun e => by subst e; omega⟩
  · split
    · rename_i h
      exact ⟨fun h => by omega, fun e => by subst e; omega⟩
    · exact cmpL_zero
theorem cmpS_neg (a b : List Str) : cmpS b a = 0 - cmpS a b := by
  unfold cmpS
  by_cases h : a.length < b.length
  · rw [if_pos h, if_neg (by omega), if_pos h]; rfl
  · rw [if_neg h]
    by_cases h2 : b.length < a.length
    · rw [if_pos h2, if_neg h, if_pos h2]; rfl
    · rw [if_neg h2, if_neg h, if_neg h2, cmpL_neg]
theorem cmpS_01 (a b : List Str) : cmpS a b = -1 ∨ cmpS a b = 0 ∨ cmpS a b = 1 := by
  unfold cmpS
  split
  · exact .inl rfl
  · split
    · exact .inr (.inr rfl)
    · exact cmpL_01 a b
theorem cmpS_trans {a b c : List Str} (h1 : cmpS a b = -1) (h2 : cmpS b c = -1) : cmpS a c = -1 := by
  unfold cmpS at *
  by_cases e1 : a.length < b.length
  · by_cases e2 : b.length < c.length
    · rw [if_pos (by omega)]
    · rw [if_neg e2] at h2
      by_cases e3 : c.length < b.length
      · rw [if_pos e3] at h2; omega
      · rw [if_pos (by omega)]
  · rw [if_neg e1] at h1
    by_cases e2 : b.length < a.length
    · rw [if_pos e2] at h1; omega
    · rw [if_neg e2] at h1
      by_cases e3 : b.length < c.length
      · rw [if_pos (by omega)]
      · rw [if_neg e3] at h2
        by_cases e4 : c.length < b.length
        · rw [if_pos e4] at h2; omega
        · rw [if_neg e4] at h2
          rw [if_neg (by omega), if_neg (by omega)]
          exact cmpL_trans h1 h2
/-- A proper subset has fewer elements. -/
theorem ss_sub_len : ∀ {a b : List Str}, SS a → SS b → (∀ x ∈ a, x ∈ b) → a.length ≤ b.length ∧ (a.length = b.length → a = b) := by
  intro a b ha hb h
  have h1 : a = b.filter (fun x => decide (x ∈ a)) := ss_ext ha (ss_filter _ hb) (fun x => by
    rw [List.mem_filter, decide_eq_true_eq]
    exact ⟨fun hx => ⟨h x hx, hx⟩, fun hx => hx.2⟩)
  have h2 := List.length_filter_le (fun x => decide (x ∈ a)) b
  rw [← h1] at h2
  refine ⟨h2, fun e => ?_⟩
  have h3 : (b.filter (fun x => decide (x ∈ a))).length = b.length := by rw [← h1]; exact e
  rw [List.length_filter_eq_length_iff] at h3
  exact ss_ext ha hb (fun x => ⟨h x, fun hx => by simpa using h3 x hx⟩)
end Go.Proofs.Ytoogcafceghdjaa
