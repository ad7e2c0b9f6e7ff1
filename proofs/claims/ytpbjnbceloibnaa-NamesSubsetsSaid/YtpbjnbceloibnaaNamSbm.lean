/- All subsets of a sorted list, in order: plain mathematics. No condition. -/
import Derived.Test.YtpbjnbceloibnaaNamOps
namespace Go.Proofs.Ytpbjnbceloibnaa

/-- Is x above all elements of a sorted list? -/
def abv (x : Str) (T : List Str) : Bool := match T.getLast? with
  | none => true
  | some y => decide (y < x)
theorem abv_snoc (x y : Str) (T : List Str) : abv x (T ++ [y]) = decide (y < x) := by simp [abv]
theorem abv_all {x : Str} {T : List Str} (hT : SS T) (h : abv x T = true) : ∀ y ∈ T, y < x := by
  rcases List.eq_nil_or_concat T with rfl | ⟨T', y, rfl⟩
  · intro y hy; simp at hy
  · rw [List.concat_eq_append] at hT h ⊢
    rw [abv_snoc, decide_eq_true_eq] at h
    intro z hz
    rcases List.mem_append.1 hz with hz | hz
    · exact str_trans ((List.pairwise_append.1 hT).2.2 z hz y (by simp)) h
    · rw [List.mem_singleton.1 hz]; exact h
/-- What may still follow: the elements from place k on that are above T, each with its weight. -/
def wtF (A : List Str) (T : List Str) : Nat → Nat → Nat
  | _, 0 => 0
  | k, d + 1 => (if abv (A.getD k []) T then 2 ^ d else 0) + wtF A T (k + 1) d
def wt (A : List Str) (T : List Str) (k : Nat) : Nat := wtF A T k (A.length - k)
theorem wt_step {A T : List Str} {k : Nat} (h : k < A.length) : wt A T k = (if abv A[k] T then 2 ^ (A.length - (k + 1)) else 0) + wt A T (k + 1) := by
  obtain ⟨d, hd⟩ : ∃ d, A.length - k = d + 1 := ⟨A.length - k - 1, by omega⟩
  rw [wt, wt, hd, wtF, show A.length - (k + 1) = d by omega, getD_of h]
theorem wt_end {A T : List Str} {k : Nat} (h : A.length ≤ k) : wt A T k = 0 := by rw [wt, show A.length - k = 0 by omega]; rfl
theorem wtF_all {A T : List Str} : ∀ d k, k + d = A.length → (∀ i, k ≤ i → i < A.length → abv (A.getD i []) T = true) → wtF A T k d + 1 = 2 ^ d := by
  intro d; induction d with
  | zero => intro k _ _; rfl
  | succ d ih =>
    intro k hk h
    have := ih (k + 1) (by omega) (fun i hi hl => h i (by omega) hl)
    rw [wtF, if_pos (h k (Nat.le_refl _) (by omega)), Nat.pow_succ]; omega
theorem wtF_none {A T : List Str} : ∀ d k, (∀ i, k ≤ i → i < k + d → abv (A.getD i []) T = false) → wtF A T k d = 0 := by
  intro d; induction d with
  | zero => intro k _; rfl
  | succ d ih =>
    intro k h
    rw [wtF, h k (Nat.le_refl _) (by omega), ih (k + 1) (fun i hi hl => h i (by omega) (by omega))]; rfl
theorem wtF_split {A T : List Str} : ∀ m k d, m ≤ d → (∀ i, k ≤ i → i < k + m → abv (A.getD i []) T = false) → wtF A T k d = wtF A T (k + m) (d - m) := by
  intro m; induction m with
  | zero => intro k d _ _; rfl
  | succ m ih =>
    intro k d hd h
    obtain ⟨d', rfl⟩ : ∃ d', d = d' + 1 := ⟨d - 1, by omega⟩
    rw [wtF, h k (Nat.le_refl _) (by omega), ih (k + 1) d' (by omega) (fun i hi hl => h i (by omega) (by omega))]
    rw [show k + 1 + m = k + (m + 1) by omega, show d' + 1 - (m + 1) = d' - m by omega]
    simp
/-- A child's weight. -/
theorem wt_child {A T : List Str} (hA : SS A) {k : Nat} (h : k < A.length) : wt A (T ++ [A[k]]) 0 + 1 = 2 ^ (A.length - (k + 1)) := by
  rw [wt, Nat.sub_zero, wtF_split (k + 1) 0 A.length (by omega) (fun i _ hi => by
    rw [abv_snoc]
    refine decide_eq_false ?_
    by_cases e : i = k
    · subst e; rw [getD_of h]; exact str_irr _
    · have := ss_get hA (show i < k by omega) h
      rw [getD_of h] at this; exact str_asym this), Nat.zero_add]
  exact wtF_all _ _ (by omega) (fun i hi hl => by
    rw [abv_snoc]
    refine decide_eq_true ?_
    have := ss_get hA (show k < i by omega) hl
    rw [getD_of h] at this; exact this)
theorem wt_nil {A : List Str} : wt A [] 0 + 1 = 2 ^ A.length := by
  rw [wt, Nat.sub_zero]; exact wtF_all _ _ (by omega) (fun _ _ _ => rfl)

theorem cmpL_app {a b : List Str} (h : a.length = b.length) (x y : List Str) : cmpL a b = -1 → cmpL (a ++ x) (b ++ y) = -1 := by
  revert b; induction a with
  | nil => intro b h h2; cases b <;> simp [cmpL] at h h2
  | cons p a ih =>
    intro b h h2
    cases b with
    | nil => simp at h
    | cons q b =>
      rw [cmpL] at h2
      rw [List.cons_append, List.cons_append, cmpL]
      by_cases h3 : p < q
      · rw [if_pos h3]
      · rw [if_neg h3] at h2 ⊢
        by_cases h4 : q < p
        · rw [if_pos h4] at h2; omega
        · rw [if_neg h4] at h2 ⊢; exact ih (by simpa using h) h2
theorem cmpL_same (a : List Str) {s t : Str} (h : s < t) : cmpL (a ++ [s]) (a ++ [t]) = -1 := by
  induction a with
  | nil => rw [List.nil_append, List.nil_append, cmpL, if_pos h]
  | cons p a ih => rw [List.cons_append, List.cons_append, cmpL, if_neg (str_irr p), if_neg (str_irr p), ih]
theorem cmpS_child {T1 T2 : List Str} (s t : Str) (h : cmpS T1 T2 = -1) : cmpS (T1 ++ [s]) (T2 ++ [t]) = -1 := by
  unfold cmpS at *
  rw [List.length_append, List.length_append]
  by_cases h1 : T1.length < T2.length
  · rw [if_pos (by simp; omega)]
  · rw [if_neg h1] at h
    by_cases h2 : T2.length < T1.length
    · rw [if_pos h2] at h; omega
    · rw [if_neg h2] at h
      rw [if_neg (by simp; omega), if_neg (by simp; omega)]
      exact cmpL_app (by omega) _ _ h
theorem cmpS_sib (T : List Str) {s t : Str} (h : s < t) : cmpS (T ++ [s]) (T ++ [t]) = -1 := by
  unfold cmpS
  rw [List.length_append, List.length_append, if_neg (by simp), if_neg (by simp)]
  exact cmpL_same T h
theorem cmpS_up (T : List Str) (s : Str) : cmpS T (T ++ [s]) = -1 := cmpS_short (by simp)

/-- What the search has found, while it extends element nx by the elements from place k on. -/
structure Sub (A : List Str) (all : List (List Str)) (nx k : Nat) : Prop where
  good : ∀ T ∈ all, SS T ∧ ∀ x ∈ T, x ∈ A
  inc : ∀ i, i + 1 < all.length → cmpS (all.getD i []) (all.getD (i + 1) []) = -1
  last : all = [[]] ∧ nx = 0 ∨ ∃ p s, p ≤ nx ∧ p < all.length ∧ all.getD (all.length - 1) [] = all.getD p [] ++ [s] ∧ (p = nx → ∀ i, k ≤ i → i < A.length → s < A.getD i [])
  cnt : all.length + (wt A (all.getD nx []) k + ((all.drop (nx + 1)).map fun T => wt A T 0).sum) = 2 ^ A.length
theorem sub_start {A : List Str} : Sub A [[]] 0 0 where
  good := fun T hT => by rw [List.mem_singleton.1 hT]; exact ⟨SS.nil, fun x hx => by simp at hx⟩
  inc := fun i hi => by simp at hi
  last := .inl ⟨rfl, rfl⟩
  cnt := by have := wt_nil (A := A); simp; omega
theorem getDl {l : List (List Str)} {i : Nat} (h : i < l.length) : l.getD i [] = l[i] := by simp [List.getD, h]
theorem inc_lt {all : List (List Str)} (h : ∀ i, i + 1 < all.length → cmpS (all.getD i []) (all.getD (i + 1) []) = -1) : ∀ j i, i < j → j < all.length → cmpS (all.getD i []) (all.getD j []) = -1 := by
  intro j; induction j with
  | zero => intro i hi; omega
  | succ j ih =>
    intro i hi hj
    by_cases e : i = j
    · subst e; exact h i hj
    · exact cmpS_trans (ih i (by omega) (by omega)) (h j hj)
theorem Sub.skip {A : List Str} {all : List (List Str)} {nx k : Nat} (h : Sub A all nx k) (hk : k < A.length) (ha : abv A[k] (all.getD nx []) = false) : Sub A all nx (k + 1) where
  good := h.good
  inc := h.inc
  last := h.last.imp id (fun ⟨p, s, a, b, c, d⟩ => ⟨p, s, a, b, c, fun e i hi hl => d e i (by omega) hl⟩)
  cnt := by have := h.cnt; rw [wt_step hk, ha] at this; simpa using this
theorem Sub.push {A : List Str} {all : List (List Str)} {nx k : Nat} (hA : SS A) (h : Sub A all nx k) (hn : nx < all.length) (hk : k < A.length) (ha : abv A[k] (all.getD nx []) = true) : Sub A (all ++ [all.getD nx [] ++ [A[k]]]) nx (k + 1) := by
  have hg := h.good (all.getD nx []) (by rw [getDl hn]; exact List.getElem_mem hn)
  have hle : ∀ i, i < all.length → (all ++ [all.getD nx [] ++ [A[k]]]).getD i [] = all.getD i [] := fun i hi => by simp [List.getD, List.getElem?_append_left hi]
  have hla : (all ++ [all.getD nx [] ++ [A[k]]]).getD all.length [] = all.getD nx [] ++ [A[k]] := by simp [List.getD]
  refine ⟨fun T hT => ?_, fun i hi => ?_, .inr ⟨nx, A[k], Nat.le_refl _, by simp; omega, ?_, fun _ i hi hl => ?_⟩, ?_⟩
  · rcases List.mem_append.1 hT with hT | hT
    · exact h.good T hT
    · rw [List.mem_singleton.1 hT]
      refine ⟨ss_snoc hg.1 (abv_all hg.1 ha), fun x hx => ?_⟩
      rcases List.mem_append.1 hx with hx | hx
      · exact hg.2 x hx
      · rw [List.mem_singleton.1 hx]; exact List.getElem_mem hk
  · rw [List.length_append, List.length_singleton] at hi
    rw [hle i (by omega)]
    by_cases e : i + 1 = all.length
    · rw [e, hla]
      rcases h.last with ⟨h1, h2⟩ | ⟨p, s, a, b, c, d⟩
      · have e0 : i = nx := by rw [h1] at e; simp at e; omega
        rw [e0]; exact cmpS_up _ _
      · rw [show i = all.length - 1 by omega, c]
        by_cases e2 : p = nx
        · rw [e2]
          have := d e2 k (Nat.le_refl _) hk
          rw [getD_of hk] at this
          exact cmpS_sib _ this
        · exact cmpS_child _ _ (inc_lt h.inc nx p (by omega) hn)
    · rw [hle (i + 1) (by omega)]; exact h.inc i (by omega)
  · rw [List.length_append, List.length_singleton, Nat.add_sub_cancel, hla, hle nx hn]
  · have := ss_get hA (show k < i by omega) hl
    rwa [getD_of hk] at this
  · have hc := h.cnt
    have hch := wt_child (T := all.getD nx []) hA hk
    rw [wt_step hk, if_pos ha] at hc
    rw [hle nx hn, List.length_append, List.length_singleton, List.drop_append_of_le_length (by omega), List.map_append, List.sum_append]
    simp only [List.map_cons, List.map_nil, List.sum_cons, List.sum_nil, Nat.add_zero]
    omega
theorem Sub.next {A : List Str} {all : List (List Str)} {nx k : Nat} (h : Sub A all nx k) (hk : A.length ≤ k) (hn : nx + 1 < all.length) : Sub A all (nx + 1) 0 where
  good := h.good
  inc := h.inc
  last := by
    rcases h.last with ⟨h1, h2⟩ | ⟨p, s, a, b, c, d⟩
    · rw [h1] at hn; simp at hn
    · exact .inr ⟨p, s, by omega, b, c, fun e => by omega⟩
  cnt := by
    have hc := h.cnt
    rw [wt_end hk, List.drop_eq_getElem_cons hn, List.map_cons, List.sum_cons] at hc
    rw [getDl hn]; omega
theorem Sub.done {A : List Str} {all : List (List Str)} {nx k : Nat} (h : Sub A all nx k) (hk : A.length ≤ k) (hn : all.length ≤ nx + 1) : all.length = 2 ^ A.length := by
  have hc := h.cnt
  rw [wt_end hk, List.drop_eq_nil_of_le hn] at hc
  simpa using hc
end Go.Proofs.Ytpbjnbceloibnaa
