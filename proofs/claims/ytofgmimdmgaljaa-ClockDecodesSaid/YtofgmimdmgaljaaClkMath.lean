/- Version vectors as lists of pairs: their numbers, and the list of given numbers. No condition. -/
import Derived.WalkKit
namespace Go.Proofs.Ytofgmimdmgaljaa
open Go.RowKit

abbrev Tk := Int × Int
/-- Valid, behind the process 'last'. -/
def okF (last : Int) : List Tk → Bool
  | [] => true
  | t :: r => decide (last < t.1) && decide (t.1 ≤ 63) && decide (1 ≤ t.2) && decide (t.2 ≤ 1000000000000000) && okF t.1 r
def okV (l : List Tk) : Bool := okF (-1) l
/-- The number of a process. -/
def look : List Tk → Int → Int
  | [], _ => 0
  | t :: r, p => if t.1 = p then t.2 else look r p

/-- A version vector. -/
def VV (l : List Tk) : Prop := l.Pairwise (fun s t => s.1 < t.1) ∧ ∀ t ∈ l, 0 ≤ t.1 ∧ t.1 ≤ 63 ∧ 1 ≤ t.2 ∧ t.2 ≤ 1000000000000000

theorem okF_iff : ∀ (l : List Tk) (last : Int), okF last l = true ↔ l.Pairwise (fun s t => s.1 < t.1) ∧ ∀ t ∈ l, last < t.1 ∧ t.1 ≤ 63 ∧ 1 ≤ t.2 ∧ t.2 ≤ 1000000000000000 := by
  intro l
  induction l with
  | nil => intro last; simp [okF]
  | cons t r ih =>
    intro last
    simp only [okF, Bool.and_eq_true, decide_eq_true_eq, ih t.1, List.pairwise_cons, List.mem_cons, forall_eq_or_imp]
    constructor
    · rintro ⟨⟨⟨⟨h1, h2⟩, h3⟩, h4⟩, h5, h6⟩
      exact ⟨⟨fun s hs => (h6 s hs).1, h5⟩, ⟨h1, h2, h3, h4⟩, fun s hs => ⟨by have := (h6 s hs).1; omega, (h6 s hs).2⟩⟩
    · rintro ⟨⟨h1, h2⟩, ⟨h3, h4, h5, h6⟩, h7⟩
      exact ⟨⟨⟨⟨h3, h4⟩, h5⟩, h6⟩, h2, fun s hs => ⟨h1 s hs, (h7 s hs).2⟩⟩
theorem okV_iff (l : List Tk) : okV l = true ↔ VV l := by
  unfold okV VV
  rw [okF_iff]
  constructor
  · rintro ⟨h1, h2⟩; exact ⟨h1, fun t ht => ⟨by have := (h2 t ht).1; omega, (h2 t ht).2⟩⟩
  · rintro ⟨h1, h2⟩; exact ⟨h1, fun t ht => ⟨by have := (h2 t ht).1; omega, (h2 t ht).2⟩⟩
theorem VV.tail {t : Tk} {r : List Tk} (h : VV (t :: r)) : VV r := ⟨(List.pairwise_cons.1 h.1).2, fun s hs => h.2 s (List.mem_cons_of_mem _ hs)⟩
theorem VV.head {t : Tk} {r : List Tk} (h : VV (t :: r)) : ∀ s ∈ r, t.1 < s.1 := (List.pairwise_cons.1 h.1).1
theorem vv_nil : VV [] := ⟨List.Pairwise.nil, fun t h => by cases h⟩

theorem look_zero : ∀ (l : List Tk) (p : Int), (∀ t ∈ l, t.1 ≠ p) → look l p = 0 := by
  intro l
  induction l with
  | nil => intro p _; rfl
  | cons t r ih =>
    intro p h
    unfold look
    rw [if_neg (h t (by simp))]
    exact ih p fun s hs => h s (by simp [hs])
theorem look_mem {l : List Tk} {p : Int} (h : look l p ≠ 0) : ∃ t ∈ l, t.1 = p := by
  rcases Classical.em (∃ t ∈ l, t.1 = p) with h1 | h1
  · exact h1
  · exact absurd (look_zero l p fun t ht e => h1 ⟨t, ht, e⟩) h
theorem VV.bd {l : List Tk} (h : VV l) (p : Int) : 0 ≤ look l p ∧ look l p ≤ 1000000000000000 := by
  induction l with
  | nil => simp [look]
  | cons t r ih =>
    unfold look
    split
    · have := h.2 t (by simp); omega
    · exact ih h.tail
theorem VV.out {l : List Tk} (h : VV l) {p : Int} (hp : p < 0 ∨ 63 < p) : look l p = 0 :=
  look_zero l p fun t ht e => by have := h.2 t ht; omega
theorem look_here {l : List Tk} (h : VV l) {t : Tk} (ht : t ∈ l) : look l t.1 = t.2 := by
  induction l with
  | nil => cases ht
  | cons s r ih =>
    unfold look
    rcases List.mem_cons.1 ht with rfl | h1
    · rw [if_pos rfl]
    · rw [if_neg (by have := h.head t h1; omega)]
      exact ih h.tail h1
/-- Version vectors with the same numbers are the same. -/
theorem vv_ext : ∀ {a b : List Tk}, VV a → VV b → (∀ p, look a p = look b p) → a = b := by
  intro a
  induction a with
  | nil =>
    intro b _ hb h
    cases b with
    | nil => rfl
    | cons s u =>
      have h1 := h s.1
      have h2 := hb.2 s (by simp)
      have h3 := look_here hb (t := s) (by simp)
      simp only [look] at h1 h3
      omega
  | cons t r ih =>
    intro b ha hb h
    cases b with
    | nil =>
      have h1 := h t.1
      have h2 := ha.2 t (by simp)
      have h3 := look_here ha (t := t) (by simp)
      simp only [look] at h1 h3
      omega
    | cons s u =>
      have h2 := ha.2 t (by simp)
      have h3 := look_here ha (t := t) (by simp)
      have h4 := hb.2 s (by simp)
      have h5 := look_here hb (t := s) (by simp)
      have e1 : s.1 ≤ t.1 := by
        obtain ⟨x, hx, ex⟩ := look_mem (l := s :: u) (p := t.1) (by rw [← h]; omega)
        rcases List.mem_cons.1 hx with rfl | hx
        · omega
        · have := hb.head x hx; omega
      have e2 : t.1 ≤ s.1 := by
        obtain ⟨x, hx, ex⟩ := look_mem (l := t :: r) (p := s.1) (by rw [h]; omega)
        rcases List.mem_cons.1 hx with rfl | hx
        · omega
        · have := ha.head x hx; omega
      have e : t.1 = s.1 := by omega
      have e' : t.2 = s.2 := by rw [← h3, ← h5, h, e]
      have et : t = s := Prod.ext e e'
      subst et
      congr 1
      refine ih ha.tail hb.tail fun p => ?_
      by_cases hp : t.1 = p
      · rw [look_zero r p fun x hx => by have := ha.head x hx; omega, look_zero u p fun x hx => by have := hb.head x hx; omega]
      · have := h p
        unfold look at this
        rwa [if_neg hp, if_neg hp] at this

/-- The ticks of the positive numbers among those of the processes below q. -/
def canTo (f : Int → Int) : Nat → List Tk
  | 0 => []
  | q + 1 => canTo f q ++ (if 0 < f (q : Int) then [((q : Int), f (q : Int))] else [])
theorem canTo_succ (f : Int → Int) (q : Nat) : canTo f (q + 1) = canTo f q ++ (if 0 < f (q : Int) then [((q : Int), f (q : Int))] else []) := rfl
theorem canTo_congr {f g : Int → Int} : ∀ q : Nat, (∀ p : Int, 0 ≤ p → p < q → f p = g p) → canTo f q = canTo g q := by
  intro q
  induction q with
  | zero => intro _; rfl
  | succ q ih =>
    intro h
    rw [canTo_succ, canTo_succ]
    rw [ih fun p h0 h1 => h p h0 (by omega), h q (by omega) (by omega)]
theorem canTo_skip {f : Int → Int} : ∀ (q n : Nat), (∀ p : Int, q ≤ p → p < q + n → f p ≤ 0) → canTo f (q + n) = canTo f q := by
  intro q n
  induction n with
  | zero => intro _; rfl
  | succ n ih =>
    intro h
    rw [show q + (n + 1) = (q + n) + 1 from rfl, canTo_succ]
    rw [ih fun p h0 h1 => h p h0 (by omega)]
    have h1 := h ((q + n : Nat) : Int) (by omega) (by omega)
    rw [if_neg (by omega), List.append_nil]
theorem canTo_mem {f : Int → Int} : ∀ (q : Nat) (t : Tk), t ∈ canTo f q → 0 ≤ t.1 ∧ t.1 < q ∧ 0 < f t.1 ∧ t.2 = f t.1 := by
  intro q
  induction q with
  | zero => intro t h; cases h
  | succ q ih =>
    intro t h
    rw [canTo_succ] at h
    rcases List.mem_append.1 h with h1 | h1
    · have := ih t h1; exact ⟨this.1, by omega, this.2.2⟩
    · split at h1
      · rename_i hp
        rw [List.mem_singleton] at h1
        subst h1
        exact ⟨by simp, by simp; omega, hp, rfl⟩
      · cases h1
theorem canTo_pair {f : Int → Int} : ∀ q : Nat, (canTo f q).Pairwise (fun s t => s.1 < t.1) := by
  intro q
  induction q with
  | zero => exact List.Pairwise.nil
  | succ q ih =>
    rw [canTo_succ]
    refine List.pairwise_append.2 ⟨ih, ?_, fun s hs t ht => ?_⟩
    · split
      · exact List.pairwise_singleton _ _
      · exact List.Pairwise.nil
    · split at ht
      · rw [List.mem_singleton] at ht
        subst ht
        exact (canTo_mem q s hs).2.1
      · cases ht
theorem look_append : ∀ (l m : List Tk) (p : Int), look (l ++ m) p = if ∃ t ∈ l, t.1 = p then look l p else look m p := by
  intro l
  induction l with
  | nil => intro m p; simp
  | cons t r ih =>
    intro m p
    by_cases h : t.1 = p
    · rw [if_pos ⟨t, by simp, h⟩]
      show (if t.1 = p then t.2 else _) = (if t.1 = p then t.2 else _)
      rw [if_pos h, if_pos h]
    · show (if t.1 = p then t.2 else look (r ++ m) p) = _
      rw [if_neg h, ih]
      by_cases h2 : ∃ s ∈ r, s.1 = p
      · obtain ⟨s, hs, e⟩ := h2
        rw [if_pos ⟨s, hs, e⟩, if_pos ⟨s, by simp [hs], e⟩]
        show _ = if t.1 = p then t.2 else look r p
        rw [if_neg h]
      · rw [if_neg h2, if_neg fun ⟨s, hs, e⟩ => by
          rcases List.mem_cons.1 hs with rfl | hs
          · exact h e
          · exact h2 ⟨s, hs, e⟩]
theorem look_can {f : Int → Int} : ∀ (q : Nat) (p : Int), look (canTo f q) p = if 0 ≤ p ∧ p < q ∧ 0 < f p then f p else 0 := by
  intro q
  induction q with
  | zero => intro p; rw [if_neg (by omega)]; rfl
  | succ q ih =>
    intro p
    rw [canTo_succ]
    rw [look_append]
    by_cases h : ∃ t ∈ canTo f q, t.1 = p
    · rw [if_pos h, ih]
      obtain ⟨t, ht, rfl⟩ := h
      have := canTo_mem q t ht
      rw [if_pos ⟨this.1, this.2.1, this.2.2.1⟩, if_pos ⟨this.1, by omega, this.2.2.1⟩]
    · rw [if_neg h]
      have h0 : ¬ (0 ≤ p ∧ p < q ∧ 0 < f p) := fun hh => by
        have h1 := ih p
        rw [if_pos hh] at h1
        exact h (look_mem (by omega))
      by_cases hq : 0 < f (q : Int)
      · rw [if_pos hq]
        by_cases hp : (q : Int) = p
        · subst hp
          rw [if_pos ⟨by omega, by omega, hq⟩]
          simp [look]
        · rw [if_neg (by omega)]
          simp [look, hp]
      · rw [if_neg hq]
        by_cases hp : (q : Int) = p
        · subst hp
          rw [if_neg (by omega)]; rfl
        · rw [if_neg (by omega)]; rfl
def can (f : Int → Int) : List Tk := canTo f 64
theorem can_vv {f : Int → Int} (h : ∀ p, f p ≤ 1000000000000000) : VV (can f) :=
  ⟨canTo_pair 64, fun t ht => by
    have := canTo_mem 64 t ht
    have := h t.1
    omega⟩
theorem can_look {f : Int → Int} (p : Int) : look (can f) p = if 0 ≤ p ∧ p ≤ 63 ∧ 0 < f p then f p else 0 := by
  unfold can
  rw [look_can]
  by_cases h : 0 ≤ p ∧ p ≤ 63 ∧ 0 < f p
  · rw [if_pos h, if_pos (by omega)]
  · rw [if_neg h, if_neg (by omega)]
theorem canTo_len {f : Int → Int} : ∀ q : Nat, (canTo f q).length ≤ q := by
  intro q
  induction q with
  | zero => exact Nat.le_refl _
  | succ q ih =>
    rw [canTo_succ]
    rw [List.length_append]
    split <;> simp <;> omega
theorem can_len (f : Int → Int) : (can f).length ≤ 64 := canTo_len 64
theorem VV.can_eq {a : List Tk} (h : VV a) : can (look a) = a := by
  refine vv_ext (can_vv fun p => (h.bd p).2) h fun p => ?_
  rw [can_look]
  have h1 := h.bd p
  by_cases hp : 0 ≤ p ∧ p ≤ 63
  · by_cases h0 : 0 < look a p
    · rw [if_pos ⟨hp.1, hp.2, h0⟩]
    · rw [if_neg (by omega)]; omega
  · rw [if_neg (by omega), h.out (by omega)]
theorem VV.len {a : List Tk} (h : VV a) : a.length ≤ 64 := by
  rw [← h.can_eq]; exact can_len _

/-- The vector whose numbers are g of the numbers of a and b. -/
def comb (g : Int → Int → Int) (a b : List Tk) : List Tk := can fun p => g (look a p) (look b p)
def gMax (x y : Int) : Int := max x y
def gMin (x y : Int) : Int := min x y
def gSub (x y : Int) : Int := if y < x then x else 0
def mrg := comb gMax
def cmn := comb gMin
def sub := comb gSub
/-- What a closure may choose. -/
structure Gd (g : Int → Int → Int) : Prop where
  zero : g 0 0 = 0
  rng : ∀ x y, 0 ≤ x → 0 ≤ y → 0 ≤ g x y ∧ (g x y ≤ x ∨ g x y ≤ y)
theorem gd_max : Gd gMax := ⟨by decide, fun x y _ _ => by unfold gMax; omega⟩
theorem gd_min : Gd gMin := ⟨by decide, fun x y _ _ => by unfold gMin; omega⟩
theorem gd_sub : Gd gSub := ⟨by decide, fun x y _ _ => by unfold gSub; split <;> omega⟩
theorem comb_vv {g : Int → Int → Int} (hg : Gd g) {a b : List Tk} (ha : VV a) (hb : VV b) : VV (comb g a b) :=
  can_vv fun p => by
    have h1 := ha.bd p
    have h2 := hb.bd p
    have := hg.rng (look a p) (look b p) h1.1 h2.1
    omega
theorem comb_look {g : Int → Int → Int} (hg : Gd g) {a b : List Tk} (ha : VV a) (hb : VV b) (p : Int) : look (comb g a b) p = g (look a p) (look b p) := by
  unfold comb
  rw [can_look]
  have h1 := ha.bd p
  have h2 := hb.bd p
  have h3 := hg.rng (look a p) (look b p) h1.1 h2.1
  by_cases h : 0 ≤ p ∧ p ≤ 63
  · by_cases h0 : 0 < g (look a p) (look b p)
    · rw [if_pos ⟨h.1, h.2, h0⟩]
    · rw [if_neg (by omega)]; omega
  · rw [if_neg (by omega), ha.out (by omega), hb.out (by omega), hg.zero]
theorem mrg_look {a b : List Tk} (ha : VV a) (hb : VV b) (p : Int) : look (mrg a b) p = max (look a p) (look b p) := comb_look gd_max ha hb p
theorem cmn_look {a b : List Tk} (ha : VV a) (hb : VV b) (p : Int) : look (cmn a b) p = min (look a p) (look b p) := comb_look gd_min ha hb p
theorem sub_look {a b : List Tk} (ha : VV a) (hb : VV b) (p : Int) : look (sub a b) p = if look b p < look a p then look a p else 0 := comb_look gd_sub ha hb p
theorem mrg_vv {a b : List Tk} (ha : VV a) (hb : VV b) : VV (mrg a b) := comb_vv gd_max ha hb
theorem cmn_vv {a b : List Tk} (ha : VV a) (hb : VV b) : VV (cmn a b) := comb_vv gd_min ha hb
theorem sub_vv {a b : List Tk} (ha : VV a) (hb : VV b) : VV (sub a b) := comb_vv gd_sub ha hb
/-- Below or equal. -/
def leV (a b : List Tk) : Prop := ∀ p, look a p ≤ look b p
theorem sub_nil {a b : List Tk} (ha : VV a) (hb : VV b) : sub a b = [] ↔ leV a b := by
  constructor
  · intro h p
    have h1 := sub_look ha hb p
    rw [h] at h1
    have h2 := ha.bd p
    have h3 := hb.bd p
    simp only [look] at h1
    split at h1 <;> omega
  · intro h
    refine vv_ext (sub_vv ha hb) vv_nil fun p => ?_
    rw [sub_look ha hb p, if_neg (by have := h p; omega)]
    rfl
/-- What Compare answers. -/
def cmpV (a b : List Tk) : Int :=
  if okV a = true ∧ okV b = true then (if sub a b = [] ∧ sub b a = [] then 0 else if sub a b = [] then 1 else if sub b a = [] then 2 else 3) else 3
end Go.Proofs.Ytofgmimdmgaljaa
