/- All closed sets, in lectic order. Plain mathematics. -/
import Derived.Test.YtjponegeidiheaaClsMem
namespace Go.Proofs.Ytjponegeidiheaa
open Go.RowKit

/-- The subsets of i, .., i + k - 1 in lectic order. -/
def subs : Nat → Nat → List (List Nat)
  | 0, _ => [[]]
  | k + 1, i => subs k (i + 1) ++ (subs k (i + 1)).map (i :: ·)
theorem subs_ge : ∀ (k i : Nat) (s : List Nat), s ∈ subs k i → ∀ x ∈ s, i ≤ x ∧ x < i + k
  | 0, _, s, h => by simp [subs] at h; subst h; simp
  | k + 1, i, s, h => by
    rw [subs, List.mem_append] at h
    rcases h with h | h
    · exact fun x hx => by have := subs_ge k (i + 1) s h x hx; omega
    · obtain ⟨t, ht, rfl⟩ := List.mem_map.1 h
      intro x hx
      rcases List.mem_cons.1 hx with rfl | hx
      · omega
      · have := subs_ge k (i + 1) t ht x hx; omega
/-- Is a set closed? -/
def cldB (R : List Hrl) (s : List Nat) : Bool := (List.range R.length).all fun i => !((prem R i).all fun x => decide (x ∈ s)) || (conc R i).all fun x => decide (x ∈ s)
theorem cldB_iff {R : List Hrl} {s : List Nat} : cldB R s = true ↔ Cld (On R (fun _ => 0)) (fun x => x ∈ s) := by
  unfold cldB Cld
  simp only [List.all_eq_true, List.mem_range, Bool.or_eq_true, Bool.not_eq_true', List.all_eq_false, decide_eq_true_eq]
  constructor
  · rintro h r ⟨i, hi, _⟩ hp x hx
    have hl := (List.getElem?_eq_some_iff.1 hi).1
    rcases h i hl with ⟨y, hy, hy2⟩ | h
    · rw [prem_of hi] at hy; exact absurd (hp y hy) (by simpa using hy2)
    · rw [conc_of hi] at h; exact h x hx
  · intro h i hi
    have hR : R[i]? = some R[i] := List.getElem?_eq_getElem hi
    by_cases hp : ∀ y ∈ prem R i, y ∈ s
    · right
      intro x hx
      rw [conc_of hR] at hx
      exact h R[i] ⟨i, hR, rfl⟩ (fun y hy => hp y (by rw [prem_of hR]; exact hy)) x hx
    · left
      apply Classical.byContradiction
      intro hc
      exact hp fun y hy => Classical.byContradiction fun h2 => hc ⟨y, hy, by simpa using h2⟩
/-- The closed sets that agree with T below i. -/
def VV (R : List Hrl) (n : Nat) (T : List Nat) (i : Nat) : List (List Nat) := ((subs (n - i) i).map (mems T i ++ ·)).filter (cldB R)
theorem mems_all {T : List Nat} {n : Nat} (h : ∀ x ∈ T, x < n) (x : Nat) : x ∈ mems T n ↔ x ∈ T := by
  rw [mem_mems]
  exact ⟨fun h => h.2, fun hx => ⟨h x hx, hx⟩⟩
theorem cldB_congr {R : List Hrl} {s t : List Nat} (h : ∀ x, x ∈ s ↔ x ∈ t) : cldB R s = cldB R t := by
  rw [Bool.eq_iff_iff, cldB_iff, cldB_iff]
  constructor
  · intro hc r hr hp x hx; exact (h x).1 (hc r hr (fun y hy => (h y).2 (hp y hy)) x hx)
  · intro hc r hr hp x hx; exact (h x).2 (hc r hr (fun y hy => (h y).1 (hp y hy)) x hx)
theorem vv_end {R : List Hrl} {n : Nat} {T : List Nat} (hT : ∀ x ∈ T, x < n) (hc : cldB R T = true) : VV R n T n = [mems T n] := by
  unfold VV
  rw [Nat.sub_self]
  simp only [subs, List.map_cons, List.map_nil, List.append_nil]
  rw [List.filter_cons, cldB_congr (mems_all hT), hc]
  rfl
theorem vv_split (R : List Hrl) {n i : Nat} (T : List Nat) (hi : i < n) : VV R n T i = ((subs (n - (i + 1)) (i + 1)).map (mems T i ++ ·)).filter (cldB R) ++ ((subs (n - (i + 1)) (i + 1)).map ((mems T i ++ [i]) ++ ·)).filter (cldB R) := by
  unfold VV
  rw [show n - i = (n - (i + 1)) + 1 by omega, subs, List.map_append, List.filter_append, List.map_map]
  congr 2
  apply List.map_congr_left
  intro s _
  simp
/-- Whatever is closed and has what T has below f has all of T. -/
def Gen (R : List Hrl) (f : Nat) (T : List Nat) : Prop := ∀ C : List Nat, cldB R C = true → (∀ x, x < f → x ∈ T → x ∈ C) → ∀ x ∈ T, x ∈ C
theorem Gen.mono {R : List Hrl} {f i : Nat} {T : List Nat} (h : Gen R f T) (hi : f ≤ i) : Gen R i T := fun C hc hx => h C hc fun x hf hT => hx x (by omega) hT
theorem filter_none {R : List Hrl} {L : List (List Nat)} (h : ∀ s ∈ L, cldB R s = false) : L.filter (cldB R) = [] := by
  rw [List.filter_eq_nil_iff]
  exact fun s hs => by rw [h s hs]; simp
theorem vv_in {R : List Hrl} {n i : Nat} {T : List Nat} (hi : i < n) (hg : Gen R i T) (hiT : i ∈ T) : VV R n T i = VV R n T (i + 1) := by
  rw [vv_split R T hi, filter_none, List.nil_append]
  · unfold VV; rw [mems_succ, if_pos hiT]
  · intro s hs
    obtain ⟨t, ht, rfl⟩ := List.mem_map.1 hs
    cases hc : cldB R (mems T i ++ t) with
    | false => rfl
    | true =>
      have h1 := hg _ hc (fun x hx hT => List.mem_append_left _ (mem_mems.2 ⟨hx, hT⟩)) i hiT
      rcases List.mem_append.1 h1 with h1 | h1
      · have := (mem_mems.1 h1).1; omega
      · have := subs_ge _ _ t ht i h1; omega
theorem vv_out {R : List Hrl} {n i : Nat} {T T' : List Nat} (hi : i < n) (hiT : i ∉ T) (h1 : i ∈ T') (h2 : ∀ x, x < i → (x ∈ T' ↔ x ∈ T)) : VV R n T i = VV R n T (i + 1) ++ VV R n T' (i + 1) := by
  rw [vv_split R T hi]
  congr 1
  · unfold VV; rw [mems_succ, if_neg hiT, List.append_nil]
  · unfold VV
    rw [mems_succ, if_pos h1]
    have : mems T i = mems T' i := by
      unfold mems
      apply List.filter_congr
      intro x hx
      have hx2 : x < i := by simpa using hx
      rw [Bool.eq_iff_iff, decide_eq_true_eq, decide_eq_true_eq]
      exact (h2 x hx2).symm
    rw [this]
theorem vv_bad {R : List Hrl} {n i y : Nat} {T : List Nat} (hi : i < n) (hiT : i ∉ T) (hg : Gen R i T) (hy : y < i) (hyT : y ∉ T) (hd : Der (On R (fun _ => 0)) (fun x => x ∈ T ∨ x ∈ [i]) y) : VV R n T i = VV R n T (i + 1) := by
  rw [vv_split R T hi]
  have e : ((subs (n - (i + 1)) (i + 1)).map ((mems T i ++ [i]) ++ ·)).filter (cldB R) = [] := by
    apply filter_none
    intro s hs
    obtain ⟨t, ht, rfl⟩ := List.mem_map.1 hs
    cases hc : cldB R ((mems T i ++ [i]) ++ t) with
    | false => rfl
    | true =>
      have h1 := hg _ hc (fun x hx hT => List.mem_append_left _ (List.mem_append_left _ (mem_mems.2 ⟨hx, hT⟩)))
      have h2 := der_least (C := fun x => x ∈ (mems T i ++ [i]) ++ t) (cldB_iff.1 hc) (fun x hx => by
        rcases hx with hx | hx
        · exact h1 x hx
        · exact List.mem_append_left _ (List.mem_append_right _ hx)) hd
      rcases List.mem_append.1 h2 with h2 | h2
      · rcases List.mem_append.1 h2 with h2 | h2
        · exact absurd (mem_mems.1 h2).2 hyT
        · rw [List.mem_singleton.1 h2] at hy; omega
      · have := subs_ge _ _ t ht y h2; omega
  rw [e, List.append_nil]
  unfold VV; rw [mems_succ, if_neg hiT, List.append_nil]
/-- The set behind a further name is generated, too. -/
theorem gen_next {R : List Hrl} {i : Nat} {T T' : List Nat} (hg : Gen R i T) (h : ∀ x, x ∈ T' ↔ Der (On R (fun _ => 0)) (fun x => x ∈ T ∨ x ∈ [i]) x) : Gen R (i + 1) T' := fun C hc hx x hxT => by
  have hT : ∀ y ∈ T, y ∈ C := hg C hc fun y hy hyT => hx y (by omega) ((h y).2 (.base (.inl hyT)))
  have hi : i ∈ C := hx i (by omega) ((h i).2 (.base (.inr (by simp))))
  exact der_least (C := fun x => x ∈ C) (cldB_iff.1 hc) (fun y hy => by
    rcases hy with hy | hy
    · exact hT y hy
    · rw [List.mem_singleton.1 hy]; exact hi) ((h x).1 hxT)
theorem cld_of {R : List Hrl} {S0 : Nat → Prop} {T : List Nat} (h : ∀ x, x ∈ T ↔ Der (On R (fun _ => 0)) S0 x) : cldB R T = true := by
  rw [cldB_iff]
  intro r hr hp x hx
  exact (h x).2 (der_closed _ _ r hr (fun y hy => (h y).1 (hp y hy)) x hx)
/-- A visit for each set, until it says no. -/
def prc (ok : List (List Nat) → Bool) : List (List Nat) → List (List Nat) → List (List Nat) × Bool
  | d, [] => (d, true)
  | d, x :: l => if ok (d ++ [x]) = true then prc ok (d ++ [x]) l else (d ++ [x], false)
theorem prc_yes (ok : List (List Nat) → Bool) : ∀ (A B d : List (List Nat)), (prc ok d A).2 = true → prc ok d (A ++ B) = prc ok (prc ok d A).1 B
  | [], B, d, _ => by simp [prc]
  | x :: A, B, d, h => by
    cases h1 : ok (d ++ [x]) with
    | true =>
      simp only [List.cons_append, prc, h1, if_true] at h ⊢
      exact prc_yes ok A B _ h
    | false => simp [prc, h1] at h
theorem prc_no (ok : List (List Nat) → Bool) : ∀ (A B d : List (List Nat)), (prc ok d A).2 = false → prc ok d (A ++ B) = prc ok d A
  | [], B, d, h => by simp [prc] at h
  | x :: A, B, d, h => by
    cases h1 : ok (d ++ [x]) with
    | true =>
      simp only [List.cons_append, prc, h1, if_true] at h ⊢
      exact prc_no ok A B _ h
    | false => simp [prc, h1]
end Go.Proofs.Ytjponegeidiheaa
