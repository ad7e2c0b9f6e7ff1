/- What a round of a chase keeps. Plain mathematics. -/
import Derived.Test.YtjponegeidiheaaClsMath
namespace Go.Proofs.Ytjponegeidiheaa
open Go.RowKit

def mixL (R : List Hrl) (off : Nat → Nat) (us : List Nat) (j : Nat) (C C' : List Nat) (i : Nat) : Nat := if i ∈ us.take j then lackR R off C' i else lackR R off C i
theorem lackR_step {R : List Hrl} {off : Nat → Nat} {C : List Nat} {a i : Nat} (ha : a ∉ C) (hi : i ∈ usesF R a) (hp : (prem R i).Nodup) : lackR R off C i = lackR R off (C ++ [a]) i + 1 := by
  have := lackF_snoc_in ha hp (mem_usesF.1 hi).2
  unfold lackR
  omega
theorem lackR_out {R : List Hrl} {off : Nat → Nat} {C : List Nat} {a i : Nat} (hi : i < R.length) (h : i ∉ usesF R a) : lackR R off C i = lackR R off (C ++ [a]) i := by
  unfold lackR
  rw [lackF_snoc_out (fun h2 => h (mem_usesF.2 ⟨hi, h2⟩))]
theorem lackR_zero {R : List Hrl} {off : Nat → Nat} {C : List Nat} {i : Nat} : lackR R off C i = 0 ↔ off i = 0 ∧ ∀ y, y ∈ prem R i → y ∈ C := by
  unfold lackR
  rw [← lackF_zero (p := prem R i)]
  omega
theorem take_snoc_get {α : Type} {T : List α} {k : Nat} {a : α} (h : T[k]? = some a) : T.take (k + 1) = T.take k ++ [a] := by
  rw [List.take_add_one, h]; rfl
theorem not_take {T : List Nat} {k a : Nat} (hn : T.Nodup) (h : T[k]? = some a) : a ∉ T.take k := by
  intro h2
  obtain ⟨j, hj⟩ := List.getElem?_of_mem h2
  have h3 := (List.getElem?_eq_some_iff.1 hj).1
  simp at h3
  rw [List.getElem?_take_of_lt (by omega)] at hj
  obtain ⟨a1, a2⟩ := List.getElem?_eq_some_iff.1 h
  obtain ⟨b1, b2⟩ := List.getElem?_eq_some_iff.1 hj
  have := (List.getElem_inj hn).1 (a2.trans b2.symm)
  omega
theorem mixL_zero (R : List Hrl) (off : Nat → Nat) (us C C' : List Nat) (i : Nat) : mixL R off us 0 C C' i = lackR R off C i := by simp [mixL]
theorem mixL_at {R : List Hrl} {off : Nat → Nat} {us C C' : List Nat} {j r : Nat} (hn : us.Nodup) (h : us[j]? = some r) : mixL R off us j C C' r = lackR R off C r := by
  unfold mixL
  rw [if_neg (not_take hn h)]
theorem mixL_next {R : List Hrl} {off : Nat → Nat} {us C C' : List Nat} {j r : Nat} (h : us[j]? = some r) (i : Nat) : (if i = r then lackR R off C' r else mixL R off us j C C' i) = mixL R off us (j + 1) C C' i := by
  unfold mixL
  rw [take_snoc_get h]
  by_cases e : i = r
  · subst e; simp
  · simp [e]
theorem mixL_end {R : List Hrl} {off : Nat → Nat} {C : List Nat} {a i : Nat} (hi : i < R.length) : mixL R off (usesF R a) (usesF R a).length C (C ++ [a]) i = lackR R off (C ++ [a]) i := by
  unfold mixL
  rw [List.take_length]
  by_cases h : i ∈ usesF R a
  · rw [if_pos h]
  · rw [if_neg h, lackR_out hi h]
theorem GI.next {R : List Hrl} {off : Nat → Nat} {n fl : Nat} {S0 : Nat → Prop} {T0 T : List Nat} {k a : Nat} {ok : Bool} (h : GI R off n fl S0 T0 T k ok (fun _ => True)) (ha : T[k]? = some a) : GI R off n fl S0 T0 T (k + 1) ok (fun i => i ∈ usesF R a → i ∈ (usesF R a).take 0) := by
  refine ⟨h.pre, h.nd, h.lt, h.snd, by have := (List.getElem?_eq_some_iff.1 ha).1; omega, fun hok i hi ho hD hp x hx => h.sat hok i hi ho trivial (fun y hy => ?_) x hx, h.bad⟩
  have h1 := hp y hy
  rw [take_snoc_get ha, List.mem_append, List.mem_singleton] at h1
  rcases h1 with h1 | h1
  · exact h1
  · exact absurd (hD (mem_usesF.2 ⟨hi, h1 ▸ hy⟩)) (by simp)
theorem GI.skip {R : List Hrl} {off : Nat → Nat} {n fl : Nat} {S0 : Nat → Prop} {T0 T : List Nat} {k r j : Nat} {us : List Nat} {ok : Bool} (h : GI R off n fl S0 T0 T k ok (fun i => i ∈ us → i ∈ us.take j)) (hr : us[j]? = some r) (hl : lackR R off (T.take k) r ≠ 0) :
    GI R off n fl S0 T0 T k ok (fun i => i ∈ us → i ∈ us.take (j + 1)) := by
  refine ⟨h.pre, h.nd, h.lt, h.snd, h.kle, fun hok i hi ho hD hp x hx => ?_, h.bad⟩
  by_cases e : i = r
  · subst e
    exact absurd (lackR_zero.2 ⟨ho, hp⟩) hl
  · refine h.sat hok i hi ho (fun hu => ?_) hp x hx
    have := hD hu
    rw [take_snoc_get hr, List.mem_append, List.mem_singleton] at this
    rcases this with h1 | h1
    · exact h1
    · exact absurd h1 e
theorem GI.fire {R : List Hrl} {off : Nat → Nat} {n fl : Nat} {S0 : Nat → Prop} {T0 T : List Nat} {k r j : Nat} {us : List Nat} {ok : Bool} (h : GI R off n fl S0 T0 T k ok (fun i => i ∈ us → i ∈ us.take j)) (hr : us[j]? = some r) (hrl : r < R.length) (hl : lackR R off (T.take k) r = 0)
    (hc : ∀ x, x ∈ conc R r → x < n) :
    GI R off n fl S0 T0 (putF fl (conc R r) T).1 k ((putF fl (conc R r) T).2 && ok) (fun i => i ∈ us → i ∈ us.take (j + 1)) := by
  obtain ⟨ho, hp⟩ := lackR_zero.1 hl
  refine h.grow (conc R r) hc (fun x hx => ?_) _ (fun _ i hi hoi hD hpi => ?_)
  · have hg : R[r]? = some R[r] := List.getElem?_eq_getElem hrl
    refine .rule (r := R[r]) ⟨r, hg, ho⟩ (fun y hy => h.snd y (List.mem_of_mem_take (hp y (by rw [prem_of hg]; exact hy)))) (by rw [conc_of hg] at hx; exact hx)
  · by_cases e : i = r
    · subst e; exact .inr fun _ h => h
    · refine .inl fun hu => ?_
      have := hD hu
      rw [take_snoc_get hr, List.mem_append, List.mem_singleton] at this
      rcases this with h1 | h1
      · exact h1
      · exact absurd h1 e
theorem GI.all {R : List Hrl} {off : Nat → Nat} {n fl : Nat} {S0 : Nat → Prop} {T0 T : List Nat} {k : Nat} {us : List Nat} {ok : Bool} (h : GI R off n fl S0 T0 T k ok (fun i => i ∈ us → i ∈ us.take us.length)) : GI R off n fl S0 T0 T k ok (fun _ => True) :=
  ⟨h.pre, h.nd, h.lt, h.snd, h.kle, fun hok i hi ho _ hp x hx => h.sat hok i hi ho (by rw [List.take_length]; exact id) hp x hx, h.bad⟩
/-- Of the rules whose premises are counted, the conclusions are there. -/
def Sat (R : List Hrl) (off : Nat → Nat) (T : List Nat) (k : Nat) : Prop := ∀ i, i < R.length → off i = 0 → (∀ y, y ∈ prem R i → y ∈ T.take k) → ∀ x, x ∈ conc R i → x ∈ T
theorem GI.start {R : List Hrl} {off : Nat → Nat} {n fl : Nat} {T : List Nat} {k : Nat} {l : List Nat} (hnd : T.Nodup) (hlt : ∀ x ∈ T, x < n) (hk : k ≤ T.length) (hs : Sat R off T k) (hl : ∀ x, x ∈ l → x < n) :
    GI R off n fl (fun x => x ∈ T ∨ x ∈ l) T (putF fl l T).1 k (putF fl l T).2 (fun _ => True) := by
  have h0 : GI R off n fl (fun x => x ∈ T ∨ x ∈ l) T T k true (fun _ => True) := ⟨⟨[], by simp, by simp⟩, hnd, hlt, fun x hx => .base (.inl hx), hk, fun _ i hi ho _ hp => hs i hi ho hp, fun h => by cases h⟩
  have := h0.grow l hl (fun x hx => .base (.inr hx)) (fun _ => True) (fun _ _ _ _ _ _ => .inl trivial)
  rwa [Bool.and_true] at this
theorem GI.closed {R : List Hrl} {off : Nat → Nat} {n fl : Nat} {S0 : Nat → Prop} {T0 T : List Nat} {k : Nat} (h : GI R off n fl S0 T0 T k true (fun _ => True)) : Sat R off T k := fun i hi ho hp => h.sat rfl i hi ho trivial hp
theorem nodup_bound : ∀ (n : Nat) (L : List Nat), L.Nodup → (∀ x ∈ L, x < n) → L.length ≤ n
  | 0, L, _, h => by
    cases L with
    | nil => simp
    | cons a r => have := h a (by simp); omega
  | n + 1, L, hd, h => by
    have := nodup_bound n (L.erase n) (hd.erase n) (fun x hx => by
      have h1 := (hd.mem_erase_iff).1 hx
      have := h x h1.2
      omega)
    rw [List.length_erase] at this
    split at this <;> omega
end Go.Proofs.Ytjponegeidiheaa
