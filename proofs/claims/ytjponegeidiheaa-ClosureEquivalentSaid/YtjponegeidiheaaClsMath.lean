/- Horn rules over numbers: derivations, closed sets, and the growing set of a chase. Plain mathematics. -/
import Derived.WalkKit
namespace Go.Proofs.Ytjponegeidiheaa
open Go.RowKit

/-- A rule: premises, conclusions. -/
abbrev Hrl := List Nat × List Nat
inductive Der (R : Hrl → Prop) (S : Nat → Prop) : Nat → Prop
  | base {x : Nat} : S x → Der R S x
  | rule {r : Hrl} {x : Nat} : R r → (∀ y, y ∈ r.1 → Der R S y) → x ∈ r.2 → Der R S x
def Cld (R : Hrl → Prop) (S : Nat → Prop) : Prop := ∀ r, R r → (∀ y, y ∈ r.1 → S y) → ∀ x, x ∈ r.2 → S x
theorem der_least {R : Hrl → Prop} {S C : Nat → Prop} (hC : Cld R C) (hS : ∀ x, S x → C x) {x : Nat} (h : Der R S x) : C x := by
  induction h with
  | base h => exact hS _ h
  | rule hr _ hx ih => exact hC _ hr ih _ hx
theorem der_closed (R : Hrl → Prop) (S : Nat → Prop) : Cld R (Der R S) := fun _ hr hp _ hx => .rule hr hp hx
theorem der_mono {R : Hrl → Prop} {S S' : Nat → Prop} (h : ∀ x, S x → Der R S' x) {x : Nat} (hx : Der R S x) : Der R S' x := der_least (der_closed R S') h hx
theorem der_of_closed {R : Hrl → Prop} {S : Nat → Prop} (h : Cld R S) {x : Nat} (hx : Der R S x) : S x := der_least h (fun _ h => h) hx
theorem der_rules {R R' : Hrl → Prop} {S : Nat → Prop} (h : ∀ r, R r → R' r) {x : Nat} (hx : Der R S x) : Der R' S x := by
  induction hx with
  | base h => exact .base h
  | rule hr _ hx ih => exact .rule (h _ hr) ih hx

/-- The rules that are not disabled. -/
def On (R : List Hrl) (off : Nat → Nat) : Hrl → Prop := fun r => ∃ i, R[i]? = some r ∧ off i = 0

def putF (fl : Nat) : List Nat → List Nat → List Nat × Bool
  | [], T => (T, true)
  | a :: l, T => if a ∈ T then putF fl l T else if a < fl then (T, false) else putF fl l (T ++ [a])
theorem putF_pre (fl : Nat) : ∀ (l T : List Nat), ∃ U, (putF fl l T).1 = T ++ U ∧ (∀ x, x ∈ U → x ∈ l ∧ fl ≤ x) ∧ (T.Nodup → (T ++ U).Nodup)
  | [], T => ⟨[], by simp [putF], by simp, by simp⟩
  | a :: l, T => by
    by_cases h : a ∈ T
    · obtain ⟨U, h1, h2, h3⟩ := putF_pre fl l T
      exact ⟨U, by simp [putF, h, h1], fun x hx => ⟨List.mem_cons_of_mem _ (h2 x hx).1, (h2 x hx).2⟩, h3⟩
    by_cases h4 : a < fl
    · exact ⟨[], by simp [putF, h, h4], by simp, by simp⟩
    · obtain ⟨U, h1, h2, h3⟩ := putF_pre fl l (T ++ [a])
      refine ⟨a :: U, by simp [putF, h, h4, h1], fun x hx => ?_, fun hn => ?_⟩
      · rcases List.mem_cons.1 hx with rfl | hx
        · exact ⟨List.mem_cons_self, by omega⟩
        · exact ⟨List.mem_cons_of_mem _ (h2 x hx).1, (h2 x hx).2⟩
      · have := h3 (by rw [List.nodup_append]; exact ⟨hn, by simp, by rintro x hx y hy rfl; simp at hy; exact h (hy ▸ hx)⟩)
        simpa using this
theorem putF_true (fl : Nat) : ∀ (l T : List Nat), (putF fl l T).2 = true → ∀ x, x ∈ l → x ∈ (putF fl l T).1
  | [], _, _, _, h => by simp at h
  | a :: l, T, h, x, hx => by
    by_cases h1 : a ∈ T
    · simp only [putF, h1, if_true] at h ⊢
      rcases List.mem_cons.1 hx with rfl | hx
      · obtain ⟨U, e, _⟩ := putF_pre fl l T
        rw [e]; exact List.mem_append_left _ h1
      · exact putF_true fl l T h x hx
    by_cases h4 : a < fl
    · simp [putF, h1, h4] at h
    · simp only [putF, h1, h4, if_false] at h ⊢
      rcases List.mem_cons.1 hx with rfl | hx
      · obtain ⟨U, e, _⟩ := putF_pre fl l (T ++ [x])
        rw [e]; simp
      · exact putF_true fl l _ h x hx
theorem putF_false (fl : Nat) : ∀ (l T : List Nat), (putF fl l T).2 = false → ∃ x, x ∈ l ∧ x < fl ∧ x ∉ T
  | [], _, h => by simp [putF] at h
  | a :: l, T, h => by
    by_cases h1 : a ∈ T
    · simp only [putF, h1, if_true] at h
      obtain ⟨x, h5, h6, h7⟩ := putF_false fl l T h
      exact ⟨x, List.mem_cons_of_mem _ h5, h6, h7⟩
    by_cases h4 : a < fl
    · exact ⟨a, List.mem_cons_self, h4, h1⟩
    · simp only [putF, h1, h4, if_false] at h
      obtain ⟨x, h5, h6, h7⟩ := putF_false fl l _ h
      exact ⟨x, List.mem_cons_of_mem _ h5, h6, fun h8 => h7 (List.mem_append_left _ h8)⟩
theorem putF_zero (l T : List Nat) : (putF 0 l T).2 = true := by
  cases h : (putF 0 l T).2 with
  | true => rfl
  | false => obtain ⟨x, _, h2, _⟩ := putF_false 0 l T h; omega

/-- How many premises a rule lacks. -/
def lackF (p : List Nat) (C : List Nat) : Nat := p.countP (fun y => decide (y ∉ C))
theorem lackF_zero {p C : List Nat} : lackF p C = 0 ↔ ∀ y, y ∈ p → y ∈ C := by
  unfold lackF
  rw [List.countP_eq_zero]
  simp
theorem lackF_snoc_in {a : Nat} {C : List Nat} (ha : a ∉ C) : ∀ {p : List Nat}, p.Nodup → a ∈ p → lackF p (C ++ [a]) + 1 = lackF p C
  | [], _, h => by simp at h
  | b :: p, hn, h => by
    have ⟨hb, hn'⟩ := List.nodup_cons.1 hn
    unfold lackF at *
    by_cases e : b = a
    · subst e
      have : p.countP (fun y => decide (y ∉ C ++ [b])) = p.countP (fun y => decide (y ∉ C)) := by
        apply List.countP_congr
        intro y hy
        have : y ≠ b := fun e => hb (e ▸ hy)
        simp [this]
      rw [List.countP_cons, List.countP_cons, this]
      simp [ha]
    · have ih := lackF_snoc_in ha hn' (by rcases List.mem_cons.1 h with h | h; exact absurd h.symm e; exact h)
      unfold lackF at ih
      rw [List.countP_cons, List.countP_cons]
      have e2 : decide (b ∉ C ++ [a]) = decide (b ∉ C) := by simp [e]
      rw [e2]
      omega
theorem lackF_snoc_out {a : Nat} {p C : List Nat} (h : a ∉ p) : lackF p (C ++ [a]) = lackF p C := by
  unfold lackF
  apply List.countP_congr
  intro y hy
  have : y ≠ a := fun e => h (e ▸ hy)
  simp [this]
theorem lackF_le (p C : List Nat) : lackF p C ≤ p.length := List.countP_le_length

/-- The premises of rule i. -/
def prem (R : List Hrl) (i : Nat) : List Nat := ((R[i]?).map Prod.fst).getD []
def conc (R : List Hrl) (i : Nat) : List Nat := ((R[i]?).map Prod.snd).getD []
theorem prem_of {R : List Hrl} {i : Nat} {r : Hrl} (h : R[i]? = some r) : prem R i = r.1 := by simp [prem, h]
theorem conc_of {R : List Hrl} {i : Nat} {r : Hrl} (h : R[i]? = some r) : conc R i = r.2 := by simp [conc, h]
/-- The rules of which a name is a premise. -/
def usesF (R : List Hrl) (a : Nat) : List Nat := (List.range R.length).filter (fun i => decide (a ∈ prem R i))
theorem mem_usesF {R : List Hrl} {a i : Nat} : i ∈ usesF R a ↔ i < R.length ∧ a ∈ prem R i := by simp [usesF]
theorem usesF_nodup (R : List Hrl) (a : Nat) : (usesF R a).Nodup := List.Nodup.sublist List.filter_sublist List.nodup_range
/-- What is laid down in lacking. -/
def lackR (R : List Hrl) (off : Nat → Nat) (C : List Nat) (i : Nat) : Nat := lackF (prem R i) C + off i

/-- What grow keeps: S0 is the set that the call began from. -/
structure GI (R : List Hrl) (off : Nat → Nat) (n fl : Nat) (S0 : Nat → Prop) (T0 T : List Nat) (k : Nat) (ok : Bool) (D : Nat → Prop) : Prop where
  pre : ∃ U, T = T0 ++ U ∧ ∀ x, x ∈ U → fl ≤ x
  nd : T.Nodup
  lt : ∀ x, x ∈ T → x < n
  snd : ∀ x, x ∈ T → Der (On R off) S0 x
  kle : k ≤ T.length
  sat : ok = true → ∀ i, i < R.length → off i = 0 → D i → (∀ y, y ∈ prem R i → y ∈ T.take k) → ∀ x, x ∈ conc R i → x ∈ T
  bad : ok = false → ∃ x, x < fl ∧ x ∉ T0 ∧ Der (On R off) S0 x
theorem GI.grow {R : List Hrl} {off : Nat → Nat} {n fl : Nat} {S0 : Nat → Prop} {T0 T : List Nat} {k : Nat} {ok : Bool} {D : Nat → Prop} (h : GI R off n fl S0 T0 T k ok D) (l : List Nat) (hn : ∀ x, x ∈ l → x < n) (hd : ∀ x, x ∈ l → Der (On R off) S0 x) (D' : Nat → Prop)
    (hD : (putF fl l T).2 = true → ∀ i, i < R.length → off i = 0 → D' i → (∀ y, y ∈ prem R i → y ∈ T.take k) → D i ∨ ∀ x, x ∈ conc R i → x ∈ l) :
    GI R off n fl S0 T0 (putF fl l T).1 k ((putF fl l T).2 && ok) D' := by
  obtain ⟨V, e, h1, h2⟩ := putF_pre fl l T
  obtain ⟨U, e0, hU⟩ := h.pre
  have htk : (T ++ V).take k = T.take k := by rw [List.take_append_of_le_length h.kle]
  rw [e]
  refine ⟨⟨U ++ V, by rw [e0, List.append_assoc], fun x hx => ?_⟩, h2 h.nd, fun x hx => ?_, fun x hx => ?_, by have := h.kle; rw [List.length_append]; omega, fun hok i hi ho hDi hp x hx => ?_, fun hb => ?_⟩
  · rcases List.mem_append.1 hx with hx | hx
    · exact hU x hx
    · exact (h1 x hx).2
  · rcases List.mem_append.1 hx with hx | hx
    · exact h.lt x hx
    · exact hn x (h1 x hx).1
  · rcases List.mem_append.1 hx with hx | hx
    · exact h.snd x hx
    · exact hd x (h1 x hx).1
  · rw [Bool.and_eq_true] at hok
    rw [htk] at hp
    rcases hD hok.1 i hi ho hDi hp with hd' | hd'
    · exact List.mem_append_left _ (h.sat hok.2 i hi ho hd' hp x hx)
    · rw [← e]; exact putF_true fl l T hok.1 x (hd' x hx)
  · rw [Bool.and_eq_false_iff] at hb
    rcases hb with hb | hb
    · obtain ⟨x, h5, h6, h7⟩ := putF_false fl l T hb
      exact ⟨x, h6, fun hx => h7 (by rw [e0]; exact List.mem_append_left _ hx), hd x h5⟩
    · exact h.bad hb
/-- The end of grow. -/
theorem GI.done {R : List Hrl} {off : Nat → Nat} {n fl : Nat} {S0 : Nat → Prop} {T0 T : List Nat} {ok : Bool} (h : GI R off n fl S0 T0 T T.length ok (fun _ => True)) (hok : ok = true) (hS : ∀ x, S0 x → x ∈ T) : ∀ x, x ∈ T ↔ Der (On R off) S0 x := by
  intro x
  refine ⟨h.snd x, fun hx => ?_⟩
  refine der_least (C := fun x => x ∈ T) (fun r hr hp x hx => ?_) hS hx
  obtain ⟨i, hi, ho⟩ := hr
  refine h.sat hok i (List.getElem?_eq_some_iff.1 hi).1 ho trivial (fun y hy => ?_) x (by rw [conc_of hi]; exact hx)
  rw [prem_of hi] at hy
  simpa using hp y hy
end Go.Proofs.Ytjponegeidiheaa
