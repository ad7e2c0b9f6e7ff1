/- Texts in one: ClsMath, ClsMat2, AppOwn, Row, ClsCh, ClsPut, ClsMet, ClsCnt, ClsGrw. -/
import Derived.WalkKit
import Derived.Deep.AppendSrc
import Derived.Deep.AppendLies
import Derived.WalkSpells
import Derived.WalkLawsBesides
import Derived.Below
import Derived.Laws.CopyOwn
import Derived.Deep.RegionHeld3
import Derived.Deep.RegionLaw
import Derived.Deep.QuietTactic
import Derived.BigQuiet
import Derived.BigRegion
import Derived.RegionTactic
import Derived.StillTailTactics
import Derived.IntWalk
import Derived.Outline
import Derived.Lib.Hide
import Derived.OpenShut
import Derived.Deep.Draws
import Derived.Test.YtedohggbpmcehaaProg
import Derived.Deep.LoopGhost
/- Horn rules over numbers: derivations, closed sets, and the growing set of a chase. Plain mathematics. -/
namespace Go.Proofs.Ytedohggbpmcehaa
open Go.RowKit

/-- A rule: premises, conclusions. -/
abbrev Hrl := List Nat × List Nat
inductive Der (R : Hrl → Prop) (S : Nat → Prop) : Nat → Prop
  | base {x : Nat} : S x → Der R S x
  | rule {r : Hrl} {x : Nat} : R r → (∀ y, y ∈ r.1 → Der R S y) → x ∈ r.2 → Der R S x
def Cld (R : Hrl → Prop) (S : Nat → Prop) : Prop := ∀ r, R r → (∀ y, y ∈ r.1 → S y) → ∀ x, x ∈ r.2 → S x
theorem der_least {R : Hrl → Prop} {S C : Nat → Prop} (hC : Cld R C) (hS : ∀ x, S x → C x) {x : Nat} (h : Der R S x) : C x := by
  induction h with
  | base h => exact hS _ h
  | rule hr _ hx ih => exact hC _ hr ih _ hx
theorem der_closed (R : Hrl → Prop) (S : Nat → Prop) : Cld R (Der R S) := fun _ hr hp _ hx => .rule hr hp hx
theorem der_mono {R : Hrl → Prop} {S S' : Nat → Prop} (h : ∀ x, S x → Der R S' x) {x : Nat} (hx : Der R S x) : Der R S' x := der_least (der_closed R S') h hx
theorem der_of_closed {R : Hrl → Prop} {S : Nat → Prop} (h : Cld R S) {x : Nat} (hx : Der R S x) : S x := der_least h (fun _ h => h) hx
theorem der_rules {R R' : Hrl → Prop} {S : Nat → Prop} (h : ∀ r, R r → R' r) {x : Nat} (hx : Der R S x) : Der R' S x := by
  induction hx with
  | base h => exact .base h
  | rule hr _ hx ih => exact .rule (h _ hr) ih hx

/-- The rules that are not disabled. -/
def On (R : List Hrl) (off : Nat → Nat) : Hrl → Prop := fun r => ∃ i, R[i]? = some r ∧ off i = 0

def putF (fl : Nat) : List Nat → List Nat → List Nat × Bool
  | [], T => (T, true)
  | a :: l, T => if a ∈ T then putF fl l T else if a < fl then (T, false) else putF fl l (T ++ [a])
theorem putF_pre (fl : Nat) : ∀ (l T : List Nat), ∃ U, (putF fl l T).1 = T ++ U ∧ (∀ x, x ∈ U → x ∈ l ∧ fl ≤ x) ∧ (T.Nodup → (T ++ U).Nodup)
  | [], T => ⟨[], by simp [putF], by simp, by simp⟩
  | a :: l, T => by
    by_cases h : a ∈ T
    · obtain ⟨U, h1, h2, h3⟩ := putF_pre fl l T
      exact ⟨U, by simp [putF, h, h1], fun x hx => ⟨List.mem_cons_of_mem _ (h2 x hx).1, (h2 x hx).2⟩, h3⟩
    by_cases h4 : a < fl
    · exact ⟨[], by simp [putF, h, h4], by simp, by simp⟩
    · obtain ⟨U, h1, h2, h3⟩ := putF_pre fl l (T ++ [a])
      refine ⟨a :: U, by simp [putF, h, h4, h1], fun x hx => ?_, fun hn => ?_⟩
      · rcases List.mem_cons.1 hx with rfl | hx
        · exact ⟨List.mem_cons_self, by omega⟩
        · exact ⟨List.mem_cons_of_mem _ (h2 x hx).1, (h2 x hx).2⟩
      · have := h3 (by rw [List.nodup_append]; exact ⟨hn, by simp, by rintro x hx y hy rfl; simp at hy; exact h (hy ▸ hx)⟩)
        simpa using this
theorem putF_true (fl : Nat) : ∀ (l T : List Nat), (putF fl l T).2 = true → ∀ x, x ∈ l → x ∈ (putF fl l T).1
  | [], _, _, _, h => by simp at h
  | a :: l, T, h, x, hx => by
    by_cases h1 : a ∈ T
    · simp only [putF, h1, if_true] at h ⊢
      rcases List.mem_cons.1 hx with rfl | hx
      · obtain ⟨U, e, _⟩ := putF_pre fl l T
        rw [e]; exact List.mem_append_left _ h1
      · exact putF_true fl l T h x hx
    by_cases h4 : a < fl
    · simp [putF, h1, h4] at h
    · simp only [putF, h1, h4, if_false] at h ⊢
      rcases List.mem_cons.1 hx with rfl | hx
      · obtain ⟨U, e, _⟩ := putF_pre fl l (T ++ [x])
        rw [e]; simp
      · exact putF_true fl l _ h x hx
theorem putF_false (fl : Nat) : ∀ (l T : List Nat), (putF fl l T).2 = false → ∃ x, x ∈ l ∧ x < fl ∧ x ∉ T
  | [], _, h => by simp [putF] at h
  | a :: l, T, h => by
    by_cases h1 : a ∈ T
    · simp only [putF, h1, if_true] at h
      obtain ⟨x, h5, h6, h7⟩ := putF_false fl l T h
      exact ⟨x, List.mem_cons_of_mem _ h5, h6, h7⟩
    by_cases h4 : a < fl
    · exact ⟨a, List.mem_cons_self, h4, h1⟩
    · simp only [putF, h1, h4, if_false] at h
      obtain ⟨x, h5, h6, h7⟩ := putF_false fl l _ h
      exact ⟨x, List.mem_cons_of_mem _ h5, h6, fun h8 => h7 (List.mem_append_left _ h8)⟩
theorem putF_zero (l T : List Nat) : (putF 0 l T).2 = true := by
  cases h : (putF 0 l T).2 with
  | true => rfl
  | false => obtain ⟨x, _, h2, _⟩ := putF_false 0 l T h; omega

/-- How many premises a rule lacks. -/
def lackF (p : List Nat) (C : List Nat) : Nat := p.countP (fun y => decide (y ∉ C))
theorem lackF_zero {p C : List Nat} : lackF p C = 0 ↔ ∀ y, y ∈ p → y ∈ C := by
  unfold lackF
  rw [List.countP_eq_zero]
  simp
theorem lackF_snoc_in {a : Nat} {C : List Nat} (ha : a ∉ C) : ∀ {p : List Nat}, p.Nodup → a ∈ p → lackF p (C ++ [a]) + 1 = lackF p C
  | [], _, h => by simp at h
  | b :: p, hn, h => by
    have ⟨hb, hn'⟩ := List.nodup_cons.1 hn
    unfold lackF at *
    by_cases e : b = a
    · subst e
      have : p.countP (fun y => decide (y ∉ C ++ [b])) = p.countP (fun y => decide (y ∉ C)) := by
        apply List.countP_congr
        intro y hy
        have : y ≠ b := fun e => hb (e ▸ hy)
        simp [this]
      rw [List.countP_cons, List.countP_cons, this]
      simp [ha]
    · have ih := lackF_snoc_in ha hn' (by rcases List.mem_cons.1 h with h | h; exact absurd h.symm e; exact h)
      unfold lackF at ih
      rw [List.countP_cons, List.countP_cons]
      have e2 : decide (b ∉ C ++ [a]) = decide (b ∉ C) := by simp [e]
      rw [e2]
      omega
theorem lackF_snoc_out {a : Nat} {p C : List Nat} (h : a ∉ p) : lackF p (C ++ [a]) = lackF p C := by
  unfold lackF
  apply List.countP_congr
  intro y hy
  have : y ≠ a := fun e => h (e ▸ hy)
  simp [this]
theorem lackF_le (p C : List Nat) : lackF p C ≤ p.length := List.countP_le_length

/-- The premises of rule i. -/
def prem (R : List Hrl) (i : Nat) : List Nat := ((R[i]?).map Prod.fst).getD []
def conc (R : List Hrl) (i : Nat) : List Nat := ((R[i]?).map Prod.snd).getD []
theorem prem_of {R : List Hrl} {i : Nat} {r : Hrl} (h : R[i]? = some r) : prem R i = r.1 := by simp [prem, h]
theorem conc_of {R : List Hrl} {i : Nat} {r : Hrl} (h : R[i]? = some r) : conc R i = r.2 := by simp [conc, h]
/-- The rules of which a name is a premise. -/
def usesF (R : List Hrl) (a : Nat) : List Nat := (List.range R.length).filter (fun i => decide (a ∈ prem R i))
theorem mem_usesF {R : List Hrl} {a i : Nat} : i ∈ usesF R a ↔ i < R.length ∧ a ∈ prem R i := by simp [usesF]
theorem usesF_nodup (R : List Hrl) (a : Nat) : (usesF R a).Nodup := List.Nodup.sublist List.filter_sublist List.nodup_range
/-- What is laid down in lacking. -/
def lackR (R : List Hrl) (off : Nat → Nat) (C : List Nat) (i : Nat) : Nat := lackF (prem R i) C + off i

/-- What grow keeps: S0 is the set that the call began from. -/
structure GI (R : List Hrl) (off : Nat → Nat) (n fl : Nat) (S0 : Nat → Prop) (T0 T : List Nat) (k : Nat) (ok : Bool) (D : Nat → Prop) : Prop where
  pre : ∃ U, T = T0 ++ U ∧ ∀ x, x ∈ U → fl ≤ x
  nd : T.Nodup
  lt : ∀ x, x ∈ T → x < n
  snd : ∀ x, x ∈ T → Der (On R off) S0 x
  kle : k ≤ T.length
  sat : ok = true → ∀ i, i < R.length → off i = 0 → D i → (∀ y, y ∈ prem R i → y ∈ T.take k) → ∀ x, x ∈ conc R i → x ∈ T
  bad : ok = false → ∃ x, x < fl ∧ x ∉ T0 ∧ Der (On R off) S0 x
theorem GI.grow {R : List Hrl} {off : Nat → Nat} {n fl : Nat} {S0 : Nat → Prop} {T0 T : List Nat} {k : Nat} {ok : Bool} {D : Nat → Prop} (h : GI R off n fl S0 T0 T k ok D) (l : List Nat) (hn : ∀ x, x ∈ l → x < n) (hd : ∀ x, x ∈ l → Der (On R off) S0 x) (D' : Nat → Prop)
    (hD : (putF fl l T).2 = true → ∀ i, i < R.length → off i = 0 → D' i → (∀ y, y ∈ prem R i → y ∈ T.take k) → D i ∨ ∀ x, x ∈ conc R i → x ∈ l) :
    GI R off n fl S0 T0 (putF fl l T).1 k ((putF fl l T).2 && ok) D' := by
  obtain ⟨V, e, h1, h2⟩ := putF_pre fl l T
  obtain ⟨U, e0, hU⟩ := h.pre
  have htk : (T ++ V).take k = T.take k := by rw [List.take_append_of_le_length h.kle]
  rw [e]
  refine ⟨⟨U ++ V, by rw [e0, List.append_assoc], fun x hx => ?_⟩, h2 h.nd, fun x hx => ?_, fun x hx => ?_, by have := h.kle; rw [List.length_append]; omega, fun hok i hi ho hDi hp x hx => ?_, fun hb => ?_⟩
  · rcases List.mem_append.1 hx with hx | hx
    · exact hU x hx
    · exact (h1 x hx).2
  · rcases List.mem_append.1 hx with hx | hx
    · exact h.lt x hx
    · exact hn x (h1 x hx).1
  · rcases List.mem_append.1 hx with hx | hx
    · exact h.snd x hx
    · exact hd x (h1 x hx).1
  · rw [Bool.and_eq_true] at hok
    rw [htk] at hp
    rcases hD hok.1 i hi ho hDi hp with hd' | hd'
    · exact List.mem_append_left _ (h.sat hok.2 i hi ho hd' hp x hx)
    · rw [← e]; exact putF_true fl l T hok.1 x (hd' x hx)
  · rw [Bool.and_eq_false_iff] at hb
    rcases hb with hb | hb
    · obtain ⟨x, h5, h6, h7⟩ := putF_false fl l T hb
      exact ⟨x, h6, fun hx => h7 (by rw [e0]; exact List.mem_append_left _ hx), hd x h5⟩
    · exact h.bad hb
/-- The end of grow. -/
theorem GI.done {R : List Hrl} {off : Nat → Nat} {n fl : Nat} {S0 : Nat → Prop} {T0 T : List Nat} {ok : Bool} (h : GI R off n fl S0 T0 T T.length ok (fun _ => True)) (hok : ok = true) (hS : ∀ x, S0 x → x ∈ T) : ∀ x, x ∈ T ↔ Der (On R off) S0 x := by
  intro x
  refine ⟨h.snd x, fun hx => ?_⟩
  refine der_least (C := fun x => x ∈ T) (fun r hr hp x hx => ?_) hS hx
  obtain ⟨i, hi, ho⟩ := hr
  refine h.sat hok i (List.getElem?_eq_some_iff.1 hi).1 ho trivial (fun y hy => ?_) x (by rw [conc_of hi]; exact hx)
  rw [prem_of hi] at hy
  simpa using hp y hy
end Go.Proofs.Ytedohggbpmcehaa

/- What a round of a chase keeps. Plain mathematics. -/
namespace Go.Proofs.Ytedohggbpmcehaa
open Go.RowKit

def mixL (R : List Hrl) (off : Nat → Nat) (us : List Nat) (j : Nat) (C C' : List Nat) (i : Nat) : Nat := if i ∈ us.take j then lackR R off C' i else lackR R off C i
theorem lackR_step {R : List Hrl} {off : Nat → Nat} {C : List Nat} {a i : Nat} (ha : a ∉ C) (hi : i ∈ usesF R a) (hp : (prem R i).Nodup) : lackR R off C i = lackR R off (C ++ [a]) i + 1 := by
  have := lackF_snoc_in ha hp (mem_usesF.1 hi).2
  unfold lackR
  omega
theorem lackR_out {R : List Hrl} {off : Nat → Nat} {C : List Nat} {a i : Nat} (hi : i < R.length) (h : i ∉ usesF R a) : lackR R off C i = lackR R off (C ++ [a]) i := by
  unfold lackR
  rw [lackF_snoc_out (fun h2 => h (mem_usesF.2 ⟨hi, h2⟩))]
theorem lackR_zero {R : List Hrl} {off : Nat → Nat} {C : List Nat} {i : Nat} : lackR R off C i = 0 ↔ off i = 0 ∧ ∀ y, y ∈ prem R i → y ∈ C := by
  unfold lackR
  rw [← lackF_zero (p := prem R i)]
  omega
theorem take_snoc_get {α : Type} {T : List α} {k : Nat} {a : α} (h : T[k]? = some a) : T.take (k + 1) = T.take k ++ [a] := by
  rw [List.take_add_one, h]; rfl
theorem not_take {T : List Nat} {k a : Nat} (hn : T.Nodup) (h : T[k]? = some a) : a ∉ T.take k := by
  intro h2
  obtain ⟨j, hj⟩ := List.getElem?_of_mem h2
  have h3 := (List.getElem?_eq_some_iff.1 hj).1
  simp at h3
  rw [List.getElem?_take_of_lt (by omega)] at hj
  obtain ⟨a1, a2⟩ := List.getElem?_eq_some_iff.1 h
  obtain ⟨b1, b2⟩ := List.getElem?_eq_some_iff.1 hj
  have := (List.getElem_inj hn).1 (a2.trans b2.symm)
  omega
theorem mixL_zero (R : List Hrl) (off : Nat → Nat) (us C C' : List Nat) (i : Nat) : mixL R off us 0 C C' i = lackR R off C i := by simp [mixL]
theorem mixL_at {R : List Hrl} {off : Nat → Nat} {us C C' : List Nat} {j r : Nat} (hn : us.Nodup) (h : us[j]? = some r) : mixL R off us j C C' r = lackR R off C r := by
  unfold mixL
  rw [if_neg (not_take hn h)]
theorem mixL_next {R : List Hrl} {off : Nat → Nat} {us C C' : List Nat} {j r : Nat} (h : us[j]? = some r) (i : Nat) : (if i = r then lackR R off C' r else mixL R off us j C C' i) = mixL R off us (j + 1) C C' i := by
  unfold mixL
  rw [take_snoc_get h]
  by_cases e : i = r
  · subst e; simp
  · simp [e]
theorem mixL_end {R : List Hrl} {off : Nat → Nat} {C : List Nat} {a i : Nat} (hi : i < R.length) : mixL R off (usesF R a) (usesF R a).length C (C ++ [a]) i = lackR R off (C ++ [a]) i := by
  unfold mixL
  rw [List.take_length]
  by_cases h : i ∈ usesF R a
  · rw [if_pos h]
  · rw [if_neg h, lackR_out hi h]
theorem GI.next {R : List Hrl} {off : Nat → Nat} {n fl : Nat} {S0 : Nat → Prop} {T0 T : List Nat} {k a : Nat} {ok : Bool} (h : GI R off n fl S0 T0 T k ok (fun _ => True)) (ha : T[k]? = some a) : GI R off n fl S0 T0 T (k + 1) ok (fun i => i ∈ usesF R a → i ∈ (usesF R a).take 0) := by
  refine ⟨h.pre, h.nd, h.lt, h.snd, by have := (List.getElem?_eq_some_iff.1 ha).1; omega, fun hok i hi ho hD hp x hx => h.sat hok i hi ho trivial (fun y hy => ?_) x hx, h.bad⟩
  have h1 := hp y hy
  rw [take_snoc_get ha, List.mem_append, List.mem_singleton] at h1
  rcases h1 with h1 | h1
  · exact h1
  · exact absurd (hD (mem_usesF.2 ⟨hi, h1 ▸ hy⟩)) (by simp)
theorem GI.skip {R : List Hrl} {off : Nat → Nat} {n fl : Nat} {S0 : Nat → Prop} {T0 T : List Nat} {k r j : Nat} {us : List Nat} {ok : Bool} (h : GI R off n fl S0 T0 T k ok (fun i => i ∈ us → i ∈ us.take j)) (hr : us[j]? = some r) (hl : lackR R off (T.take k) r ≠ 0) :
    GI R off n fl S0 T0 T k ok (fun i => i ∈ us → i ∈ us.take (j + 1)) := by
  refine ⟨h.pre, h.nd, h.lt, h.snd, h.kle, fun hok i hi ho hD hp x hx => ?_, h.bad⟩
  by_cases e : i = r
  · subst e
    exact absurd (lackR_zero.2 ⟨ho, hp⟩) hl
  · refine h.sat hok i hi ho (fun hu => ?_) hp x hx
    have := hD hu
    rw [take_snoc_get hr, List.mem_append, List.mem_singleton] at this
    rcases this with h1 | h1
    · exact h1
    · exact absurd h1 e
theorem GI.fire {R : List Hrl} {off : Nat → Nat} {n fl : Nat} {S0 : Nat → Prop} {T0 T : List Nat} {k r j : Nat} {us : List Nat} {ok : Bool} (h : GI R off n fl S0 T0 T k ok (fun i => i ∈ us → i ∈ us.take j)) (hr : us[j]? = some r) (hrl : r < R.length) (hl : lackR R off (T.take k) r = 0)
    (hc : ∀ x, x ∈ conc R r → x < n) :
    GI R off n fl S0 T0 (putF fl (conc R r) T).1 k ((putF fl (conc R r) T).2 && ok) (fun i => i ∈ us → i ∈ us.take (j + 1)) := by
  obtain ⟨ho, hp⟩ := lackR_zero.1 hl
  refine h.grow (conc R r) hc (fun x hx => ?_) _ (fun _ i hi hoi hD hpi => ?_)
  · have hg : R[r]? = some R[r] := List.getElem?_eq_getElem hrl
    refine .rule (r := R[r]) ⟨r, hg, ho⟩ (fun y hy => h.snd y (List.mem_of_mem_take (hp y (by rw [prem_of hg]; exact hy)))) (by rw [conc_of hg] at hx; exact hx)
  · by_cases e : i = r
    · subst e; exact .inr fun _ h => h
    · refine .inl fun hu => ?_
      have := hD hu
      rw [take_snoc_get hr, List.mem_append, List.mem_singleton] at this
      rcases this with h1 | h1
      · exact h1
      · exact absurd h1 e
theorem GI.all {R : List Hrl} {off : Nat → Nat} {n fl : Nat} {S0 : Nat → Prop} {T0 T : List Nat} {k : Nat} {us : List Nat} {ok : Bool} (h : GI R off n fl S0 T0 T k ok (fun i => i ∈ us → i ∈ us.take us.length)) : GI R off n fl S0 T0 T k ok (fun _ => True) :=
  ⟨h.pre, h.nd, h.lt, h.snd, h.kle, fun hok i hi ho _ hp x hx => h.sat hok i hi ho (by rw [List.take_length]; exact id) hp x hx, h.bad⟩
/-- Of the rules whose premises are counted, the conclusions are there. -/
def Sat (R : List Hrl) (off : Nat → Nat) (T : List Nat) (k : Nat) : Prop := ∀ i, i < R.length → off i = 0 → (∀ y, y ∈ prem R i → y ∈ T.take k) → ∀ x, x ∈ conc R i → x ∈ T
theorem GI.start {R : List Hrl} {off : Nat → Nat} {n fl : Nat} {T : List Nat} {k : Nat} {l : List Nat} (hnd : T.Nodup) (hlt : ∀ x ∈ T, x < n) (hk : k ≤ T.length) (hs : Sat R off T k) (hl : ∀ x, x ∈ l → x < n) :
    GI R off n fl (fun x => x ∈ T ∨ x ∈ l) T (putF fl l T).1 k (putF fl l T).2 (fun _ => True) := by
  have h0 : GI R off n fl (fun x => x ∈ T ∨ x ∈ l) T T k true (fun _ => True) := ⟨⟨[], by simp, by simp⟩, hnd, hlt, fun x hx => .base (.inl hx), hk, fun _ i hi ho _ hp => hs i hi ho hp, fun h => by cases h⟩
  have := h0.grow l hl (fun x hx => .base (.inr hx)) (fun _ => True) (fun _ _ _ _ _ _ => .inl trivial)
  rwa [Bool.and_true] at this
theorem GI.closed {R : List Hrl} {off : Nat → Nat} {n fl : Nat} {S0 : Nat → Prop} {T0 T : List Nat} {k : Nat} (h : GI R off n fl S0 T0 T k true (fun _ => True)) : Sat R off T k := fun i hi ho hp => h.sat rfl i hi ho trivial hp
theorem nodup_bound : ∀ (n : Nat) (L : List Nat), L.Nodup → (∀ x ∈ L, x < n) → L.length ≤ n
  | 0, L, _, h => by
    cases L with
    | nil => simp
    | cons a r => have := h a (by simp); omega
  | n + 1, L, hd, h => by
    have := nodup_bound n (L.erase n) (hd.erase n) (fun x hx => by
      have h1 := (hd.mem_erase_iff).1 hx
      have := h x h1.2
      omega)
    rw [List.length_erase] at this
    split at this <;> omega
end Go.Proofs.Ytedohggbpmcehaa

/- append of whatever source (a slice, a nil slice, a string) onto a slice that the call owns: the law for the walk. It asks that the sizes fit. -/
namespace Go.Proofs.Ytedohggbpmcehaa

section
variable {P : Program} (w : World)

theorem run_append_src_own (base : Nat) (t tx ty e : TypeId) (i : TypeInfo) (z : Value) (size bytes : Nat) (ht : P.underlying t = some (.slice e)) (hi : P.info? e = some i) (hz : i.zero = some z)
    (hsize : i.size = size) (hby : i.bytes = bytes) (hzs : z.cells.size = size) (hsz : 0 < size)
    (v : Value) (n : Nat) (xs : List Value) (hown : w.ownsRow base e size v n xs) (x : Value) (m : Nat) (news : List Value) (hs : Src P size tx x m news w)
    (h63 : n + m ≤ maxLen) (hbytes : (n + m) * bytes ≤ 140737488355328) (hbase : base ≤ w.heap.size) :
    ∃ v' w', (Builtin.append_ #[t, tx] ty #[v, x]).run P w = .ok v' w' ∧ w'.ownsRow base e size v' (n + m) (xs ++ news) ∧ w.grownBy w' v.ownBlock ∧
      (v' = .slice none 0 0 ↔ v = .slice none 0 0 ∧ m = 0) ∧ (v'.ownBlock = v.ownBlock ∨ v'.ownBlock = some w.heap.size) := by
  subst hsize
  subst hby
  have hl := hs.newsLen
  have hsmall : n + m ≤ 9223372036854775807 := by simp only [maxLen] at h63; omega
  have hlen : (xs ++ news).length = (n + m) * i.size := by rw [List.length_append, hown.1, hl, Nat.add_mul]
  have grown : ∀ (old : Nat), old < n + m → ∀ (row : Option Nat),
      (w.drew.alloc (.cells ((xs ++ news).toArray ++ Builtin.zeroCells z.cells (grownCap w (n + m) old e - (n + m))) e)).ownsRow base e i.size
        (.slice (some ⟨w.heap.size, 0, none⟩) (n + m) (grownCap w (n + m) old e)) (n + m) (xs ++ news) ∧
      w.grownBy (w.drew.alloc (.cells ((xs ++ news).toArray ++ Builtin.zeroCells z.cells (grownCap w (n + m) old e - (n + m))) e)) row := by
    intro old ho row
    have hge := grownCap_ge w (n + m) old e
    have hcm : grownCap w (n + m) old e ≤ maxLen := grownCap_le_maxLen w (n + m) old e h63
    refine ⟨⟨hlen, .inr ⟨w.heap.size, _, _, rfl, hbase, heap_alloc_new w.drew _, hge, hcm, ?_, ?_⟩⟩, ⟨rfl, rfl, rfl, by simp, fun k hk _ => Go.RowKit.Below.heap_alloc w.drew _ k hk⟩⟩
    · rw [Array.size_append, List.size_toArray, size_zeroCells, hzs, hlen, ← Nat.add_mul]
      congr 1
      omega
    · rw [Array.toList_append, ← hlen]
      exact List.take_left
  rcases hown.2 with ⟨rfl, rfl⟩ | ⟨g, cap, cur, rfl, hbg, hg, hnc, hcm, hcs, htake⟩
  · have hx : xs = [] := List.eq_nil_of_length_eq_zero (by simpa using hown.1)
    subst hx
    by_cases hm : m = 0
    · subst hm
      have hn : news = [] := List.eq_nil_of_length_eq_zero (by simpa using hl)
      subst hn
      refine ⟨.slice none 0 0, w, ?_, World.ownsRow_nil w base e i.size, ⟨rfl, rfl, rfl, Nat.le_refl _, fun _ _ _ => rfl⟩, by simp, Or.inl rfl⟩
      rcases hs.kind with ⟨e', hk⟩ | hk <;> simp [Builtin.append_, run_underlying ht, run_underlying hk, sizeOf, typeInfo, hi, hs.len, hs.cells]
    · have hr := run_append_grow_src (P := P) w t tx ty e i z ht hi hz none 0 0 [] (by simp [Builtin.firstCells]) x m news hs (by omega) (by omega) (growslice_fits (by omega) hbytes)
      have hgr := grown 0 (by omega) (Value.ownBlock (.slice none 0 0))
      exact ⟨_, _, hr, hgr.1, hgr.2, by simp [hm], Or.inr rfl⟩
  · by_cases hroom : n + m ≤ cap
    · have hfit : n * i.size + news.length ≤ cur.size := by rw [hl, hcs, ← Nat.add_mul]; exact Nat.mul_le_mul_right _ hroom
      have hst := run_storeCells_at P g (n * i.size) e news 0 cur w hg (by simpa using hfit) hs.one
      simp only [Nat.add_zero] at hst
      have hr : (Builtin.append_ #[t, tx] ty #[.slice (some ⟨g, 0, none⟩) n cap, x]).run P w =
          .ok (.slice (some ⟨g, 0, none⟩) (n + m) cap) (w.setRow g (cur.toList.take (n * i.size) ++ news ++ cur.toList.drop (n * i.size + news.length)).toArray) := by
        rcases hs.kind with ⟨e', hk⟩ | hk <;> simp [Builtin.append_, run_underlying ht, run_underlying hk, sizeOf, typeInfo, hi, hs.len, hroom, hs.cells, Addr.add_lit, hst]
      refine ⟨_, _, hr, ⟨hlen, .inr ⟨g, cap, _, rfl, hbg, setRow_heap w g cur _ e _ hg, hroom, hcm, ?_, ?_⟩⟩, ⟨rfl, rfl, rfl, by simp, fun k _ hk => setRow_other w g k _ (fun e => hk (by simp [Value.ownBlock, e]))⟩, by simp, Or.inl rfl⟩
      · simp only [List.size_toArray, List.length_append, List.length_take, List.length_drop, Array.length_toList]
        omega
      · rw [htake, ← hlen]
        exact List.take_left
    · have holds : ∀ j u, xs[j]? = some u → w.drew.cell? ((⟨g, 0, none⟩ : Addr).add j) = some u := by simpa using hown.cells (g := g) rfl
      have hr := run_append_grow_src (P := P) w t tx ty e i z ht hi hz (some ⟨g, 0, none⟩) n cap xs (run_firstCells_some w.drew i.size n ⟨g, 0, none⟩ n cap xs hown.1 holds) x m news hs (by omega) (by omega) (growslice_fits (by omega) hbytes)
      have hgr := grown cap (by omega) (Value.ownBlock (.slice (some ⟨g, 0, none⟩) n cap))
      exact ⟨_, _, hr, hgr.1, hgr.2, by simp, Or.inr rfl⟩

theorem wp_append_src {o : Oper} {a : Act} {K : Act → World → Prop} {Q : Exit → Act → World → Prop} (s x : Operand) (t tx : TypeId)
    (ho : o.op = .call { callee := .builtin .append, args := #[s, x], argTypes := #[t, tx] })
    (base : Nat) (e : TypeId) (i : TypeInfo) (z : Value) (size bytes : Nat) (ht : P.underlying t = some (.slice e)) (hi : P.info? e = some i) (hz : i.zero = some z)
    (hsize : i.size = size) (hby : i.bytes = bytes) (hzs : z.cells.size = size) (hsz : 0 < size)
    (v : Value) (n : Nat) (xs : List Value) (he : a.eval s = v) (hown : w.ownsRow base e size v n xs) (y : Value) (m : Nat) (news : List Value) (hx : a.eval x = y) (hs : Src P size tx y m news w)
    (h63 : n + m ≤ maxLen) (hbytes : (n + m) * bytes ≤ 140737488355328) (hbase : base ≤ w.heap.size)
    (h : ∀ v' w', w'.ownsRow base e size v' (n + m) (xs ++ news) → w.grownBy w' v.ownBlock → (v' = .slice none 0 0 ↔ v = .slice none 0 0 ∧ m = 0) → (v'.ownBlock = v.ownBlock ∨ v'.ownBlock = some w.heap.size) → K (a.put o.dst v') w') :
    Oper.wp P o a w K Q := by
  obtain ⟨v', w', hr, h2, h3, h4, h5⟩ := run_append_src_own (P := P) w base t tx o.type e i z size bytes ht hi hz hsize hby hzs hsz v n xs hown y m news hs h63 hbytes hbase
  unfold Oper.wp execOp
  simp only [ho, resolve, invoke, builtin, Sem.run_bind, Sem.run_pure, Result.andThen_ok, List.map_toArray, List.map_cons, List.map_nil, he, hx, hr]
  exact h v' w' h2 h3 h4 h5

theorem wpList_append_src {ops : Array Oper} {rest : List Oper} {o : Oper} {a : Act} {Q : Exit → Act → World → Prop} (hgd : o.guard = none) (s x : Operand) (t tx : TypeId)
    (ho : o.op = .call { callee := .builtin .append, args := #[s, x], argTypes := #[t, tx] })
    (base : Nat) (e : TypeId) (i : TypeInfo) (z : Value) (size bytes : Nat) (ht : P.underlying t = some (.slice e)) (hi : P.info? e = some i) (hz : i.zero = some z)
    (hsize : i.size = size) (hby : i.bytes = bytes) (hzs : z.cells.size = size) (hsz : 0 < size)
    (v : Value) (n : Nat) (xs : List Value) (he : a.eval s = v) (hown : w.ownsRow base e size v n xs) (y : Value) (m : Nat) (news : List Value) (hx : a.eval x = y) (hs : Src P size tx y m news w)
    (h63 : n + m ≤ maxLen) (hbytes : (n + m) * bytes ≤ 140737488355328) (hbase : base ≤ w.heap.size)
    (h : ∀ v' w', w'.ownsRow base e size v' (n + m) (xs ++ news) → w.grownBy w' v.ownBlock → (v' = .slice none 0 0 ↔ v = .slice none 0 0 ∧ m = 0) → (v'.ownBlock = v.ownBlock ∨ v'.ownBlock = some w.heap.size) → wpList P ops Q rest (a.put o.dst v') w') :
    wpList P ops Q (o :: rest) a w :=
  wpList_plain hgd fun _ hK => wp_append_src w s x t tx ho base e i z size bytes ht hi hz hsize hby hzs hsz v n xs he hown y m news hx hs h63 hbytes hbase fun v' w' h2 h3 h4 h5 => hK _ _ (h v' w' h2 h3 h4 h5)

theorem step_append_src {ops : Array Oper} {o : Oper} {a : Act} {K : Act → World → Prop} {Q : Exit → Act → World → Prop} {E : Prop} (hgd : o.guard = none) (s x : Operand) (t tx : TypeId)
    (ho : o.op = .call { callee := .builtin .append, args := #[s, x], argTypes := #[t, tx] })
    (base : Nat) (e : TypeId) (i : TypeInfo) (z : Value) (size bytes : Nat) (ht : P.underlying t = some (.slice e)) (hi : P.info? e = some i) (hz : i.zero = some z)
    (hsize : i.size = size) (hby : i.bytes = bytes) (hzs : z.cells.size = size) (hsz : 0 < size)
    (v : Value) (n : Nat) (xs : List Value) (he : a.eval s = v) (hown : w.ownsRow base e size v n xs) (y : Value) (m : Nat) (news : List Value) (hx : a.eval x = y) (hs : Src P size tx y m news w)
    (h63 : n + m ≤ maxLen) (hbytes : (n + m) * bytes ≤ 140737488355328) (hbase : base ≤ w.heap.size)
    (h : ∀ v' w', w'.ownsRow base e size v' (n + m) (xs ++ news) → w.grownBy w' v.ownBlock → (v' = .slice none 0 0 ↔ v = .slice none 0 0 ∧ m = 0) → (v'.ownBlock = v.ownBlock ∨ v'.ownBlock = some w.heap.size) → K (a.put o.dst v') w') :
    if Region.wanted o (yielded ops a.tmps) = true then Oper.wp P o a w K Q else E := by
  have hw : Region.wanted o (yielded ops a.tmps) = true := by simp [Region.wanted, hgd]
  rw [if_pos hw]
  exact wp_append_src w s x t tx ho base e i z size bytes ht hi hz hsize hby hzs hsz v n xs he hown y m news hx hs h63 hbytes hbase h

end
end Go.Proofs.Ytedohggbpmcehaa

/- Slices of elements of one cell: what a slice reads as, a slice of the call's own, append of the one onto the other. Bounds on sizes alone. -/
namespace Go.Proofs.Ytedohggbpmcehaa
open Go.RowKit

theorem hid_of {p : Prop} (h : p) : Hid p := h
theorem bel_alloc (w : World) (o : Obj) : Below w.heap.size w (w.alloc o) := (Below.refl _ _).alloc (Nat.le_refl _) o
theorem bel_fst {w w' : World} {o : Obj} (h : Below (w.alloc o).heap.size (w.alloc o) w') : Below w.heap.size w w' :=
  (bel_alloc w o).trans (h.mono (by simp))

theorem bel_drewN {B : Nat} {w w' : World} (h : Below B w w') (n : Nat) : Below B w (w'.drewN n) := ⟨h.os, h.tape, h.output, h.size, h.block⟩
/-- A slice type S over an element type E of one cell. -/
structure Elem (P : Program) (S E : TypeId) (z : Value) (eb : Nat) : Prop where
  und : P.underlying S = some (.slice E)
  info : (P.info? E).map (fun i => (i.zero, i.size, i.bytes)) = some (some z, 1, eb)
  one : z.cells.size = 1

/-- The slice v reads as the cells xs. -/
def Rd (w : World) (v : Value) (xs : List Value) : Prop :=
  ∃ ao cap, v = .slice ao xs.length cap ∧ xs.length ≤ cap ∧ cap ≤ 9223372036854775807 ∧ (0 < xs.length → ∃ g o, ao = some ⟨g, o, none⟩ ∧ g < w.heap.size ∧ ∀ j u, xs[j]? = some u → w.cell? ⟨g, o + j, none⟩ = some u)
theorem Rd.later {w w' : World} {v : Value} {l : List Value} {B : Nat} (h : Rd w v l) (hb : Below B w w') (hB : w.heap.size ≤ B) : Rd w' v l := by
  obtain ⟨ao, cap, h1, h2, h3, h4⟩ := h
  refine ⟨ao, cap, h1, h2, h3, fun h0 => ?_⟩
  obtain ⟨g, o, q1, q2, q3⟩ := h4 h0
  exact ⟨g, o, q1, Nat.lt_of_lt_of_le q2 hb.size, fun j u hu => (hb.cell (p := ⟨g, o + j, none⟩) (by show g < B; omega)).trans (q3 j u hu)⟩
theorem Rd.at {w w' : World} {v : Value} {l : List Value} (h : Rd w v l) (hb : Below w.heap.size w w') : Rd w' v l := h.later hb (Nat.le_refl _)

theorem spot_none {w : World} {x : Addr} {u : Value} (h : w.cell? x = some u) : x = ⟨x.block, x.off, none⟩ := by
  obtain ⟨b, o, s⟩ := x
  cases s with
  | none => rfl
  | some s =>
    exfalso
    unfold World.cell? at h
    split at h <;> simp at h

/-- What the walk is told of a slice of integers that came in. -/
def IsRow (k : IntKind) (w : World) (a : Option Addr) (len cap : Nat) (zs : List Int) : Prop :=
  (a = none ∧ len = 0 ∧ cap = 0 ∧ zs = []) ∨
  ∃ x, a = some x ∧ len ≤ cap ∧ cap ≤ maxLen ∧ zs.length = cap ∧ (∀ i, i < zs.length → w.cell? (x.add i) = some (.int k (zs.getD i 0))) ∧ ∀ n ∈ zs, (Lit.int k n).wf = true

/-- A row of integers that came in, as a list. -/
theorem IsRow.rd {k : IntKind} {w : World} {a : Option Addr} {len cap : Nat} {zs : List Int} (h : IsRow k w a len cap zs) :
    ∃ l : List Int, l.length = len ∧ (∀ y ∈ l, (Lit.int k y).wf = true) ∧ Rd w (.slice a len cap) (l.map (Value.int k)) := by
  rcases h with ⟨rfl, rfl, rfl, rfl⟩ | ⟨x, rfl, h1, h2, h3, h4, h5⟩
  · exact ⟨[], rfl, by simp, none, 0, rfl, by simp, by omega, fun h => by simp at h⟩
  · unfold maxLen at h2
    have htl : (zs.take len).length = len := by rw [List.length_take]; omega
    refine ⟨zs.take len, htl, fun y hy => h5 y (List.mem_of_mem_take hy), some x, cap, by rw [List.length_map, htl], by rw [List.length_map]; omega, by omega, fun h0 => ?_⟩
    rw [List.length_map, htl] at h0
    have h6 := h4 0 (by omega)
    rw [show x.add 0 = x by rfl] at h6
    have hx := spot_none h6
    refine ⟨x.block, x.off, by rw [← hx], World.block_lt_of_cell? w _ h6, fun j u hu => ?_⟩
    have hj : j < len := by
      have := (List.getElem?_eq_some_iff.1 hu).1
      simp at this; omega
    have h7 := h4 j (by omega)
    rw [hx, Addr.add_mid] at h7
    rw [h7]
    simp only [List.getElem?_map, List.getElem?_take, hj, if_true] at hu
    rw [List.getElem?_eq_getElem (by omega)] at hu
    simp only [Option.map_some, Option.some.injEq] at hu
    rw [← hu]
    simp [List.getD, show j < zs.length by omega]

theorem Rd.srcs {P : Program} {S E : TypeId} {z : Value} {eb : Nat} (T : Elem P S E z eb) {w : World} {v : Value} {l : List Value} (h : Rd w v l) (h1 : ∀ u ∈ l, u.oneCell' = true) : Src P 1 S v l.length l w := by
  obtain ⟨ao, cap, rfl, h2, h3, h4⟩ := h
  cases ao with
  | none =>
    cases l with
    | nil => exact Src.ofNil _ T.und cap
    | cons x r => obtain ⟨g, o, q, _⟩ := h4 (by simp); cases q
  | some a =>
    refine Src.ofSlice _ T.und a l.length cap l (by simp) (fun j u hu => ?_) h1
    have h0 : 0 < l.length := by
      have := (List.getElem?_eq_some_iff.1 hu).1
      omega
    obtain ⟨g, o, q1, q2, q3⟩ := h4 h0
    cases q1
    rw [Addr.add_mid]; exact q3 j u hu

theorem own_shape {w : World} {base e size n : Nat} {v : Value} {xs : List Value} (h : w.ownsRow base e size v n xs) : ∃ ao cap, v = .slice ao n cap := by
  rcases h.2 with ⟨h1, h2⟩ | ⟨g, cap, cur, h1, _⟩
  · exact ⟨none, 0, by rw [h1, h2]⟩
  · exact ⟨_, cap, h1⟩

/-- A slice of the call's own that holds l; below B the world is as w0 was. -/
def Ow (E : TypeId) (B : Nat) (w0 w : World) (v : Value) (l : List Value) : Prop := B ≤ w0.heap.size ∧ Below B w0 w ∧ w.ownsRow B E 1 v l.length l
section
variable {E : TypeId} {B : Nat} {w0 w w' : World} {v : Value} {l : List Value}
theorem Ow.size (h : Ow E B w0 w v l) : B ≤ w.heap.size := Nat.le_trans h.1 h.2.1.size
theorem Ow.own (h : Ow E B w0 w v l) : w.ownsRow B E 1 v l.length l := h.2.2
theorem Ow.bel (h : Ow E B w0 w v l) : Below B w0 w := h.2.1
theorem Ow.alloc (h : Ow E B w0 w v l) (o : Obj) : Ow E B w0 (w.alloc o) v l := ⟨h.1, h.2.1.alloc h.size _, h.2.2.alloc o⟩
theorem Ow.drew (h : Ow E B w0 w v l) : Ow E B w0 w.drew v l := ⟨h.1, h.2.1.drew, h.2.2.drew⟩
theorem Ow.app {n : Nat} {v' : Value} {m : List Value} (h : Ow E B w0 w v l) (hown : w'.ownsRow B E 1 v' n (l ++ m)) (hn : n = l.length + m.length) (hg : w.grownBy w' v.ownBlock) : Ow E B w0 w' v' (l ++ m) := by
  subst hn
  refine ⟨h.1, h.2.1.grown hg h.size (fun k hk => (h.own.lt k hk).1), ?_⟩
  rw [List.length_append]
  exact hown
/-- What is owned stays owned where the row's block is as it was. -/
theorem own_same {w w' : World} {base e size n : Nat} {v : Value} {xs : List Value} (h : w.ownsRow base e size v n xs) (hs : ∀ k, v.ownBlock = some k → w'.heap[k]? = w.heap[k]?) : w'.ownsRow base e size v n xs := by
  obtain ⟨h1, h2⟩ := h
  refine ⟨h1, ?_⟩
  rcases h2 with h2 | ⟨g, cap, cur, hv, hb, hg, r⟩
  · exact .inl h2
  · exact .inr ⟨g, cap, cur, hv, hb, (hs g (by rw [hv]; rfl)).trans hg, r⟩
theorem Ow.later (h : Ow E B w0 w v l) (hb : Below w.heap.size w w') : Ow E B w0 w' v l :=
  ⟨h.1, h.2.1.trans (hb.mono h.size), own_same h.own fun k hk => hb.block k (h.own.lt k hk).2⟩
theorem ow_made {n g : Nat} (hown : w'.ownsRow w.heap.size E 1 (.slice (some ⟨g, 0, none⟩) 0 n) 0 []) (hgrow : w.grownBy w' none) : Ow E w.heap.size w w' (.slice (some ⟨g, 0, none⟩) 0 n) [] :=
  ⟨Nat.le_refl _, (Below.refl _ _).grown hgrow (Nat.le_refl _) (fun k h => by cases h), hown⟩
theorem ow_empty (E : TypeId) (w : World) : Ow E w.heap.size w (w.alloc (.cells #[] E)) (.slice (some ⟨w.heap.size, 0, none⟩) 0 0) [] :=
  ⟨Nat.le_refl _, bel_alloc w _, rfl, .inr ⟨w.heap.size, 0, #[], rfl, Nat.le_refl _, heap_alloc_new w _, Nat.le_refl _, by unfold maxLen; omega, rfl, rfl⟩⟩
theorem ow_nil (E : TypeId) (w : World) : Ow E w.heap.size w w (.slice none 0 0) [] := ⟨Nat.le_refl _, Below.refl _ _, World.ownsRow_nil _ _ _ _⟩
theorem Ow.start (h : Ow E B w0 w v l) {B2 : Nat} {w2 : World} (hB : B2 ≤ w2.heap.size) (hb : Below B2 w2 w0) (hle : B2 ≤ B) : Ow E B2 w2 w v l := by
  refine ⟨hB, hb.trans (h.bel.mono hle), h.own.1, ?_⟩
  rcases h.own.2 with h2 | ⟨g, cap, cur, hv, hb2, hg, r⟩
  · exact .inl h2
  · exact .inr ⟨g, cap, cur, hv, Nat.le_trans hle hb2, hg, r⟩
theorem Ow.rd (h : Ow E B w0 w v l) (_hl : l.length ≤ 140737488355328) : Rd w v l := by
  rcases h.own.2 with ⟨h1, h2⟩ | ⟨g, c, cur, h1, _, hg, hnc, hcm, _, ht⟩
  · exact ⟨none, 0, by rw [h1, h2], by omega, by omega, fun h => by omega⟩
  · unfold maxLen at hcm
    refine ⟨_, _, h1, hnc, by omega, fun h0 => ⟨g, 0, rfl, lt_of_block hg, fun j u hu => ?_⟩⟩
    have := World.news_of_block hg j u (by
      rw [← ht, List.getElem?_take] at hu
      split at hu
      · exact hu
      · cases hu)
    rw [Addr.add_mid] at this
    exact this
end

/-- A slice over a block that was made last. -/
theorem rd_new {w : World} {l : List Value} {n : Nat} {cs : Array Value} {E : TypeId} {m : Nat × Nat} (hn : n = l.length) (hc : cs = l.toArray) (h : l.length ≤ 9223372036854775807) : Rd (w.alloc (.cells cs E m)) (.slice (some ⟨w.heap.size, 0, none⟩) n n) l := by
  subst hn hc
  refine ⟨_, _, rfl, Nat.le_refl _, h, fun _ => ⟨_, _, rfl, by simp, fun j u hu => ?_⟩⟩
  have := World.news_of_block (heap_alloc_new w (.cells l.toArray E m)) j u (by simpa using hu)
  rw [Addr.add_mid] at this
  exact this

/-- append of a row. -/
theorem wpList_app {P : Program} {S E : TypeId} {z : Value} {eb : Nat} (T : Elem P S E z eb) {ops : Array Oper} {rest : List Oper} {o : Oper} {a : Act} {w : World} {Q : Exit → Act → World → Prop} (hgd : o.guard = none) (s x : Operand)
    (ho : o.op = .call { callee := .builtin .append, args := #[s, x], argTypes := #[S, S] })
    {B : Nat} {w0 : World} {v : Value} {l : List Value} (hv : a.eval s = v) (H : Ow E B w0 w v l) {vx : Value} {m : List Value} (hx : a.eval x = vx) (L : Rd w vx m) (h1 : ∀ u ∈ m, u.oneCell' = true) (hl : (l.length + m.length) * eb ≤ 140737488355328) (hl2 : l.length + m.length ≤ 140737488355328)
    (h : ∀ (ao : Option Addr) (n cap : Nat) (w' : World), n = l.length + m.length → Ow E B w0 w' (.slice ao n cap) (l ++ m) → wpList P ops Q rest (a.put o.dst (.slice ao n cap)) w') :
    wpList P ops Q (o :: rest) a w := by
  obtain ⟨i0, hi, hz0, hz1, hz2⟩ := info_parts T.info
  refine wpList_append_src _ hgd s x S S ho B E i0 z 1 eb T.und hi hz0 hz1 hz2 T.one (by decide) v l.length l hv H.own vx m.length m hx (L.srcs T h1) (by unfold maxLen; omega) (by omega) H.size ?_
  intro v2 w2 hown hg _ _
  have H2 := H.app hown rfl hg
  obtain ⟨ao, cap, rfl⟩ := own_shape hown
  exact h ao _ cap w2 rfl H2

/-- Between w and w' nothing has turned but the blocks of S and new ones. -/
structure Kept (S : Nat → Prop) (w w' : World) : Prop where
  os : w'.os = w.os
  tape : w'.tape = w.tape
  output : w'.output = w.output
  size : w.heap.size ≤ w'.heap.size
  block : ∀ k, k < w.heap.size → ¬ S k → w'.heap[k]? = w.heap[k]?
theorem Kept.below {S : Nat → Prop} {w w' : World} {B : Nat} (h : Kept S w w') (hB : B ≤ w.heap.size) (hS : ∀ k, S k → B ≤ k) : Below B w w' :=
  ⟨h.os, h.tape, h.output, h.size, fun k hk => h.block k (by omega) (fun hs => by have := hS k hs; omega)⟩
theorem Kept.drew {S : Nat → Prop} {w w' : World} (h : Kept S w w') : Kept S w w'.drew := ⟨h.os, h.tape, h.output, h.size, h.block⟩
theorem Kept.drewN {S : Nat → Prop} {w w' : World} (h : Kept S w w') (n : Nat) : Kept S w (w'.drewN n) := ⟨h.os, h.tape, h.output, h.size, h.block⟩
theorem Kept.refl (S : Nat → Prop) (w : World) : Kept S w w := ⟨rfl, rfl, rfl, Nat.le_refl _, fun _ _ _ => rfl⟩
theorem Kept.trans {S : Nat → Prop} {w w1 w2 : World} (h : Kept S w w1) (h2 : Kept S w1 w2) : Kept S w w2 :=
  ⟨h2.os.trans h.os, h2.tape.trans h.tape, h2.output.trans h.output, Nat.le_trans h.size h2.size, fun k h1 hs => (h2.block k (Nat.lt_of_lt_of_le h1 h.size) hs).trans (h.block k h1 hs)⟩
theorem Kept.ofBelow {S : Nat → Prop} {w w' : World} (h : Below w.heap.size w w') : Kept S w w' := ⟨h.os, h.tape, h.output, h.size, fun k h1 _ => h.block k h1⟩
theorem Kept.set (w : World) (b o : Nat) (v : Value) : Kept (fun k => k = b) w (w.setCell ⟨b, o, none⟩ v) :=
  ⟨rfl, rfl, rfl, by simp, fun k _ hk => Below.heap_setCell _ _ _ _ hk⟩

theorem blk_setCell {w : World} {g k t : Nat} {cur : List Value} {u : Value} (h : w.heap[g]? = some (.cells cur.toArray t (0, 0))) :
    (w.setCell ⟨g, k, none⟩ u).heap[g]? = some (.cells (cur.set k u).toArray t (0, 0)) := by
  have hlt := lt_of_block h
  have h' : w.heap[g] = .cells cur.toArray t (0, 0) := by simpa [Array.getElem?_eq_getElem hlt] using h
  show (w.heap.modify g _)[g]? = _
  rw [Array.getElem?_eq_getElem (by simpa using hlt), Array.getElem_modify_self, h']
  simp

/-- What make has laid, as a whole block. -/
theorem made_row {w : World} {B g e n : Nat} {z : Value} {xs : List Value} (h : w.ownsRow B e 1 (.slice (some ⟨g, 0, none⟩) n n) n xs) (hx : xs = (madeCells #[z] n).toList := by (first | rfl | simp)) :
    w.heap[g]? = some (.cells (List.replicate n z).toArray e (0, 0)) := by
  obtain ⟨hn0, hn1⟩ := h
  rcases hn1 with ⟨h, _⟩ | ⟨g, cap', cur, h, _, hg, _, _, hsz, ht⟩
  · cases h
  · cases h
    rw [hg]
    have e : cur.toList = (madeCells #[z] n).toList := by
      rw [← hx, ← ht, List.take_of_length_le (by simp [hsz])]
    rw [toList_madeCells_one] at e
    rw [← e]
end Go.Proofs.Ytedohggbpmcehaa

/- The chase in memory: its struct, its rows, and what a step does to them. -/
namespace Go.Proofs.Ytedohggbpmcehaa
open Go.RowKit

def ints (l : List Nat) : List Value := l.map fun (n : Nat) => .int .i64 (n : Int)
theorem ints_length (l : List Nat) : (ints l).length = l.length := by simp [ints]
theorem ints_one (l : List Nat) : ∀ u ∈ ints l, u.oneCell' = true := by
  intro u hu
  obtain ⟨y, _, rfl⟩ := List.mem_map.1 hu
  rfl
theorem ints_append (a b : List Nat) : ints (a ++ b) = ints a ++ ints b := by simp [ints]
theorem ints_get {l : List Nat} {i x : Nat} (h : l[i]? = some x) : (ints l)[i]? = some (.int .i64 (x : Int)) := by simp [ints, h]
theorem ints_take (l : List Nat) (i : Nat) : (ints l).take i = ints (l.take i) := by simp [ints, List.map_take]
theorem ints_set (l : List Nat) (i x : Nat) : (ints l).set i (.int .i64 (x : Int)) = ints (l.set i x) := by simp [ints, List.map_set]
theorem own_blk {W : World} {B e n k : Nat} {v : Value} {xs : List Value} (ho : W.ownsRow B e 1 v n xs) (hk : v.ownBlock = some k) : ∃ cur, W.heap[k]? = some (.cells cur e (0, 0)) := by
  rcases ho.2 with ⟨e, _⟩ | ⟨q, cap, cur, e, _, h2, _⟩
  · rw [e] at hk; cases hk
  · rw [e] at hk
    simp only [Value.ownBlock, Option.some.injEq] at hk
    subst hk
    exact ⟨_, h2⟩
theorem own_lt {W : World} {B e n k : Nat} {v : Value} {xs : List Value} (ho : W.ownsRow B e 1 v n xs) (hk : v.ownBlock = some k) : k < W.heap.size := (ho.lt k hk).2
theorem own_type {W : World} {B B2 e e2 n n2 k : Nat} {v v2 : Value} {xs xs2 : List Value} (ho : W.ownsRow B e 1 v n xs) (hk : v.ownBlock = some k) (ho2 : W.ownsRow B2 e2 1 v2 n2 xs2) (he : e ≠ e2) : v2.ownBlock ≠ some k := by
  intro h
  obtain ⟨c1, h1⟩ := own_blk ho hk
  obtain ⟨c2, h2⟩ := own_blk ho2 h
  rw [h1] at h2
  simp only [Option.some.injEq, Obj.cells.injEq] at h2
  exact he h2.2.1
/-- A row of the call's own is not a block of another type. -/
theorem own_ne {W : World} {B e e2 n k b : Nat} {v : Value} {xs : List Value} {cs : Array Value} {m : Nat × Nat} (ho : W.ownsRow B e 1 v n xs) (hk : v.ownBlock = some k) (hb : W.heap[b]? = some (.cells cs e2 m)) (he : e ≠ e2) : k ≠ b := by
  rintro rfl
  obtain ⟨c1, h1⟩ := own_blk ho hk
  rw [h1] at hb
  simp only [Option.some.injEq, Obj.cells.injEq] at hb
  exact he hb.2.1
theorem blk_ne {W : World} {k b e e2 : Nat} {cs cs2 : Array Value} {m m2 : Nat × Nat} (h : W.heap[k]? = some (.cells cs e m)) (hb : W.heap[b]? = some (.cells cs2 e2 m2)) (he : e ≠ e2) : k ≠ b := by
  rintro rfl
  rw [h] at hb
  simp only [Option.some.injEq, Obj.cells.injEq] at hb
  exact he hb.2.1
/-- What is owned reads as a slice. -/
theorem own_rd {W : World} {B e n : Nat} {v : Value} {xs : List Value} (h : W.ownsRow B e 1 v n xs) : Rd W v xs := by
  obtain ⟨h1, h2⟩ := h
  rw [Nat.mul_one] at h1
  rcases h2 with ⟨rfl, rfl⟩ | ⟨g, c, cur, rfl, _, hg, hnc, hcm, _, ht⟩
  · exact ⟨none, 0, by rw [h1], by omega, by omega, fun h => by omega⟩
  · unfold maxLen at hcm
    refine ⟨_, c, by rw [h1], by rw [h1]; exact hnc, by omega, fun h0 => ⟨g, 0, rfl, lt_of_block hg, fun j u hu => ?_⟩⟩
    have := World.news_of_block hg j u (by
      rw [← ht, List.getElem?_take] at hu
      split at hu
      · exact hu
      · cases hu)
    rw [Addr.add_mid] at this
    exact this
theorem blk_cell {w : World} {g t : Nat} {cs : List Value} (h : w.heap[g]? = some (.cells cs.toArray t (0, 0))) {j : Nat} {u : Value} (hu : cs[j]? = some u) : w.cell? ⟨g, j, none⟩ = some u := by
  have := World.news_of_block h j u hu
  rw [Addr.add_mid, Nat.zero_add] at this
  exact this
theorem blk_free {w : World} {g t : Nat} {cs : List Value} (h : w.heap[g]? = some (.cells cs.toArray t (0, 0))) (j : Nat) : w.frozen? ⟨g, j, none⟩ = false := by
  simp [World.frozen?, h]
theorem own_cell {W : World} {B e n cap g : Nat} {xs : List Value} (h : W.ownsRow B e 1 (.slice (some ⟨g, 0, none⟩) n cap) n xs) {j : Nat} {u : Value} (hu : xs[j]? = some u) : W.cell? ⟨g, j, none⟩ = some u := by
  have := h.cells (g := g) rfl j u hu
  rw [Addr.add_mid, Nat.zero_add] at this
  exact this
theorem own_free {W : World} {B e n cap g : Nat} {xs : List Value} (h : W.ownsRow B e 1 (.slice (some ⟨g, 0, none⟩) n cap) n xs) (j : Nat) : W.frozen? ⟨g, j, none⟩ = false := by
  obtain ⟨cur, hc⟩ := own_blk h (k := g) rfl
  simp [World.frozen?, hc]
theorem own_set {w : World} {B E n j : Nat} {cap : Nat} {g : Nat} {xs : List Value} (h : w.ownsRow B E 1 (.slice (some ⟨g, 0, none⟩) n cap) n xs) (u : Value) :
    (w.setCell ⟨g, j, none⟩ u).ownsRow B E 1 (.slice (some ⟨g, 0, none⟩) n cap) n (xs.set j u) := by
  obtain ⟨h1, h2⟩ := h
  refine ⟨by rw [List.length_set]; exact h1, ?_⟩
  rcases h2 with ⟨h2, _⟩ | ⟨g2, cap2, cur, hv, hb, hg, hnc, hcm, hsz, ht⟩
  · cases h2
  · simp only [Value.slice.injEq, Option.some.injEq, Addr.mk.injEq] at hv
    obtain ⟨⟨rfl, _⟩, _, rfl⟩ := hv
    have hg' : w.heap[g]? = some (.cells (cur.toList).toArray E (0, 0)) := by simpa using hg
    have h3 := blk_setCell (k := j) (u := u) hg'
    refine .inr ⟨g, cap, (cur.toList.set j u).toArray, rfl, hb, h3, hnc, hcm, by simpa using hsz, ?_⟩
    rw [List.take_set, ht]
theorem own_shape2 {W : World} {B e n : Nat} {v : Value} {xs : List Value} (h : W.ownsRow B e 1 v n xs) : (v = .slice none 0 0 ∧ n = 0) ∨ ∃ g cap, v = .slice (some ⟨g, 0, none⟩) n cap ∧ g < W.heap.size ∧ n ≤ cap ∧ cap ≤ 9223372036854775807 := by
  rcases h.2 with h | ⟨g, cap, cur, h1, _, h2, h3, h4, _⟩
  · exact .inl h
  · unfold maxLen at h4
    exact .inr ⟨g, cap, h1, lt_of_block h2, h3, h4⟩
/-- A part of a row of the call's own, from its beginning. -/
theorem own_take {W : World} {B e n cap m : Nat} {ao : Option Addr} {xs : List Value} (h : W.ownsRow B e 1 (.slice ao n cap) n xs) (hm : m ≤ n) : W.ownsRow B e 1 (.slice ao m cap) m (xs.take m) := by
  obtain ⟨h1, h2⟩ := h
  refine ⟨by rw [List.length_take]; omega, ?_⟩
  rcases h2 with ⟨h2, h3⟩ | ⟨g2, cap2, cur, hv, hb, hg, hnc, hcm, hsz, ht⟩
  · simp only [Value.slice.injEq] at h2
    exact .inl ⟨by rw [h2.1, h2.2.2, show m = 0 by omega], by omega⟩
  · simp only [Value.slice.injEq] at hv
    obtain ⟨rfl, _, rfl⟩ := hv
    refine .inr ⟨g2, cap, cur, rfl, hb, hg, by omega, hcm, hsz, ?_⟩
    rw [← ht, List.take_take]
    congr 1
    omega

/-- What has turned from w to w': blocks of S and new ones; what S' has is S's, or new. -/
structure Chg (S S' : Nat → Prop) (w w' : World) : Prop where
  kept : Kept S w w'
  sub : ∀ k, S' k → S k ∨ w.heap.size ≤ k
theorem Chg.refl (S : Nat → Prop) (w : World) : Chg S S w w := ⟨Kept.refl _ _, fun _ h => .inl h⟩
theorem Chg.trans {S S1 S2 : Nat → Prop} {w w1 w2 : World} (h : Chg S S1 w w1) (h2 : Chg S1 S2 w1 w2) : Chg S S2 w w2 := by
  refine ⟨⟨h2.kept.os.trans h.kept.os, h2.kept.tape.trans h.kept.tape, h2.kept.output.trans h.kept.output, Nat.le_trans h.kept.size h2.kept.size, fun k hk hs => ?_⟩, fun k hk => ?_⟩
  · rw [h2.kept.block k (Nat.lt_of_lt_of_le hk h.kept.size) (fun h1 => by rcases h.sub k h1 with h3 | h3; exact hs h3; omega), h.kept.block k hk hs]
  · rcases h2.sub k hk with h1 | h1
    · exact h.sub k h1
    · exact .inr (Nat.le_trans h.kept.size h1)
theorem Chg.below {S S' : Nat → Prop} {w w' : World} {B : Nat} (h : Chg S S' w w') (hB : B ≤ w.heap.size) (hS : ∀ k, S k → B ≤ k) : Below B w w' := h.kept.below hB hS
theorem Chg.ofBelow {S : Nat → Prop} {w w' : World} (h : Below w.heap.size w w') : Chg S S w w' := ⟨Kept.ofBelow h, fun _ h => .inl h⟩
theorem Chg.drew {S S' : Nat → Prop} {w w' : World} (h : Chg S S' w w') : Chg S S' w w'.drew := ⟨h.kept.drew, h.sub⟩
theorem Chg.own {S S' : Nat → Prop} {w w' : World} {B e n : Nat} {v : Value} {xs : List Value} (h : Chg S S' w w') (ho : w.ownsRow B e 1 v n xs) (hn : ∀ g, v.ownBlock = some g → ¬ S g) : w'.ownsRow B e 1 v n xs :=
  own_same ho fun k hk => h.kept.block k (own_lt ho hk) (hn k hk)
theorem Chg.rd {S S' : Nat → Prop} {w w' : World} {v : Value} {xs : List Value} (h : Chg S S' w w') (hr : Rd w v xs) (hn : ∀ g, v.ownBlock = some g → ¬ S g) : Rd w' v xs := by
  obtain ⟨ao, cap, rfl, h2, h3, h4⟩ := hr
  refine ⟨ao, cap, rfl, h2, h3, fun h0 => ?_⟩
  obtain ⟨g, o, rfl, q2, q3⟩ := h4 h0
  refine ⟨g, o, rfl, Nat.lt_of_lt_of_le q2 h.kept.size, fun j u hu => ?_⟩
  have := q3 j u hu
  unfold World.cell? at this ⊢
  rw [h.kept.block g q2 (hn g rfl)]
  exact this
theorem Chg.blk {S S' : Nat → Prop} {w w' : World} (h : Chg S S' w w') {k : Nat} {ob : Obj} (hk : w.heap[k]? = some ob) (hs : ¬ S k) : w'.heap[k]? = some ob := by
  rw [h.kept.block k (Array.getElem?_eq_some_iff.1 hk).1 hs]; exact hk

/-- The values of the fields of a chase. -/
structure CV where
  fv : Value
  av : Value
  lv : Value
  tv : Value
  gu : Nat
  gh : Nat
  ur : List Value
  ar : List Value
def bools (n : Nat) (hs : Nat → Bool) : List Value := (List.range n).map fun i => .bool (hs i)
theorem bools_get {n i : Nat} (hs : Nat → Bool) (h : i < n) : (bools n hs)[i]? = some (.bool (hs i)) := by simp [bools, h]
theorem bools_set {m : Nat} (hs : Nat → Bool) (i : Nat) (x : Bool) : (bools m hs).set i (.bool x) = bools m (fun j => if j = i then x else hs j) := by
  unfold bools
  apply List.ext_getElem?
  intro j
  rw [List.getElem?_set]
  by_cases hj : j < m
  · by_cases e : i = j
    · subst e; simp [hj]
    · simp [hj, e, Ne.symm e]
  · by_cases e : i = j
    · subst e; rw [if_pos rfl, if_neg (by simpa using hj), List.getElem?_eq_none (by simp; omega)]
    · rw [if_neg e, List.getElem?_eq_none (by simp; omega), List.getElem?_eq_none (by simp; omega)]
theorem bools_congr {m : Nat} {f g : Nat → Bool} (h : ∀ i, i < m → f i = g i) : bools m f = bools m g := by
  unfold bools
  exact List.map_congr_left fun x hx => by rw [h x (by simpa using hx)]
def lks (m : Nat) (lk : Nat → Nat) : List Value := ints ((List.range m).map lk)
theorem lks_get {m i : Nat} (lk : Nat → Nat) (h : i < m) : (lks m lk)[i]? = some (.int .i64 (lk i : Int)) := by simp [lks, ints, h]
theorem lks_set {m : Nat} (lk : Nat → Nat) (i x : Nat) : (lks m lk).set i (.int .i64 (x : Int)) = lks m (fun j => if j = i then x else lk j) := by
  unfold lks
  rw [ints_set]
  congr 1
  apply List.ext_getElem?
  intro j
  rw [List.getElem?_set]
  by_cases hj : j < m
  · by_cases e : i = j
    · subst e; simp [hj]
    · simp [hj, e, Ne.symm e]
  · by_cases e : i = j
    · subst e; rw [if_pos rfl, if_neg (by simpa using hj), List.getElem?_eq_none (by simp; omega)]
    · rw [if_neg e, List.getElem?_eq_none (by simp; omega), List.getElem?_eq_none (by simp; omega)]
theorem lks_congr {m : Nat} {f g : Nat → Nat} (h : ∀ i, i < m → f i = g i) : lks m f = lks m g := by
  unfold lks
  congr 1
  exact List.map_congr_left fun x hx => h x (by simpa using hx)
/-- The rules without premises. -/
def freeF (R : List Hrl) : List Nat := (List.range R.length).filter fun i => decide (prem R i = [])
def cvCells (V : CV) (n k : Nat) : List Value := [V.fv, .slice (some ⟨V.gu, 0, none⟩) n n, V.av, V.lv, .slice (some ⟨V.gh, 0, none⟩) n n, V.tv, .int .i64 (k : Int)]
/-- A chase in block c: n names, rules R, lk what they lack, the trail T, of which k are counted; S: the blocks that are its own. -/
structure CH (w : World) (c n : Nat) (R : List Hrl) (lk : Nat → Nat) (hs : Nat → Bool) (T : List Nat) (k : Nat) (V : CV) (S : Nat → Prop) : Prop where
  blk : w.heap[c]? = some (.cells (cvCells V n k).toArray 84 (0, 0))
  fr : w.ownsRow 0 3 1 V.fv (freeF R).length (ints (freeF R))
  uu : w.heap[V.gu]? = some (.cells V.ur.toArray 56 (0, 0))
  ul : V.ur.length = n
  us : ∀ (i : Nat) (v : Value), V.ur[i]? = some v → w.ownsRow 0 3 1 v (usesF R i).length (ints (usesF R i))
  ad : w.ownsRow 0 56 1 V.av R.length V.ar
  ai : ∀ (i : Nat) (v : Value), V.ar[i]? = some v → Rd w v (ints (conc R i)) ∧ ∀ g, v.ownBlock = some g → g < w.heap.size ∧ ¬ S g
  la : w.ownsRow 0 3 1 V.lv R.length (lks R.length lk)
  ha : w.heap[V.gh]? = some (.cells (bools n hs).toArray 4 (0, 0))
  tr : w.ownsRow 0 3 1 V.tv T.length (ints T)
  sc : S c
  sf : ∀ g, V.fv.ownBlock = some g → S g
  su : S V.gu
  sr : ∀ (i : Nat) (v : Value), V.ur[i]? = some v → ∀ g, v.ownBlock = some g → S g
  sa : ∀ g, V.av.ownBlock = some g → S g
  sl : ∀ g, V.lv.ownBlock = some g → S g
  sh : S V.gh
  st : ∀ g, V.tv.ownBlock = some g → S g
  fl : ∀ g, V.fv.ownBlock = some g → V.lv.ownBlock ≠ some g
  ft : ∀ g, V.fv.ownBlock = some g → V.tv.ownBlock ≠ some g
  lt : ∀ g, V.lv.ownBlock = some g → V.tv.ownBlock ≠ some g
  rf : ∀ (i : Nat) (v : Value), V.ur[i]? = some v → ∀ g, v.ownBlock = some g → V.fv.ownBlock ≠ some g
  rl : ∀ (i : Nat) (v : Value), V.ur[i]? = some v → ∀ g, v.ownBlock = some g → V.lv.ownBlock ≠ some g
  rt : ∀ (i : Nat) (v : Value), V.ur[i]? = some v → ∀ g, v.ownBlock = some g → V.tv.ownBlock ≠ some g
  rr : ∀ (i j : Nat) (u v : Value), i ≠ j → V.ur[i]? = some u → V.ur[j]? = some v → ∀ g, u.ownBlock = some g → v.ownBlock ≠ some g
  au : ∀ g, V.av.ownBlock = some g → g ≠ V.gu
  sz : ∀ g, S g → g < w.heap.size
  nd : T.Nodup
  tn : ∀ x ∈ T, x < n
  rn : ∀ i x, i < R.length → x ∈ conc R i → x < n
  pn : ∀ i, i < R.length → (prem R i).Nodup ∧ ∀ x ∈ prem R i, x < n
section
variable {w w' : World} {c n : Nat} {R : List Hrl} {lk : Nat → Nat} {hs : Nat → Bool} {T : List Nat} {k : Nat} {V : CV} {S : Nat → Prop}
/-- What happens elsewhere. -/
theorem CH.same (h : CH w c n R lk hs T k V S) (hq : ∀ g, S g → w'.heap[g]? = w.heap[g]?) (hr : ∀ (i : Nat) (v : Value), V.ar[i]? = some v → Rd w' v (ints (conc R i))) (hz : w.heap.size ≤ w'.heap.size) : CH w' c n R lk hs T k V S :=
  ⟨(hq _ h.sc).trans h.blk, own_same h.fr fun g hg => hq g (h.sf g hg), (hq _ h.su).trans h.uu, h.ul, fun i v hv => own_same (h.us i v hv) fun g hg => hq g (h.sr i v hv g hg), own_same h.ad fun g hg => hq g (h.sa g hg),
   fun i v hv => ⟨hr i v hv, fun g hg => ⟨Nat.lt_of_lt_of_le ((h.ai i v hv).2 g hg).1 hz, ((h.ai i v hv).2 g hg).2⟩⟩, own_same h.la fun g hg => hq g (h.sl g hg), (hq _ h.sh).trans h.ha, own_same h.tr fun g hg => hq g (h.st g hg),
   h.sc, h.sf, h.su, h.sr, h.sa, h.sl, h.sh, h.st, h.fl, h.ft, h.lt, h.rf, h.rl, h.rt, h.rr, h.au, fun g hg => Nat.lt_of_lt_of_le (h.sz g hg) hz, h.nd, h.tn, h.rn, h.pn⟩
theorem CH.at (h : CH w c n R lk hs T k V S) (hb : Below w.heap.size w w') : CH w' c n R lk hs T k V S :=
  h.same (fun g hg => hb.block g (h.sz g hg)) (fun i v hv => (h.ai i v hv).1.at hb) hb.size
/-- What another's change has let alone. -/
theorem CH.chg {F F' : Nat → Prop} (h : CH w c n R lk hs T k V S) (hc : Chg F F' w w') (hF : ∀ g, S g → ¬ F g) (hA : ∀ (i : Nat) (v : Value), V.ar[i]? = some v → ∀ g, v.ownBlock = some g → ¬ F g) : CH w' c n R lk hs T k V S :=
  h.same (fun g hg => hc.kept.block g (h.sz g hg) (hF g hg)) (fun i v hv => hc.rd (h.ai i v hv).1 (hA i v hv)) hc.kept.size
theorem CH.cell (h : CH w c n R lk hs T k V S) {j : Nat} {u : Value} (hu : (cvCells V n k)[j]? = some u) : w.cell? ⟨c, j, none⟩ = some u := blk_cell h.blk hu
theorem CH.free (h : CH w c n R lk hs T k V S) (j : Nat) : w.frozen? ⟨c, j, none⟩ = false := blk_free h.blk j
theorem CH.hasc (h : CH w c n R lk hs T k V S) {i : Nat} (hi : i < n) : w.cell? ⟨V.gh, i, none⟩ = some (.bool (hs i)) := blk_cell h.ha (bools_get hs hi)
theorem CH.hasf (h : CH w c n R lk hs T k V S) (i : Nat) : w.frozen? ⟨V.gh, i, none⟩ = false := blk_free h.ha i

/-- A store into the block b of S: all but that block is as it was. -/
theorem set_other {b j : Nat} {u : Value} {g : Nat} (hg : g ≠ b) : (w.setCell ⟨b, j, none⟩ u).heap[g]? = w.heap[g]? := Below.heap_setCell _ _ _ _ hg
theorem rd_set {b j : Nat} {u v : Value} {xs : List Value} (hr : Rd w v xs) (hn : ∀ g, v.ownBlock = some g → g ≠ b) : Rd (w.setCell ⟨b, j, none⟩ u) v xs := by
  obtain ⟨ao, cap, rfl, h2, h3, h4⟩ := hr
  refine ⟨ao, cap, rfl, h2, h3, fun h0 => ?_⟩
  obtain ⟨g, o, rfl, q2, q3⟩ := h4 h0
  refine ⟨g, o, rfl, by simpa using q2, fun i u hu => ?_⟩
  have := q3 i u hu
  unfold World.cell? at this ⊢
  rw [set_other (hn g rfl)]
  exact this
theorem chg_set {b j : Nat} {u : Value} (hb : S b) : Chg S S w (w.setCell ⟨b, j, none⟩ u) :=
  ⟨⟨rfl, rfl, rfl, by simp, fun g _ hs => set_other (fun e => hs (e ▸ hb))⟩, fun _ h => .inl h⟩

/-- lacking[i] is stored. -/
theorem CH.setLack (h : CH w c n R lk hs T k V S) {g cap i x : Nat} (hv : V.lv = .slice (some ⟨g, 0, none⟩) R.length cap) : CH (w.setCell ⟨g, i, none⟩ (.int .i64 (x : Int))) c n R (fun j => if j = i then x else lk j) hs T k V S := by
  have hlb : V.lv.ownBlock = some g := by rw [hv]; rfl
  have o : ∀ a, a ≠ g → (w.setCell ⟨g, i, none⟩ (.int .i64 (x : Int))).heap[a]? = w.heap[a]? := fun a ha => set_other ha
  have hl := h.la
  rw [hv] at hl
  have tI : ∀ {b e : Nat} {cs : Array Value} {m : Nat × Nat}, w.heap[b]? = some (.cells cs e m) → 3 ≠ e → b ≠ g := fun hb he => (own_ne h.la hlb hb he).symm
  refine ⟨(o _ (tI h.blk (by decide))).trans h.blk, own_same h.fr fun a ha => o a (fun e => h.fl a ha (by rw [hlb, e])), (o _ (tI h.uu (by decide))).trans h.uu, h.ul,
    fun j v hj => own_same (h.us j v hj) fun a ha => o a (fun e => h.rl j v hj a ha (by rw [hlb, e])), own_same h.ad fun a ha => o a (fun e => own_type h.ad ha h.la (by decide) (by rw [hlb, e])),
    fun j v hj => ⟨rd_set (h.ai j v hj).1 fun a ha e => ((h.ai j v hj).2 a ha).2 (h.sl a (by rw [hlb, e])), fun a ha => by have := (h.ai j v hj).2 a ha; simpa using this⟩, ?_, (o _ (tI h.ha (by decide))).trans h.ha, own_same h.tr fun a ha => o a (fun e => h.lt g hlb (by rw [← e]; exact ha)),
    h.sc, h.sf, h.su, h.sr, h.sa, h.sl, h.sh, h.st, h.fl, h.ft, h.lt, h.rf, h.rl, h.rt, h.rr, h.au, fun a ha => by have := h.sz a ha; simpa using this, h.nd, h.tn, h.rn, h.pn⟩
  rw [hv, ← lks_set]
  exact own_set hl _
/-- counted is stored. -/
theorem CH.setCount (h : CH w c n R lk hs T k V S) (k' : Nat) : CH (w.setCell ⟨c, 6, none⟩ (.int .i64 (k' : Int))) c n R lk hs T k' V S := by
  have o : ∀ a, a ≠ c → (w.setCell ⟨c, 6, none⟩ (.int .i64 (k' : Int))).heap[a]? = w.heap[a]? := fun a ha => set_other ha
  have tO : ∀ {B e m a : Nat} {v : Value} {xs : List Value}, w.ownsRow B e 1 v m xs → e ≠ 84 → v.ownBlock = some a → a ≠ c := fun ho he ha => own_ne ho ha h.blk he
  refine ⟨?_, own_same h.fr fun a ha => o a (tO h.fr (by decide) ha), (o _ (blk_ne h.uu h.blk (by decide))).trans h.uu, h.ul,
    fun j v hj => own_same (h.us j v hj) fun a ha => o a (tO (h.us j v hj) (by decide) ha), own_same h.ad fun a ha => o a (tO h.ad (by decide) ha),
    fun j v hj => ⟨rd_set (h.ai j v hj).1 fun a ha e => ((h.ai j v hj).2 a ha).2 (by rw [e]; exact h.sc), fun a ha => by have := (h.ai j v hj).2 a ha; simpa using this⟩, own_same h.la fun a ha => o a (tO h.la (by decide) ha), (o _ (blk_ne h.ha h.blk (by decide))).trans h.ha, own_same h.tr fun a ha => o a (tO h.tr (by decide) ha),
    h.sc, h.sf, h.su, h.sr, h.sa, h.sl, h.sh, h.st, h.fl, h.ft, h.lt, h.rf, h.rl, h.rt, h.rr, h.au, fun a ha => by have := h.sz a ha; simpa using this, h.nd, h.tn, h.rn, h.pn⟩
  exact blk_setCell (k := 6) (u := .int .i64 (k' : Int)) h.blk
/-- has[i] is stored. -/
theorem CH.setHas (h : CH w c n R lk hs T k V S) (i : Nat) (b : Bool) : CH (w.setCell ⟨V.gh, i, none⟩ (.bool b)) c n R lk (fun j => if j = i then b else hs j) T k V S := by
  have o : ∀ a, a ≠ V.gh → (w.setCell ⟨V.gh, i, none⟩ (.bool b)).heap[a]? = w.heap[a]? := fun a ha => set_other ha
  have tO : ∀ {B e m a : Nat} {v : Value} {xs : List Value}, w.ownsRow B e 1 v m xs → e ≠ 4 → v.ownBlock = some a → a ≠ V.gh := fun ho he ha => own_ne ho ha h.ha he
  refine ⟨(o _ (blk_ne h.blk h.ha (by decide))).trans h.blk, own_same h.fr fun a ha => o a (tO h.fr (by decide) ha), (o _ (blk_ne h.uu h.ha (by decide))).trans h.uu, h.ul,
    fun j v hj => own_same (h.us j v hj) fun a ha => o a (tO (h.us j v hj) (by decide) ha), own_same h.ad fun a ha => o a (tO h.ad (by decide) ha),
    fun j v hj => ⟨rd_set (h.ai j v hj).1 fun a ha e => ((h.ai j v hj).2 a ha).2 (by rw [e]; exact h.sh), fun a ha => by have := (h.ai j v hj).2 a ha; simpa using this⟩, own_same h.la fun a ha => o a (tO h.la (by decide) ha), ?_, own_same h.tr fun a ha => o a (tO h.tr (by decide) ha),
    h.sc, h.sf, h.su, h.sr, h.sa, h.sl, h.sh, h.st, h.fl, h.ft, h.lt, h.rf, h.rl, h.rt, h.rr, h.au, fun a ha => by have := h.sz a ha; simpa using this, h.nd, h.tn, h.rn, h.pn⟩
  rw [← bools_set]
  exact blk_setCell (k := i) (u := .bool b) h.ha
theorem CH.conv (h : CH w c n R lk hs T k V S) {lk' : Nat → Nat} {hs' : Nat → Bool} (h1 : ∀ i, i < R.length → lk i = lk' i) (h2 : ∀ i, i < n → hs i = hs' i) : CH w c n R lk' hs' T k V S :=
  { h with la := by rw [← lks_congr h1]; exact h.la, ha := by rw [← bools_congr h2]; exact h.ha }
/-- Another trail: the append of one name. -/
theorem CH.push (h : CH w c n R lk hs T k V S) {x : Nat} (hx : x ∉ T) (hn : x < n) {w1 w2 : World} {v' : Value} (hb : Below w.heap.size w w1) (hown : w2.ownsRow 0 3 1 v' (T.length + 1) (ints T ++ [.int .i64 (x : Int)])) (hg : w1.grownBy w2 V.tv.ownBlock)
    (hf : v'.ownBlock = V.tv.ownBlock ∨ v'.ownBlock = some w1.heap.size) :
    CH (w2.setCell ⟨c, 5, none⟩ v') c n R lk hs (T ++ [x]) k { V with tv := v' } (fun g => S g ∨ v'.ownBlock = some g) ∧ Chg S (fun g => S g ∨ v'.ownBlock = some g) w (w2.setCell ⟨c, 5, none⟩ v') := by
  have hz := hb.size
  have hz2 := hg.size
  have o : ∀ a, a < w.heap.size → a ≠ c → V.tv.ownBlock ≠ some a → (w2.setCell ⟨c, 5, none⟩ v').heap[a]? = w.heap[a]? := fun a h1 h2 h3 => by
    rw [set_other h2, hg.block a (by omega) (fun e => h3 e.symm), hb.block a h1]
  have tC : ∀ {B e m a : Nat} {v : Value} {xs : List Value}, w.ownsRow B e 1 v m xs → e ≠ 84 → v.ownBlock = some a → a ≠ c := fun ho he ha => own_ne ho ha h.blk he
  have hnew : ∀ g, v'.ownBlock = some g → S g ∨ w.heap.size ≤ g := fun g hg2 => by
    rcases hf with hf | hf
    · exact .inl (h.st g (by rw [← hf]; exact hg2))
    · rw [hf] at hg2; simp only [Option.some.injEq] at hg2; exact .inr (by omega)
  have hlow : ∀ g, g < w.heap.size → V.tv.ownBlock ≠ some g → v'.ownBlock ≠ some g := fun g hl hne e => by
    rcases hf with hf | hf
    · exact hne (by rw [← hf]; exact e)
    · rw [hf] at e; simp only [Option.some.injEq] at e; omega
  have hblk : w2.heap[c]? = some (.cells (cvCells V n k).toArray 84 (0, 0)) := by
    rw [hg.block c (by have := lt_of_block h.blk; omega) (fun e => own_ne h.tr e.symm h.blk (by decide) rfl), hb.block c (lt_of_block h.blk)]
    exact h.blk
  have rdn : ∀ (j : Nat) (v : Value), V.ar[j]? = some v → Rd (w2.setCell ⟨c, 5, none⟩ v') v (ints (conc R j)) := fun j v hj => by
    refine rd_set ?_ fun a ha e => ((h.ai j v hj).2 a ha).2 (by rw [e]; exact h.sc)
    obtain ⟨ao, cap, rfl, h2, h3, h4⟩ := (h.ai j v hj).1
    refine ⟨ao, cap, rfl, h2, h3, fun h0 => ?_⟩
    obtain ⟨g, o, rfl, q2, q3⟩ := h4 h0
    refine ⟨g, o, rfl, by omega, fun i u hu => ?_⟩
    have := q3 i u hu
    unfold World.cell? at this ⊢
    rw [hg.block g (by omega) (fun e => ((h.ai j _ hj).2 g rfl).2 (h.st g e.symm)), hb.block g q2]
    exact this
  refine ⟨⟨?_, own_same h.fr fun a ha => o a (own_lt h.fr ha) (tC h.fr (by decide) ha) (h.ft a ha), ?_, h.ul, fun j v hj => own_same (h.us j v hj) fun a ha => o a (own_lt (h.us j v hj) ha) (tC (h.us j v hj) (by decide) ha) (h.rt j v hj a ha),
    own_same h.ad fun a ha => o a (own_lt h.ad ha) (tC h.ad (by decide) ha) (own_type h.ad ha h.tr (by decide)), fun j v hj => ⟨rdn j v hj, fun g hg2 => ⟨by have := ((h.ai j v hj).2 g hg2).1; simp; omega, fun hs2 => ?_⟩⟩,
    own_same h.la fun a ha => o a (own_lt h.la ha) (tC h.la (by decide) ha) (h.lt a ha), ?_, ?_, .inl h.sc, fun g hg => .inl (h.sf g hg), .inl h.su, fun j v hj g hg => .inl (h.sr j v hj g hg), fun g hg => .inl (h.sa g hg), fun g hg => .inl (h.sl g hg), .inl h.sh, fun g hg => .inr hg,
    h.fl, fun g hg => hlow g (own_lt h.fr hg) (h.ft g hg), fun g hg => hlow g (own_lt h.la hg) (h.lt g hg), h.rf, h.rl, fun j v hj g hg => hlow g (own_lt (h.us j v hj) hg) (h.rt j v hj g hg), h.rr, h.au, fun g hg => ?_, ?_, fun y hy => ?_, h.rn, h.pn⟩, ?_⟩
  · have := blk_setCell (k := 5) (u := v') hblk
    exact this
  · exact (o _ (lt_of_block h.uu) (blk_ne h.uu h.blk (by decide)) (fun e => own_ne h.tr e h.uu (by decide) rfl)).trans h.uu
  · have h6 := (h.ai j v hj).2 g hg2
    rcases hs2 with hs2 | hs2
    · exact h6.2 hs2
    · rcases hnew g hs2 with h5 | h5
      · exact h6.2 h5
      · have := h6.1; omega
  · exact (o _ (lt_of_block h.ha) (blk_ne h.ha h.blk (by decide)) (fun e => own_ne h.tr e h.ha (by decide) rfl)).trans h.ha
  · rw [List.length_append, List.length_singleton, ints_append]
    exact own_same hown fun a ha => set_other (fun e => by
      obtain ⟨cur, hc⟩ := own_blk hown ha
      rw [e, hblk] at hc
      simp only [Option.some.injEq, Obj.cells.injEq] at hc
      exact absurd hc.2.1 (by decide))
  · rcases hg with hg | hg
    · have := h.sz g hg; simp; omega
    · have := own_lt hown hg; simpa using this
  · rw [List.nodup_append]
    exact ⟨h.nd, by simp, by rintro a ha b hb rfl; simp at hb; exact hx (hb ▸ ha)⟩
  · rcases List.mem_append.1 hy with hy | hy
    · exact h.tn y hy
    · rw [List.mem_singleton.1 hy]; exact hn
  · refine ⟨⟨hg.os.trans hb.os, hg.tape.trans hb.tape, hg.output.trans hb.output, by simp; omega, fun g h1 h2 => o g h1 (fun e => h2 (e ▸ h.sc)) (fun e => h2 (h.st g e))⟩, fun g hg2 => ?_⟩
    rcases hg2 with hg2 | hg2
    · exact .inl hg2
    · exact hnew g hg2
/-- Another trail: a part of it, from its beginning. -/
theorem CH.cut (h : CH w c n R lk hs T k V S) {ao : Option Addr} {cap m : Nat} (hv : V.tv = .slice ao T.length cap) (hm : m ≤ T.length) : CH (w.setCell ⟨c, 5, none⟩ (.slice ao m cap)) c n R lk hs (T.take m) k { V with tv := .slice ao m cap } S := by
  have o : ∀ a, a ≠ c → (w.setCell ⟨c, 5, none⟩ (.slice ao m cap)).heap[a]? = w.heap[a]? := fun a ha => set_other ha
  have tO : ∀ {B e m a : Nat} {v : Value} {xs : List Value}, w.ownsRow B e 1 v m xs → e ≠ 84 → v.ownBlock = some a → a ≠ c := fun ho he ha => own_ne ho ha h.blk he
  have hob : ∀ g, (Value.slice ao m cap).ownBlock = some g → V.tv.ownBlock = some g := fun g hg => by rw [hv]; cases ao <;> exact hg
  have ht := h.tr
  rw [hv] at ht
  refine ⟨?_, own_same h.fr fun a ha => o a (tO h.fr (by decide) ha), (o _ (blk_ne h.uu h.blk (by decide))).trans h.uu, h.ul,
    fun j v hj => own_same (h.us j v hj) fun a ha => o a (tO (h.us j v hj) (by decide) ha), own_same h.ad fun a ha => o a (tO h.ad (by decide) ha),
    fun j v hj => ⟨rd_set (h.ai j v hj).1 fun a ha e => ((h.ai j v hj).2 a ha).2 (by rw [e]; exact h.sc), fun a ha => by have := (h.ai j v hj).2 a ha; simpa using this⟩, own_same h.la fun a ha => o a (tO h.la (by decide) ha), (o _ (blk_ne h.ha h.blk (by decide))).trans h.ha, ?_,
    h.sc, h.sf, h.su, h.sr, h.sa, h.sl, h.sh, fun g hg => h.st g (hob g hg), h.fl, fun g hg e => h.ft g hg (hob g e), fun g hg e => h.lt g hg (hob g e), h.rf, h.rl, fun j v hj g hg e => h.rt j v hj g hg (hob g e), h.rr, h.au, fun a ha => by have := h.sz a ha; simpa using this,
    List.Nodup.sublist (List.take_sublist _ _) h.nd, fun x hx => h.tn x (List.mem_of_mem_take hx), h.rn, h.pn⟩
  · exact blk_setCell (k := 5) (u := .slice ao m cap) h.blk
  · have := own_take ht hm
    rw [List.length_take, Nat.min_eq_left hm, ← ints_take]
    exact own_same this fun a ha => o a (own_ne h.tr (hob a ha) h.blk (by decide))
end
end Go.Proofs.Ytedohggbpmcehaa

/- put: names that are added to a chase. Bounds on sizes alone. -/
namespace Go.Proofs.Ytedohggbpmcehaa
open Go.RowKit

theorem intsE : Elem Try.prog 56 3 (.int .i64 0) 8 := ⟨Try.underlying56, by kernel_rfl, rfl⟩
def memB (T : List Nat) (i : Nat) : Bool := decide (i ∈ T)

/-- append of one number onto a row of the call's own. -/
theorem wpList_push {ops : Array Oper} {rest : List Oper} {o : Oper} {a : Act} {w : World} {Q : Exit → Act → World → Prop} (hgd : o.guard = none) (s x : Operand)
    (ho : o.op = .call { callee := .builtin .append, args := #[s, x], argTypes := #[56, 56] })
    (v : Value) (T : List Nat) (hv : a.eval s = v) (hown : w.ownsRow 0 3 1 v T.length (ints T)) (g y : Nat) (hx : a.eval x = .slice (some ⟨g, 0, none⟩) 1 1) (hc : w.cell? ⟨g, 0, none⟩ = some (.int .i64 (y : Int))) (hT : T.length ≤ 1000000)
    (h : ∀ (ao : Option Addr) (cap m : Nat) (w' : World), m = T.length + 1 → w'.ownsRow 0 3 1 (.slice ao m cap) m (ints T ++ [.int .i64 (y : Int)]) → w.grownBy w' v.ownBlock → ((Value.slice ao m cap).ownBlock = v.ownBlock ∨ (Value.slice ao m cap).ownBlock = some w.heap.size) → wpList Try.prog ops Q rest (a.put o.dst (.slice ao m cap)) w') :
    wpList Try.prog ops Q (o :: rest) a w := by
  obtain ⟨i0, hi, hz0, hz1, hz2⟩ := info_parts intsE.info
  refine wpList_append_src _ hgd s x _ _ ho 0 3 i0 (.int .i64 0) 1 8 Try.underlying56 hi hz0 hz1 hz2 rfl (by decide) v T.length (ints T) hv hown _ 1 [.int .i64 (y : Int)] hx
    (Src.ofSlice _ Try.underlying56 ⟨g, 0, none⟩ 1 1 _ rfl (fun j u hu => ?_) (by intro v hv; rw [List.mem_singleton.1 hv]; rfl)) (by unfold maxLen; omega) (by omega) (Nat.zero_le _) ?_
  · have : j = 0 := by have := (List.getElem?_eq_some_iff.1 hu).1; simp at this; omega
    subst this
    rw [Addr.add_mid, Nat.zero_add]
    simp only [List.getElem?_cons_zero, Option.some.injEq] at hu
    rw [← hu]; exact hc
  · intro v2 w2 hown2 hg _ hf
    obtain ⟨ao, cap, rfl⟩ := own_shape hown2
    exact h ao cap _ w2 rfl hown2 hg hf
section
variable {w w1 w2 : World} {c n : Nat} {R : List Hrl} {lk : Nat → Nat} {hs : Nat → Bool} {T : List Nat} {k : Nat} {V : CV} {S : Nat → Prop}
/-- The struct behind an append onto the trail. -/
theorem CH.behind (h : CH w c n R lk hs T k V S) (hb : Below w.heap.size w w1) (hg : w1.grownBy w2 V.tv.ownBlock) : w2.heap[c]? = some (.cells (cvCells V n k).toArray 84 (0, 0)) := by
  rw [hg.block c (by have := lt_of_block h.blk; have := hb.size; omega) (fun e => own_ne h.tr e.symm h.blk (by decide) rfl), hb.block c (lt_of_block h.blk)]
  exact h.blk
theorem CH.tvs (h : CH w c n R lk hs T k V S) : ∃ ao cap, V.tv = .slice ao T.length cap := own_shape h.tr
theorem CH.len (h : CH w c n R lk hs T k V S) : T.length ≤ n := nodup_bound n T h.nd h.tn
end

/-- The names from place j on are still to be put. -/
structure PutI (w : World) (c n : Nat) (R : List Hrl) (lk : Nat → Nat) (T : List Nat) (k : Nat) (V : CV) (S : Nat → Prop) (fl : Nat) (l : List Nat) (j : Nat) (wr : World) : Prop where
  ex : ∃ Tj tv Sj, CH wr c n R lk (memB Tj) Tj k { V with tv := tv } Sj ∧ Chg S Sj w wr ∧ putF fl l T = putF fl (l.drop j) Tj
/-- What put leaves. -/
def PutP (w : World) (c n : Nat) (R : List Hrl) (lk : Nat → Nat) (T : List Nat) (k : Nat) (V : CV) (S : Nat → Prop) (fl : Nat) (l : List Nat) (e : Ending) (w' : World) : Prop :=
  ∃ tv S', e = .returned (.bool (putF fl l T).2) ∧ CH w' c n R lk (memB (putF fl l T).1) (putF fl l T).1 k { V with tv := tv } S' ∧ Chg S S' w w'
theorem memB_push (T : List Nat) (x i : Nat) : (if i = x then true else memB T i) = memB (T ++ [x]) i := by
  unfold memB
  by_cases e : i = x <;> simp [e]

set_option maxRecDepth 100000 in
set_option maxHeartbeats 800000 in
theorem put_any (c n fl k : Nat) (R : List Hrl) (lk : Nat → Nat) (T : List Nat) (V : CV) (S : Nat → Prop) (l : List Nat) (lv : Value) (w : World) (h : CH w c n R lk (memB T) T k V S) (L : Rd w lv (ints l)) (hLS : ∀ g, lv.ownBlock = some g → ¬ S g)
    (hl : ∀ x ∈ l, x < n) (hfl : fl ≤ 1000000) (hn : n ≤ 1000000) :
    Calls Try.prog 70 #[.pointer (some ⟨c, 0, none⟩), lv, .int .i64 fl] w (PutP w c n R lk T k V S fl l) := by
  obtain ⟨ao, cap, rfl, h1, h2, h3⟩ := L
  rw [ints_length] at h1 h3 ⊢
  obtain ⟨m, hm⟩ : ∃ m, m = l.length := ⟨_, rfl⟩
  rw [← hm] at h1 h3 ⊢
  have HM := hid_of hm
  have HI : Hid (PutI w c n R lk T k V S fl l 0 w) := hid_of ⟨T, V.tv, S, h, Chg.refl _ _, by simp⟩
  have HLS := hid_of hLS
  have HL := hid_of hl
  clear hm h hLS hl
  by_cases h0 : 0 < m
  · obtain ⟨g, o, rfl, hg, hc⟩ := h3 h0
    have HC := hid_of hc
    clear hc h3 h0
    go_enter Try.func70, Try.ntmps70
    go_wp2
    go_loopw [8, 11] (fun xv iv wr => ∃ (j : Nat) (v : Value), xv = v ∧ j ≤ m ∧ iv = .int .i64 j ∧ Hid (PutI w c n R lk T k V S fl l j wr)) (fun _ iv _ => m - (intOf iv).toNat)
    case atStart => exact ⟨0, _, rfl, Nat.zero_le _, rfl, HI⟩
    case round =>
      obtain ⟨j, v, rfl, hj, rfl, hi⟩ := hrel
      obtain ⟨Tj, tv, Sj, hch, hchg, hput⟩ := hi.out.ex
      clear hi
      by_cases hlt : j < m
      · have hd : decide (j < m) = true := by simp; omega
        obtain ⟨x, hx⟩ : ∃ x, l[j]? = some x := ⟨_, List.getElem?_eq_getElem (by have := HM.out; omega)⟩
        have hxn : x < n := HL.out x (List.mem_of_getElem? hx)
        have c1 : wr.cell? ⟨g, o + j, none⟩ = some (.int .i64 (x : Int)) := by
          have := HC.out j _ (ints_get hx)
          unfold World.cell? at this ⊢
          rw [hchg.kept.block g hg (HLS.out g rfl)]; exact this
        have HX := hid_of hx
        have cH := hch.cell (j := 4) rfl
        have cX := hch.hasc hxn
        have HD : l.drop j = x :: l.drop (j + 1) := by
          rw [List.drop_eq_getElem_cons (by have := HM.out; omega)]
          have := (List.getElem?_eq_some_iff.1 hx).2
          rw [this]
        rw [HD] at hput
        have HCH := hid_of hch
        have HCG := hid_of hchg
        have HP := hid_of hput
        clear hx hput HD hchg
        by_cases hin : x ∈ Tj
        · rw [show memB Tj x = true from decide_eq_true hin] at cX
          have HN : Hid (PutI w c n R lk T k V S fl l (j + 1) wr) := hid_of ⟨Tj, tv, Sj, HCH.out, HCG.out, by rw [HP.out]; simp [putF, hin]⟩
          clear hch hin
          go_wp2
          go_roundw
          case rel => exact ⟨j + 1, _, rfl, by omega, by go_num, HN⟩
          case measure => simp [intOf]; omega
        · rw [show memB Tj x = false from decide_eq_false hin] at cX
          by_cases hxf : x < fl
          · have hd2 : decide (x < fl) = true := by simp; omega
            have HN : Hid (∀ e, e = .returned (.bool false) → PutP w c n R lk T k V S fl l e wr) := hid_of (fun e he => by
              have e1 : putF fl l T = (Tj, false) := by rw [HP.out]; simp [putF, hin, hxf]
              exact ⟨tv, Sj, by rw [he, e1], by rw [e1]; exact HCH.out, HCG.out⟩)
            clear hch hin hxf
            go_wp2
            go_ret
            exact HN.out _ rfl
          · have hd2 : decide (x < fl) = false := by simp; omega
            have fX := hch.hasf x
            have HS1 := hch.setHas x true
            have c5 := HS1.cell (j := 5) rfl
            have cc := HS1.cell (j := 4) rfl
            obtain ⟨ta, tc, htv⟩ := hch.tvs
            have htv' : tv = .slice ta Tj.length tc := htv
            subst htv'
            have hTl : Tj.length ≤ 1000000 := Nat.le_trans hch.len hn
            have HTL := hid_of hTl
            have HSS := hid_of HS1
            have HIN := hid_of hin
            have HXF := hid_of hxf
            have HXN := hid_of hxn
            have HPU : Hid (∀ (ao2 : Option Addr) (cap2 m2 : Nat) (w2 : World), m2 = Tj.length + 1 → w2.ownsRow 0 3 1 (.slice ao2 m2 cap2) m2 (ints Tj ++ [.int .i64 (x : Int)]) → ((wr.setCell ⟨V.gh, x, none⟩ (.bool true)).alloc (.cells #[.int .i64 (x : Int)] 3)).grownBy w2 (Value.slice ta Tj.length tc).ownBlock →
                ((Value.slice ao2 m2 cap2).ownBlock = (Value.slice ta Tj.length tc).ownBlock ∨ (Value.slice ao2 m2 cap2).ownBlock = some ((wr.setCell ⟨V.gh, x, none⟩ (.bool true)).alloc (.cells #[.int .i64 (x : Int)] 3)).heap.size) →
                (w2.cell? ⟨c, 5, none⟩ = some (.slice ta Tj.length tc) ∧ w2.frozen? ⟨c, 5, none⟩ = false) ∧ PutI w c n R lk T k V S fl l (j + 1) (w2.setCell ⟨c, 5, none⟩ (.slice ao2 m2 cap2))) := hid_of (fun ao2 cap2 m2 w2 e1 e2 e3 e4 => by
              subst e1
              have hb := bel_alloc (wr.setCell ⟨V.gh, x, none⟩ (.bool true)) (.cells #[.int .i64 (x : Int)] 3)
              obtain ⟨p1, p2⟩ := HSS.out.push HIN.out HXN.out hb e2 e3 e4
              have hbl := HSS.out.behind hb e3
              refine ⟨⟨blk_cell hbl rfl, blk_free hbl 5⟩, ⟨Tj ++ [x], _, _, p1.conv (fun _ _ => rfl) (fun i _ => memB_push Tj x i), HCG.out.trans ((chg_set (b := V.gh) HCH.out.sh).trans p2), ?_⟩⟩
              rw [HP.out, putF, if_neg HIN.out, if_neg HXF.out])
            have hown := HSS.out.tr
            obtain ⟨q, hq⟩ : ∃ q, q = Tj.length := ⟨_, rfl⟩
            clear hch HS1 hin hxf htv hTl
            have hov := hid_of hown
            clear hown
            have cN : ((wr.setCell ⟨V.gh, x, none⟩ (.bool true)).alloc (.cells #[.int .i64 (x : Int)] 3)).cell? ⟨wr.heap.size, 0, none⟩ = some (.int .i64 (x : Int)) := by
              have := blk_cell (cs := [.int .i64 (x : Int)]) (j := 0) (heap_alloc_new (wr.setCell ⟨V.gh, x, none⟩ (.bool true)) (.cells #[.int .i64 (x : Int)] 3)) rfl
              simpa using this
            have HO : Hid (((wr.setCell ⟨V.gh, x, none⟩ (.bool true)).alloc (.cells #[.int .i64 (x : Int)] 3)).ownsRow 0 3 1 (.slice ta Tj.length tc) Tj.length (ints Tj)) := hid_of (own_same hov.out fun a ha => (bel_alloc _ _).block a (own_lt hov.out ha))
            go_wp2_with (at_builtin; refine wpList_push rfl (.tmp 35) (.tmp 37) rfl (.slice ta Tj.length tc) Tj rfl HO.out wr.heap.size x rfl cN HTL.out ?_; intro ao2 cap2 m2 w2 e1 e2 e3 e4; have PP := hid_of (HPU.out ao2 cap2 m2 w2 e1 e2 e3 e4); clear e1 e2 e3 e4; have q5 := PP.out.1.1; have f5 := PP.out.1.2)
            go_roundw
            case rel => exact ⟨j + 1, _, rfl, by omega, by go_num, hid_of PP.out.2⟩
            case measure => simp [intOf]; omega
      · have hd : decide (j < m) = false := by simp; omega
        have HN : Hid (∀ e, e = .returned (.bool true) → PutP w c n R lk T k V S fl l e wr) := hid_of (fun e he => by
          have e1 : putF fl l T = (Tj, true) := by rw [hput, List.drop_of_length_le (by have := HM.out; omega)]; rfl
          exact ⟨tv, Sj, by rw [he, e1], by rw [e1]; exact hch, hchg⟩)
        clear hch hput hchg
        go_wp2
        go_ret
        exact HN.out _ rfl
  · have hm0 : m = 0 := by omega
    subst hm0
    have HN : Hid (∀ e, e = .returned (.bool true) → PutP w c n R lk T k V S fl l e w) := hid_of (fun e he => by
      obtain ⟨Tj, tv, Sj, hch, hchg, hput⟩ := HI.out.ex
      have hl0 : l = [] := List.eq_nil_of_length_eq_zero HM.out.symm
      subst hl0
      have e1 : putF fl [] T = (Tj, true) := by rw [hput]; rfl
      exact ⟨tv, Sj, by rw [he, e1], by rw [e1]; exact hch, hchg⟩)
    clear h3 h0 HM HI
    go_enter Try.func70, Try.ntmps70
    go_wp2
    go_loop [8, 11] (fun sv iv => ∃ v : Value, sv = v ∧ iv = .int .i64 0) (fun _ iv => 0)
    case atStart => exact ⟨_, rfl, rfl⟩
    case round =>
      obtain ⟨v, rfl, rfl⟩ := hrel
      go_wp2
      go_ret
      exact HN.out _ rfl
end Go.Proofs.Ytedohggbpmcehaa

/- What grow does at a rule that lacks nothing: its closure. Bounds on sizes alone. -/
namespace Go.Proofs.Ytedohggbpmcehaa
open Go.RowKit

/-- What the closure leaves: the conclusions are put; the flag in block ob is lowered if that failed. -/
def MetP (w : World) (c n : Nat) (R : List Hrl) (lk : Nat → Nat) (T : List Nat) (k : Nat) (V : CV) (S : Nat → Prop) (fl r ob : Nat) (ok : Bool) (e : Ending) (w' : World) : Prop :=
  ∃ tv S' w1, e = .returned (.tuple #[]) ∧ w' = w1.setCell ⟨ob, 0, none⟩ (.bool ((putF fl (conc R r) T).2 && ok)) ∧ CH w1 c n R lk (memB (putF fl (conc R r) T).1) (putF fl (conc R r) T).1 k { V with tv := tv } S' ∧ Chg S S' w w1

set_option maxRecDepth 100000 in
set_option maxHeartbeats 800000 in
theorem met_any (c n fl k r cb fb ob : Nat) (R : List Hrl) (lk : Nat → Nat) (T : List Nat) (V : CV) (S : Nat → Prop) (ok : Bool) (w : World) (h : CH w c n R lk (memB T) T k V S) (hr : r < R.length)
    (h1 : w.heap[cb]? = some (.cells #[.pointer (some ⟨c, 0, none⟩)] 76 (0, 0))) (h2 : w.heap[fb]? = some (.cells #[.int .i64 fl] 3 (0, 0))) (h3 : w.heap[ob]? = some (.cells #[.bool ok] 4 (0, 0)))
    (s1 : ¬ S cb) (s2 : ¬ S fb) (s3 : ¬ S ob) (hfl : fl ≤ 1000000) (hn : n ≤ 1000000) :
    Calls Try.prog 87 #[.int .i64 r, .pointer (some ⟨cb, 0, none⟩), .pointer (some ⟨fb, 0, none⟩), .pointer (some ⟨ob, 0, none⟩)] w (MetP w c n R lk T k V S fl r ob ok) := by
  have hd := h.at (w' := w.drew) (Below.refl _ _).drew
  obtain ⟨ao, ac, hav⟩ := own_shape h.ad
  have hlen : V.ar.length = R.length := by have := h.ad.1; omega
  obtain ⟨cv, hcv⟩ : ∃ cv, V.ar[r]? = some cv := ⟨_, List.getElem?_eq_getElem (by omega)⟩
  have hai := hd.ai r cv hcv
  have PU := put_any c n fl k R lk T V S (conc R r) cv w.drew hd hai.1 (fun g hg => (hai.2 g hg).2) (fun x hx => h.rn r x hr hx) hfl hn
  have c1 : w.cell? ⟨cb, 0, none⟩ = some (.pointer (some ⟨c, 0, none⟩)) := blk_cell (cs := [.pointer (some ⟨c, 0, none⟩)]) h1 rfl
  have c2 : w.cell? ⟨fb, 0, none⟩ = some (.int .i64 fl) := blk_cell (cs := [.int .i64 fl]) h2 rfl
  have c3 := h.cell (j := 2) rfl
  rw [hav] at c3
  have hao := h.ad
  rw [hav] at hao
  obtain ⟨g, rfl⟩ : ∃ g, ao = some ⟨g, 0, none⟩ := by
    rcases hao.2 with ⟨_, h5⟩ | ⟨g, _, _, h5, _⟩
    · omega
    · simp only [Value.slice.injEq] at h5; exact ⟨g, h5.1⟩
  have c4 := own_cell hao hcv
  have hRl : R.length ≤ 9223372036854775807 := by
    rcases own_shape2 hao with ⟨h5, _⟩ | ⟨_, _, h5, _, h6, h7⟩
    · cases h5
    · omega
  obtain ⟨m, hm⟩ : ∃ m, m = R.length := ⟨_, rfl⟩
  rw [← hm] at c3 hr hRl
  obtain ⟨b, hb⟩ : ∃ b, b = (putF fl (conc R r) T).2 := ⟨_, rfl⟩
  have HPU : Hid (Calls Try.prog 70 #[.pointer (some ⟨c, 0, none⟩), cv, .int .i64 fl] w.drew fun e w' => e = .returned (.bool b) ∧ PutP w.drew c n R lk T k V S fl (conc R r) (.returned (.bool b)) w') := hid_of (PU.mono fun e w' h => by
    have h' := h
    obtain ⟨tv, S', rfl, h5, h6⟩ := h'
    rw [hb]
    exact ⟨rfl, h⟩)
  have HF : Hid (∀ w1, PutP w.drew c n R lk T k V S fl (conc R r) (.returned (.bool b)) w1 → (w1.cell? ⟨ob, 0, none⟩ = some (.bool ok) ∧ w1.frozen? ⟨ob, 0, none⟩ = false) ∧ ∀ (e : Ending) (w' : World) (v : Value), e = .returned (.tuple #[]) → v = .bool (b && ok) → w' = w1.setCell ⟨ob, 0, none⟩ v → MetP w c n R lk T k V S fl r ob ok e w') := hid_of (fun w1 hp => by
    obtain ⟨tv, S', _, h5, h6⟩ := hp
    have h7 : w1.heap[ob]? = some (.cells #[.bool ok] 4 (0, 0)) := h6.blk h3 s3
    refine ⟨⟨blk_cell (cs := [.bool ok]) h7 rfl, blk_free (cs := [.bool ok]) h7 0⟩, fun e w' v he hv hw => ⟨tv, S', w1, he, by rw [hw, hv, hb], h5, ?_⟩⟩
    exact (Chg.ofBelow (Below.refl _ _).drew).trans h6)
  clear PU h hd hai hao hav hcv hlen h1 h2 h3 s1 s2 s3 hfl hn hm hb
  cases b
  all_goals
    go_enter Try.func87, Try.ntmps87
    go_wp2
    go_still_tail 9, (by kernel_rfl)
    change wpList _ _ _ _ _ w.drew
    go_wp2_with (go_at_call 70; ((with_reducible refine (HPU.out).mono ?_); (rintro e w1 ⟨rfl, h5⟩)); have HH := hid_of (HF.out w1 h5); clear h5; have q1 := HH.out.1.1; have q2 := HH.out.1.2)
    go_end0
    exact HH.out.2 _ _ _ rfl (by simp) rfl
end Go.Proofs.Ytedohggbpmcehaa

/- count: the next name of the trail is counted; the rules that lack nothing any more are applied. Bounds on sizes alone. -/
namespace Go.Proofs.Ytedohggbpmcehaa
open Go.RowKit

def orB (S : Nat → Prop) (ob : Nat) : Nat → Prop := fun g => S g ∨ g = ob
theorem chg_or {S S' : Nat → Prop} {w w' : World} (ob : Nat) (h : Chg S S' w w') : Chg (orB S ob) (orB S' ob) w w' :=
  ⟨⟨h.kept.os, h.kept.tape, h.kept.output, h.kept.size, fun k hk hs => h.kept.block k hk (fun h2 => hs (.inl h2))⟩, fun k hk => by
    rcases hk with hk | hk
    · rcases h.sub k hk with h2 | h2
      · exact .inl (.inl h2)
      · exact .inr h2
    · exact .inl (.inr hk)⟩
theorem chg_ob (S : Nat → Prop) (w : World) (ob : Nat) (v : Value) : Chg (orB S ob) (orB S ob) w (w.setCell ⟨ob, 0, none⟩ v) := chg_set (S := orB S ob) (.inr rfl)
/-- A round of count: j rules have been looked at. -/
def CntI (w : World) (c n : Nat) (R : List Hrl) (off : Nat → Nat) (fl : Nat) (S0 : Nat → Prop) (T0 T : List Nat) (k a : Nat) (V : CV) (S : Nat → Prop) (ob : Nat) (ok : Bool) (j : Nat) (wr : World) : Prop :=
  ∃ Tj tv Sj okj, CH wr c n R (mixL R off (usesF R a) j (T.take k) (T.take k ++ [a])) (memB Tj) Tj (k + 1) { V with tv := tv } Sj ∧ Chg (orB S ob) (orB Sj ob) w wr ∧ wr.heap[ob]? = some (.cells #[.bool okj] 4 (0, 0)) ∧
    GI R off n fl S0 T0 Tj (k + 1) okj (fun i => i ∈ usesF R a → i ∈ (usesF R a).take j) ∧ ¬ Sj ob ∧ (okj = true → ok = true) ∧ ∃ U, Tj = T ++ U
def CntP (w : World) (c n : Nat) (R : List Hrl) (off : Nat → Nat) (fl : Nat) (S0 : Nat → Prop) (T0 T : List Nat) (k : Nat) (V : CV) (S : Nat → Prop) (ob : Nat) (ok : Bool) (e : Ending) (w' : World) : Prop :=
  e = .returned (.tuple #[]) ∧ ∃ T' tv S' ok', CH w' c n R (lackR R off (T'.take (k + 1))) (memB T') T' (k + 1) { V with tv := tv } S' ∧ Chg (orB S ob) (orB S' ob) w w' ∧ w'.heap[ob]? = some (.cells #[.bool ok'] 4 (0, 0)) ∧
    GI R off n fl S0 T0 T' (k + 1) ok' (fun _ => True) ∧ ¬ S' ob ∧ (ok' = true → ok = true) ∧ ∃ U, T' = T ++ U

set_option maxRecDepth 100000 in
set_option maxHeartbeats 1600000 in
theorem cnt_any (c n fl k a cb fb ob : Nat) (R : List Hrl) (off : Nat → Nat) (S0 : Nat → Prop) (T0 T : List Nat) (V : CV) (S : Nat → Prop) (ok : Bool) (w : World) (h : CH w c n R (lackR R off (T.take k)) (memB T) T k V S) (ha : T[k]? = some a)
    (hg : GI R off n fl S0 T0 T k ok (fun _ => True))
    (h1 : w.heap[cb]? = some (.cells #[.pointer (some ⟨c, 0, none⟩)] 76 (0, 0))) (h2 : w.heap[fb]? = some (.cells #[.int .i64 fl] 3 (0, 0))) (h3 : w.heap[ob]? = some (.cells #[.bool ok] 4 (0, 0)))
    (s1 : ¬ S cb) (s2 : ¬ S fb) (s3 : ¬ S ob) (hne : cb ≠ ob ∧ fb ≠ ob) (hob : ∀ (i : Nat) (v : Value), V.ar[i]? = some v → ∀ g, v.ownBlock = some g → g ≠ ob) (hfl : fl ≤ 1000000) (hn : n ≤ 1000000) (hR : ∀ i, off i ≤ 1) :
    Calls Try.prog 79 #[.pointer (some ⟨c, 0, none⟩), .func (.func 87) #[] #[.pointer (some ⟨cb, 0, none⟩), .pointer (some ⟨fb, 0, none⟩), .pointer (some ⟨ob, 0, none⟩)]] w (CntP w c n R off fl S0 T0 T k V S ob ok) := by
  have hkT : k < T.length := (List.getElem?_eq_some_iff.1 ha).1
  have haN : a < n := h.tn a (List.mem_of_getElem? ha)
  have hTn := h.len
  obtain ⟨ta, tc, htv⟩ := h.tvs
  have htr := h.tr
  rw [htv] at htr
  obtain ⟨gt, rfl⟩ : ∃ g, ta = some ⟨g, 0, none⟩ := by
    rcases htr.2 with ⟨h5, h6⟩ | ⟨g, _, _, h5, _⟩
    · omega
    · simp only [Value.slice.injEq] at h5; exact ⟨g, h5.1⟩
  have HD : Hid (∀ q, CH (w.drewN q) c n R (lackR R off (T.take k)) (memB T) T k V S ∧ Below w.heap.size w (w.drewN q)) := hid_of (fun q => ⟨h.at (bel_drewN (Below.refl _ _) q), bel_drewN (Below.refl _ _) q⟩)
  have c5 := h.cell (j := 5) rfl
  have c6 := h.cell (j := 6) rfl
  rw [htv] at c5
  have cT := own_cell htr (ints_get ha)
  obtain ⟨uv, huv⟩ : ∃ uv, V.ur[a]? = some uv := ⟨_, List.getElem?_eq_getElem (by rw [h.ul]; exact haN)⟩
  obtain ⟨uo, uc, huv2⟩ := own_shape (h.us a uv huv)
  subst huv2
  obtain ⟨m, hm⟩ : ∃ m, m = (usesF R a).length := ⟨_, rfl⟩
  have HUV := hid_of huv
  have HM := hid_of hm
  have hmc : m ≤ 9223372036854775807 := by
    rcases own_shape2 (h.us a _ huv) with ⟨_, h6⟩ | ⟨_, _, h5, _, h6, h7⟩
    · omega
    · omega
  rw [← hm] at huv
  have HST : Hid (∀ q, CntI w c n R off fl S0 T0 T k a V S ob ok 0 ((w.drewN q).setCell ⟨c, 6, none⟩ (.int .i64 ((k : Int) + 1)))) := hid_of (fun q => by
    obtain ⟨q1, q2⟩ := HD.out q
    have q3 := q1.setCount (k + 1)
    have q4 : Chg S S w ((w.drewN q).setCell ⟨c, 6, none⟩ (.int .i64 ((k : Int) + 1))) := (Chg.ofBelow q2).trans (chg_set h.sc)
    exact ⟨T, V.tv, S, ok, q3.conv (fun i _ => (mixL_zero _ _ _ _ _ _).symm) (fun _ _ => rfl), chg_or ob q4, q4.blk h3 s3, hg.next ha, s3, id, [], by simp⟩)
  have HEND : Hid (∀ wr, CntI w c n R off fl S0 T0 T k a V S ob ok m wr → CntP w c n R off fl S0 T0 T k V S ob ok (.returned (.tuple #[])) wr) := hid_of (fun wr hi => by
    obtain ⟨Tj, tv, Sj, okj, q1, q2, q3, q4, q5, q6, U, rfl⟩ := hi
    have e1 : (T ++ U).take (k + 1) = T.take k ++ [a] := by rw [List.take_append_of_le_length (by omega), take_snoc_get ha]
    refine ⟨rfl, T ++ U, tv, Sj, okj, ?_, q2, q3, ?_, q5, q6, U, rfl⟩
    · rw [e1]; exact q1.conv (fun i hi => by rw [hm]; exact mixL_end hi) (fun _ _ => rfl)
    · rw [hm] at q4; exact q4.all)
  have HRD : Hid (∀ j wr, CntI w c n R off fl S0 T0 T k a V S ob ok j wr → j < m → ∃ r x gr go gl lc mR : Nat, wr.cell? ⟨c, 3, none⟩ = some (.slice (some ⟨gl, 0, none⟩) mR lc) ∧ wr.cell? ⟨gr, go + j, none⟩ = some (.int .i64 (r : Int)) ∧ uo = some ⟨gr, go, none⟩ ∧ r < mR ∧ mR ≤ 9223372036854775807 ∧
      wr.cell? ⟨gl, r, none⟩ = some (.int .i64 ((x : Int) + 1)) ∧ wr.frozen? ⟨gl, r, none⟩ = false ∧ x ≤ 2000000 ∧
      (wr.setCell ⟨gl, r, none⟩ (.int .i64 (x : Int))).cell? ⟨c, 3, none⟩ = some (.slice (some ⟨gl, 0, none⟩) mR lc) ∧ (wr.setCell ⟨gl, r, none⟩ (.int .i64 (x : Int))).cell? ⟨gl, r, none⟩ = some (.int .i64 (x : Int)) ∧
      (x ≠ 0 → CntI w c n R off fl S0 T0 T k a V S ob ok (j + 1) (wr.setCell ⟨gl, r, none⟩ (.int .i64 (x : Int)))) ∧
      (x = 0 → Calls Try.prog 87 #[.int .i64 r, .pointer (some ⟨cb, 0, none⟩), .pointer (some ⟨fb, 0, none⟩), .pointer (some ⟨ob, 0, none⟩)] (wr.setCell ⟨gl, r, none⟩ (.int .i64 (x : Int))) fun e w' => e = .returned (.tuple #[]) ∧ CntI w c n R off fl S0 T0 T k a V S ob ok (j + 1) w')) := hid_of (fun j wr hi hj => by
    obtain ⟨Tj, tv, Sj, okj, q1, q2, q3, q4, q5, q6, U, hU⟩ := hi
    obtain ⟨r, hr⟩ : ∃ r, (usesF R a)[j]? = some r := ⟨_, List.getElem?_eq_getElem (by omega)⟩
    have hrm : r ∈ usesF R a := List.mem_of_getElem? hr
    have hrR : r < R.length := (mem_usesF.1 hrm).1
    obtain ⟨lo, lc, hlv⟩ := own_shape q1.la
    have hlo := q1.la
    rw [hlv] at hlo
    obtain ⟨gl, rfl⟩ : ∃ g, lo = some ⟨g, 0, none⟩ := by
      rcases hlo.2 with ⟨_, h6⟩ | ⟨g, _, _, h5, _⟩
      · omega
      · simp only [Value.slice.injEq] at h5; exact ⟨g, h5.1⟩
    have hus := q1.us a _ HUV.out
    obtain ⟨gr, rfl⟩ : ∃ g, uo = some ⟨g, 0, none⟩ := by
      rcases hus.2 with ⟨_, h6⟩ | ⟨g, _, _, h5, _⟩
      · omega
      · simp only [Value.slice.injEq] at h5; exact ⟨g, h5.1⟩
    have hCa : a ∉ T.take k := not_take h.nd ha
    have hx1 : mixL R off (usesF R a) j (T.take k) (T.take k ++ [a]) r = lackR R off (T.take k ++ [a]) r + 1 := by
      rw [mixL_at (usesF_nodup R a) hr, lackR_step hCa hrm (h.pn r hrR).1]
    have hxb : lackR R off (T.take k ++ [a]) r ≤ 2000000 := by
      have p1 := lackF_le (prem R r) (T.take k ++ [a])
      have p2 := nodup_bound n (prem R r) (h.pn r hrR).1 (h.pn r hrR).2
      have p3 := hR r
      unfold lackR
      omega
    have hlen : R.length ≤ 9223372036854775807 := by
      rcases own_shape2 hlo with ⟨h5, _⟩ | ⟨_, _, h5, _, h6, h7⟩
      · cases h5
      · omega
    have hch := (q1.setLack (i := r) (x := lackR R off (T.take k ++ [a]) r) hlv).conv (fun i _ => mixL_next hr i) (fun _ _ => rfl)
    have hcs : Chg Sj Sj wr (wr.setCell ⟨gl, r, none⟩ (.int .i64 (lackR R off (T.take k ++ [a]) r : Int))) := chg_set (q1.sl gl (by rw [hlv]; rfl))
    have hsj : ∀ b, ¬ S b → b < w.heap.size → ¬ Sj b ∨ b = ob := fun b hb hbw => by
      by_cases e : b = ob
      · exact .inr e
      refine .inl fun h5 => ?_
      rcases q2.sub b (.inl h5) with h6 | h6
      · rcases h6 with h6 | h6
        · exact hb h6
        · exact e h6
      · omega
    have hobS : ¬ Sj ob := q5
    have hCt : Tj.take (k + 1) = T.take k ++ [a] := by rw [hU, List.take_append_of_le_length (by omega), take_snoc_get ha]
    have hlk : (wr.setCell ⟨gl, r, none⟩ (.int .i64 (lackR R off (T.take k ++ [a]) r : Int))).cell? ⟨gl, r, none⟩ = some (.int .i64 (lackR R off (T.take k ++ [a]) r : Int)) := by
      have := hch.la
      rw [hlv] at this
      have e := own_cell this (lks_get _ hrR)
      rw [e, ← mixL_next hr r, if_pos rfl]
    refine ⟨r, lackR R off (T.take k ++ [a]) r, gr, 0, gl, lc, R.length, ?_, ?_, rfl, hrR, hlen, ?_, own_free hlo r, hxb, ?_, hlk, fun hx => ?_, fun hx => ?_⟩
    · have := q1.cell (j := 3) rfl
      rw [hlv] at this; exact this
    · rw [Nat.zero_add]; exact own_cell hus (ints_get hr)
    · have := own_cell hlo (lks_get _ hrR)
      rw [hx1] at this; exact this
    · have := hch.cell (j := 3) rfl
      rw [hlv] at this; exact this
    · exact ⟨Tj, tv, Sj, okj, hch, q2.trans (chg_or ob hcs), hcs.blk q3 hobS, q4.skip hr (by rw [hCt]; exact hx), hobS, q6, U, hU⟩
    · have b1 : (wr.setCell ⟨gl, r, none⟩ (.int .i64 (lackR R off (T.take k ++ [a]) r : Int))).heap[cb]? = some (.cells #[.pointer (some ⟨c, 0, none⟩)] 76 (0, 0)) :=
        hcs.blk (q2.blk h1 (fun h5 => by rcases h5 with h5 | h5; exact s1 h5; exact hne.1 h5)) (by rcases hsj cb s1 (lt_of_block h1) with h5 | h5; exact h5; exact absurd h5 hne.1)
      have b2 : (wr.setCell ⟨gl, r, none⟩ (.int .i64 (lackR R off (T.take k ++ [a]) r : Int))).heap[fb]? = some (.cells #[.int .i64 fl] 3 (0, 0)) :=
        hcs.blk (q2.blk h2 (fun h5 => by rcases h5 with h5 | h5; exact s2 h5; exact hne.2 h5)) (by rcases hsj fb s2 (lt_of_block h2) with h5 | h5; exact h5; exact absurd h5 hne.2)
      have s1' : ¬ Sj cb := by rcases hsj cb s1 (lt_of_block h1) with h5 | h5; exact h5; exact absurd h5 hne.1
      have s2' : ¬ Sj fb := by rcases hsj fb s2 (lt_of_block h2) with h5 | h5; exact h5; exact absurd h5 hne.2
      refine (met_any c n fl (k + 1) r cb fb ob R _ Tj _ Sj okj _ hch hrR b1 b2 (hcs.blk q3 hobS) s1' s2' hobS hfl hn).mono ?_
      rintro e w' ⟨tv2, S2, w1, rfl, rfl, p1, p2⟩
      have hob2 : ¬ S2 ob := fun h5 => by
        rcases p2.sub ob h5 with h6 | h6
        · exact hobS h6
        · have := lt_of_block (hcs.blk q3 hobS); omega
      refine ⟨rfl, (putF fl (conc R r) Tj).1, tv2, S2, ((putF fl (conc R r) Tj).2 && okj), p1.chg (chg_set (S := fun g => g = ob) (b := ob) rfl) (fun g hg2 e => hob2 (e ▸ hg2)) hob, ?_, ?_, q4.fire hr hrR (by rw [hCt]; exact hx) (fun x hx2 => h.rn r x hrR hx2), hob2, fun h5 => q6 (by rw [Bool.and_eq_true] at h5; exact h5.2), ?_⟩
      · exact ((q2.trans (chg_or ob hcs)).trans (chg_or ob p2)).trans (chg_ob S2 w1 ob _)
      · exact blk_setCell (cur := [.bool okj]) (k := 0) (p2.blk (hcs.blk q3 hobS) hobS)
      · obtain ⟨U2, e2, _⟩ := putF_pre fl (conc R r) Tj
        exact ⟨U ++ U2, by rw [e2, hU, List.append_assoc]⟩)
  have HCZ : Hid (∀ q, ((w.drewN q).cell? ⟨c, 6, none⟩ = some (.int .i64 (k : Int)) ∧ (w.drewN q).frozen? ⟨c, 6, none⟩ = false) ∧ ((w.drewN q).setCell ⟨c, 6, none⟩ (.int .i64 ((k : Int) + 1))).cell? ⟨c, 1, none⟩ = some (.slice (some ⟨V.gu, 0, none⟩) n n) ∧ ((w.drewN q).setCell ⟨c, 6, none⟩ (.int .i64 ((k : Int) + 1))).cell? ⟨V.gu, a, none⟩ = some (.slice uo m uc)) := hid_of (fun q => by
    obtain ⟨q1, q2⟩ := HD.out q
    have q3 := q1.setCount (k + 1)
    refine ⟨⟨q1.cell (j := 6) rfl, q1.free 6⟩, q3.cell (j := 1) rfl, ?_⟩
    rw [hm]
    exact blk_cell q3.uu HUV.out)
  clear h ha hg h1 h2 h3 s1 s2 s3 hne hob hR hfl HD HM HUV hm huv htv htr
  have hk1 : k ≤ 1000000 := by omega
  have hnn : n ≤ 9223372036854775807 := by omega
  go_enter Try.func79, Try.ntmps79
  go_wp2
  go_quiet (fail)
  have HZ := hid_of (HCZ.out nq)
  have HS2 := hid_of (HST.out nq)
  have z1 := HZ.out.1.1
  have z2 := HZ.out.1.2
  have z3 := HZ.out.2.1
  have z4 := HZ.out.2.2
  clear HCZ HST c5 c6 cT
  generalize w.drewN nq = wz at *
  go_wp2
  by_cases h0 : 0 < m
  · go_loopw [6, 32] (fun xv iv wr => ∃ (j : Nat) (v : Value), xv = v ∧ j ≤ m ∧ iv = .int .i64 j ∧ Hid (CntI w c n R off fl S0 T0 T k a V S ob ok j wr)) (fun _ iv _ => m - (intOf iv).toNat)
    case atStart => exact ⟨0, _, rfl, Nat.zero_le _, rfl, hid_of HS2.out⟩
    case round =>
      obtain ⟨j, v, rfl, hj, rfl, hi⟩ := hrel
      by_cases hlt : j < m
      · have hd : decide (j < m) = true := by simp; omega
        obtain ⟨r, x, gr, go, gl, lc, mR, e1, e2, rfl, e4, e5, e6, e7, e8, e9, e10, e11, e12⟩ := HRD.out j wr hi.out hlt
        have HA := hid_of e11
        have HB := hid_of e12
        clear e11 e12 hi
        by_cases hx0 : x = 0
        · have t0 : ((x : Int) == 0) = true := by simp [hx0]
          have HC := hid_of (HB.out hx0)
          clear hx0
          go_wp2_with (go_at_call 87; ((with_reducible refine (HC.out).mono ?_); (rintro e w1 ⟨rfl, h5⟩)); have HH := hid_of h5; clear h5)
          go_roundw
          case rel => exact ⟨j + 1, _, rfl, by omega, by go_num, HH⟩
          case measure => simp [intOf]; omega
        · have t0 : ((x : Int) == 0) = false := by simp [hx0]
          have HC := hid_of (HA.out hx0)
          clear hx0
          go_wp2
          go_roundw
          case rel => exact ⟨j + 1, _, rfl, by omega, by go_num, HC⟩
          case measure => simp [intOf]; omega
      · have hd : decide (j < m) = false := by simp; omega
        obtain rfl : j = m := by omega
        have HE := hid_of (HEND.out _ hi.out)
        go_wp2
        go_end0
        exact HE.out
  · obtain rfl : m = 0 := by omega
    have HE := hid_of (HEND.out _ HS2.out)
    go_loop [6, 32] (fun sv iv => ∃ v : Value, sv = v ∧ iv = .int .i64 0) (fun _ iv => 0)
    case atStart => exact ⟨_, rfl, rfl⟩
    case round =>
      obtain ⟨v, rfl, rfl⟩ := hrel
      go_wp2
      go_end0
      exact HE.out
end Go.Proofs.Ytedohggbpmcehaa

/- grow: names are added, and all that follow from them. Bounds on sizes alone. -/
namespace Go.Proofs.Ytedohggbpmcehaa
open Go.RowKit

theorem chg_un {S S1 S2 : Nat → Prop} {w w1 w2 : World} {ob : Nat} (h : Chg S S1 w w1) (h2 : Chg (orB S1 ob) (orB S2 ob) w1 w2) (hob : w.heap.size ≤ ob) : Chg S S2 w w2 := by
  refine ⟨⟨h2.kept.os.trans h.kept.os, h2.kept.tape.trans h.kept.tape, h2.kept.output.trans h.kept.output, Nat.le_trans h.kept.size h2.kept.size, fun k hk hs => ?_⟩, fun k hk => ?_⟩
  · rw [h2.kept.block k (Nat.lt_of_lt_of_le hk h.kept.size) (fun h1 => by
      rcases h1 with h1 | h1
      · rcases h.sub k h1 with h3 | h3
        · exact hs h3
        · omega
      · omega), h.kept.block k hk hs]
  · rcases h2.sub k (.inl hk) with h1 | h1
    · rcases h1 with h1 | h1
      · exact h.sub k h1
      · exact .inr (by omega)
    · exact .inr (Nat.le_trans h.kept.size h1)
/-- A round of grow. -/
def GrwI (w : World) (c n : Nat) (R : List Hrl) (off : Nat → Nat) (fl : Nat) (S0 : Nat → Prop) (T : List Nat) (l : List Nat) (V : CV) (S : Nat → Prop) (cb fb ob : Nat) (k : Nat) (g : Nat) (wr : World) : Prop :=
  ∃ Tj kj tv Sj okj, CH wr c n R (lackR R off (Tj.take kj)) (memB Tj) Tj kj { V with tv := tv } Sj ∧ Chg S Sj w wr ∧ wr.heap[cb]? = some (.cells #[.pointer (some ⟨c, 0, none⟩)] 76 (0, 0)) ∧ wr.heap[fb]? = some (.cells #[.int .i64 fl] 3 (0, 0)) ∧ wr.heap[ob]? = some (.cells #[.bool okj] 4 (0, 0)) ∧
    (¬ Sj cb ∧ ¬ Sj fb ∧ ¬ Sj ob) ∧ GI R off n fl S0 T Tj kj okj (fun _ => True) ∧ g + kj = n ∧ k ≤ kj ∧ (okj = true → ∀ x, x ∈ l → x ∈ Tj)
def GrowP (w : World) (c n : Nat) (R : List Hrl) (off : Nat → Nat) (fl : Nat) (S0 : Nat → Prop) (T : List Nat) (l : List Nat) (V : CV) (S : Nat → Prop) (k : Nat) (e : Ending) (w' : World) : Prop :=
  ∃ T' k' tv S' ok, e = .returned (.bool ok) ∧ CH w' c n R (lackR R off (T'.take k')) (memB T') T' k' { V with tv := tv } S' ∧ Chg S S' w w' ∧ GI R off n fl S0 T T' k' ok (fun _ => True) ∧ (ok = true → k' = T'.length ∧ ∀ x, x ∈ l → x ∈ T') ∧ k ≤ k'

set_option maxRecDepth 100000 in
set_option maxHeartbeats 1600000 in
theorem grow_any (c n fl k : Nat) (R : List Hrl) (off : Nat → Nat) (T : List Nat) (V : CV) (S : Nat → Prop) (l : List Nat) (lv : Value) (w : World) (h : CH w c n R (lackR R off (T.take k)) (memB T) T k V S) (hs : Sat R off T k) (hk : k ≤ T.length)
    (L : Rd w lv (ints l)) (hLS : ∀ g, lv.ownBlock = some g → ¬ S g) (hl : ∀ x ∈ l, x < n) (hfl : fl ≤ 1000000) (hn : n ≤ 1000000) (hR : ∀ i, off i ≤ 1) :
    Calls Try.prog 71 #[.pointer (some ⟨c, 0, none⟩), lv, .int .i64 fl] w (GrowP w c n R off fl (fun x => x ∈ T ∨ x ∈ l) T l V S k) := by
  obtain ⟨W2, hW2⟩ : ∃ W2, W2 = (w.alloc (.cells #[.pointer (some ⟨c, 0, none⟩)] 76)).alloc (.cells #[.int .i64 (fl : Int)] 3) := ⟨_, rfl⟩
  have B1 := bel_alloc w (.cells #[.pointer (some ⟨c, 0, none⟩)] 76)
  have B2 := bel_alloc (w.alloc (.cells #[.pointer (some ⟨c, 0, none⟩)] 76)) (.cells #[.int .i64 (fl : Int)] 3)
  have z1 : (w.alloc (.cells #[.pointer (some ⟨c, 0, none⟩)] 76)).heap.size = w.heap.size + 1 := by simp
  have B12 : Below w.heap.size w W2 := by rw [hW2]; exact B1.trans (B2.mono (by rw [z1]; omega))
  have z2 : W2.heap.size = w.heap.size + 1 + 1 := by rw [hW2]; simp
  have n1 : W2.heap[w.heap.size]? = some (.cells #[.pointer (some ⟨c, 0, none⟩)] 76 (0, 0)) := by
    rw [hW2, B2.block _ (by rw [z1]; omega)]; exact heap_alloc_new w _
  have n2 : W2.heap[w.heap.size + 1]? = some (.cells #[.int .i64 (fl : Int)] 3 (0, 0)) := by
    have := heap_alloc_new (w.alloc (.cells #[.pointer (some ⟨c, 0, none⟩)] 76)) (.cells #[.int .i64 (fl : Int)] 3)
    rw [z1] at this
    rw [hW2]; exact this
  have HPU := hid_of (put_any c n fl k R (lackR R off (T.take k)) T V S l lv W2 (h.at B12) (L.at B12) hLS hl hfl hn)
  have hsz : ∀ g, S g → g < w.heap.size := h.sz
  have HGS : Hid (∀ w1 b, PutP W2 c n R (lackR R off (T.take k)) T k V S fl l (.returned (.bool b)) w1 → GrwI w c n R off fl (fun x => x ∈ T ∨ x ∈ l) T l V S w.heap.size (w.heap.size + 1) w1.heap.size k (n - k) (w1.alloc (.cells #[.bool b] 4))) := hid_of (fun w1 b hp => by
    obtain ⟨tv, S', hb, q1, q2⟩ := hp
    simp only [Ending.returned.injEq, Value.bool.injEq] at hb
    subst hb
    have q3 := q1.at (bel_alloc w1 (.cells #[.bool (putF fl l T).2] 4))
    have q4 : Chg S' S' w1 (w1.alloc (.cells #[.bool (putF fl l T).2] 4)) := Chg.ofBelow (bel_alloc w1 _)
    have q5 : Chg S S w W2 := Chg.ofBelow B12
    have m1 : ¬ S w.heap.size := fun h5 => by have := hsz _ h5; omega
    have m2 : ¬ S (w.heap.size + 1) := fun h5 => by have := hsz _ h5; omega
    have m3 : ¬ S' w.heap.size := fun h5 => by
      rcases q2.sub _ h5 with h6 | h6
      · exact m1 h6
      · omega
    have m4 : ¬ S' (w.heap.size + 1) := fun h5 => by
      rcases q2.sub _ h5 with h6 | h6
      · exact m2 h6
      · omega
    have g0 := GI.start (fl := fl) (off := off) (R := R) h.nd h.tn hk hs hl
    obtain ⟨U, eU, _⟩ := putF_pre fl l T
    have eT : (putF fl l T).1.take k = T.take k := by rw [eU, List.take_append_of_le_length hk]
    refine ⟨(putF fl l T).1, k, tv, S', (putF fl l T).2, by rw [eT]; exact q3, (q5.trans q2).trans q4, q4.blk (q2.blk n1 m1) m3, q4.blk (q2.blk n2 m2) m4, heap_alloc_new w1 _, ⟨m3, m4, fun h5 => by have := q1.sz _ h5; omega⟩, g0, ?_, Nat.le_refl _, fun hb => putF_true fl l T hb⟩
    have := q1.len
    have := g0.kle
    omega)
  have hapart : ∀ (ob : Nat), w.heap.size ≤ ob → ∀ (i : Nat) (v : Value), V.ar[i]? = some v → ∀ g, v.ownBlock = some g → g ≠ ob := fun ob hob i v hv g hg => by
    have := ((h.ai i v hv).2 g hg).1; omega
  have HST : Hid (∀ ob g wr, w.heap.size + 1 < ob → GrwI w c n R off fl (fun x => x ∈ T ∨ x ∈ l) T l V S w.heap.size (w.heap.size + 1) ob k g wr → ∃ (okj : Bool) (kj lj : Nat) (ao : Option Addr) (ac : Nat), wr.cell? ⟨ob, 0, none⟩ = some (.bool okj) ∧ wr.cell? ⟨w.heap.size, 0, none⟩ = some (.pointer (some ⟨c, 0, none⟩)) ∧ wr.cell? ⟨c, 6, none⟩ = some (.int .i64 (kj : Int)) ∧ wr.cell? ⟨c, 5, none⟩ = some (.slice ao lj ac) ∧ kj ≤ lj ∧ lj ≤ n ∧
      (okj = true → kj = lj → GrowP w c n R off fl (fun x => x ∈ T ∨ x ∈ l) T l V S k (.returned (.bool true)) (wr.drewN 0) ∧ ∀ q, GrowP w c n R off fl (fun x => x ∈ T ∨ x ∈ l) T l V S k (.returned (.bool true)) (wr.drewN q)) ∧
      (okj = false → ∀ q, GrowP w c n R off fl (fun x => x ∈ T ∨ x ∈ l) T l V S k (.returned (.bool false)) (wr.drewN q)) ∧
      (kj < lj → 0 < g ∧ ∀ q, Calls Try.prog 79 #[.pointer (some ⟨c, 0, none⟩), .func (.func 87) #[] #[.pointer (some ⟨w.heap.size, 0, none⟩), .pointer (some ⟨w.heap.size + 1, 0, none⟩), .pointer (some ⟨ob, 0, none⟩)]] (wr.drewN q) fun e w' => e = .returned (.tuple #[]) ∧ GrwI w c n R off fl (fun x => x ∈ T ∨ x ∈ l) T l V S w.heap.size (w.heap.size + 1) ob k (g - 1) w')) := hid_of (fun ob g wr hob hi => by
    obtain ⟨Tj, kj, tv, Sj, okj, q1, q2, q3, q4, q5, ⟨m1, m2, m3⟩, q6, q7, q9, q8⟩ := hi
    obtain ⟨ao, ac, htv⟩ := q1.tvs
    have htv' : tv = .slice ao Tj.length ac := htv
    subst htv'
    have hd : ∀ q, Below wr.heap.size wr (wr.drewN q) := fun q => bel_drewN (Below.refl _ _) q
    refine ⟨okj, kj, Tj.length, ao, ac, blk_cell (cs := [.bool okj]) q5 rfl, blk_cell (cs := [.pointer (some ⟨c, 0, none⟩)]) q3 rfl, q1.cell (j := 6) rfl, q1.cell (j := 5) rfl, q6.kle, q1.len, fun ho he => ?_, fun ho q => ?_, fun hlt => ⟨by have := q1.len; omega, fun q => ?_⟩⟩
    · have : ∀ q, GrowP w c n R off fl (fun x => x ∈ T ∨ x ∈ l) T l V S k (.returned (.bool true)) (wr.drewN q) := fun q => ⟨Tj, kj, _, Sj, okj, by rw [ho], q1.at (hd q), q2.trans (Chg.ofBelow (hd q)), q6, fun hb => ⟨he, q8 hb⟩, q9⟩
      exact ⟨this 0, this⟩
    · exact ⟨Tj, kj, _, Sj, okj, by rw [ho], q1.at (hd q), q2.trans (Chg.ofBelow (hd q)), q6, (fun hb => by rw [ho] at hb; cases hb), q9⟩
    · obtain ⟨a, ha⟩ : ∃ a, Tj[kj]? = some a := ⟨_, List.getElem?_eq_getElem hlt⟩
      have dr : ∀ {b : Nat} {o : Obj}, wr.heap[b]? = some o → (wr.drewN q).heap[b]? = some o := fun hb => ((hd q).block _ ((Array.getElem?_eq_some_iff.1 hb).1)).trans hb
      refine (cnt_any c n fl kj a w.heap.size (w.heap.size + 1) ob R off _ T Tj _ Sj okj _ (q1.at (hd q)) ha q6 (dr q3) (dr q4) (dr q5) m1 m2 m3 ⟨by omega, by omega⟩ (hapart ob (by omega)) hfl hn hR).mono ?_
      rintro e w' ⟨rfl, T2, tv2, S2, ok2, p1, p2, p3, p4, p5, p6, U3, e3⟩
      have hz := (hd q).size
      have hwr := q2.kept.size
      have g0 := q6.kle
      have hsub : ∀ b, ¬ Sj b → b ≠ ob → b < (wr.drewN q).heap.size → ¬ S2 b := fun b hb he hbz h5 => by
        rcases p2.sub b (.inl h5) with h6 | h6
        · rcases h6 with h6 | h6
          · exact hb h6
          · exact he h6
        · omega
      have lt1 := lt_of_block (dr q3)
      have lt2 := lt_of_block (dr q4)
      refine ⟨rfl, T2, kj + 1, tv2, S2, ok2, p1, chg_un (q2.trans (Chg.ofBelow (hd q))) p2 (by omega), p2.blk (dr q3) (fun h5 => by rcases h5 with h5 | h5; exact m1 h5; omega), p2.blk (dr q4) (fun h5 => by rcases h5 with h5 | h5; exact m2 h5; omega), p3, ⟨hsub _ m1 (by omega) lt1, hsub _ m2 (by omega) lt2, p5⟩, p4, by have := q1.len; omega, by omega, fun hb x hx => ?_⟩
      rw [e3]; exact List.mem_append_left _ (q8 (p6 hb) x hx))
  obtain ⟨b, hb⟩ : ∃ b, b = (putF fl l T).2 := ⟨_, rfl⟩
  have HPB : Hid (Calls Try.prog 70 #[.pointer (some ⟨c, 0, none⟩), lv, .int .i64 fl] W2 fun e w' => e = .returned (.bool b) ∧ PutP W2 c n R (lackR R off (T.take k)) T k V S fl l (.returned (.bool b)) w') := hid_of (HPU.out.mono fun e w' h => by
    have h' := h
    obtain ⟨tv, S', rfl, h5, h6⟩ := h'
    rw [hb]
    exact ⟨rfl, h⟩)
  have HZ2 : Hid (∀ w1, PutP W2 c n R (lackR R off (T.take k)) T k V S fl l (.returned (.bool b)) w1 → w.heap.size + 1 < w1.heap.size) := hid_of (fun w1 hp => by
    obtain ⟨tv, S', _, q1, q2⟩ := hp
    have := q2.kept.size
    omega)
  clear HPU h hs hk L hLS hl hn hR hsz hapart n1 n2 B1 B2 B12 z1 z2 hb
  subst hW2
  go_enter Try.func71, Try.ntmps71
  go_wp2_with (go_at_call 70; ((with_reducible refine (HPB.out).mono ?_); (rintro e w1 ⟨rfl, h5⟩)); have HG0 := hid_of (HGS.out w1 b h5); have HZ1 := hid_of (HZ2.out w1 h5); clear h5)
  go_loopg [12] (n - k) (fun g xv wr => ∃ v : Value, xv = v ∧ Hid (GrwI w c n R off fl (fun x => x ∈ T ∨ x ∈ l) T l V S w.heap.size (w.heap.size + 1) w1.heap.size k g wr))
  case atStart => exact ⟨_, rfl, HG0⟩
  case round =>
    obtain ⟨v, rfl, hi⟩ := hrel
    obtain ⟨okj, kj, lj, ao, ac, e1, e2, e3, e4, e5, e6, e7, e8, e9⟩ := HST.out w1.heap.size gk wr HZ1.out hi.out
    have H7 := hid_of e7
    have H8 := hid_of e8
    have H9 := hid_of e9
    clear e7 e8 e9 hi HG0 HST HGS HZ2
    cases okj
    · have HN := hid_of (H8.out rfl)
      go_wp2
      go_quiet (fail)
      have hO := hid_of (HN.out nq)
      go_wp2
      go_ret
      exact hO.out
    · by_cases hlt : kj < lj
      · have hd : decide (kj < lj) = true := by simp; omega
        have hgk := (H9.out hlt).1
        have HC := hid_of (H9.out hlt).2
        go_wp2
        go_quiet (fail)
        have HC2 := hid_of (HC.out nq)
        go_wp2_with (go_at_call 79; ((with_reducible refine (HC2.out).mono ?_); (rintro e w2 ⟨rfl, h5⟩)); have HH := hid_of h5; clear h5)
        go_roundg (gk - 1)
        case measure => omega
        case rel => exact ⟨_, rfl, HH⟩
      · have hd : decide (kj < lj) = false := by simp; omega
        have HN := hid_of (H7.out rfl (by omega)).2
        go_wp2
        go_quiet (fail)
        have hO := hid_of (HN.out nq)
        go_wp2
        go_ret
        exact hO.out
end Go.Proofs.Ytedohggbpmcehaa
