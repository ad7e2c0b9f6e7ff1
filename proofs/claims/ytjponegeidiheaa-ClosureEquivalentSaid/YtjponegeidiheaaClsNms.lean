/- Rules over names: derivations, and what they are in numbers. Plain mathematics. -/
import Derived.Test.YtjponegeidiheaaClsNew
import Derived.Test.YtjponegeidiheaaClsMem
namespace Go.Proofs.Ytjponegeidiheaa
open Go.RowKit

inductive DerS (rs : List Gr) (S : Str → Prop) : Str → Prop
  | base {x : Str} : S x → DerS rs S x
  | rule {r : Gr} : r ∈ rs → (∀ y, y ∈ r.1 → DerS rs S y) → DerS rs S r.2
def CldS (rs : List Gr) (S : Str → Prop) : Prop := ∀ r ∈ rs, (∀ y, y ∈ r.1 → S y) → S r.2
theorem derS_least {rs : List Gr} {S C : Str → Prop} (hC : CldS rs C) (hS : ∀ x, S x → C x) {x : Str} (h : DerS rs S x) : C x := by
  induction h with
  | base h => exact hS _ h
  | rule hr _ ih => exact hC _ hr ih
theorem derS_closed (rs : List Gr) (S : Str → Prop) : CldS rs (DerS rs S) := fun _ hr hp => .rule hr hp
theorem derS_mono {rs : List Gr} {S S' : Str → Prop} (h : ∀ x, S x → DerS rs S' x) {x : Str} (hx : DerS rs S x) : DerS rs S' x := derS_least (derS_closed rs S') h hx
def setE (U s : List Str) : Nat := if ¬ SS s then 1 else if ¬ (∀ x ∈ s, x ∈ U) then 3 else 0
/-- The error of universe, rules and set. -/
def cwsE (U : List Str) (rs : List Gr) (s : List Str) : Nat := if chkE U rs = 0 then setE U s else chkE U rs
theorem setE_zero {U s : List Str} : setE U s = 0 ↔ SS s ∧ ∀ x, x ∈ s → x ∈ U := by
  unfold setE
  by_cases h1 : SS s
  · by_cases h2 : ∀ x ∈ s, x ∈ U
    · rw [if_neg (by simpa using h1), if_neg (by simpa using h2)]; exact ⟨fun _ => ⟨h1, h2⟩, fun _ => rfl⟩
    · rw [if_neg (by simpa using h1), if_pos h2]; exact ⟨(fun h => by cases h), fun h => absurd h.2 h2⟩
  · rw [if_pos h1]; exact ⟨(fun h => by cases h), fun h => absurd h.1 h1⟩
theorem setE_le (U s : List Str) : setE U s ≤ 3 := by
  unfold setE
  split
  · omega
  · split <;> omega
theorem ss_inj {U : List Str} (h : SS U) {i j : Nat} {x : Str} (hi : U[i]? = some x) (hj : U[j]? = some x) : i = j := by
  obtain ⟨a1, a2⟩ := List.getElem?_eq_some_iff.1 hi
  obtain ⟨b1, b2⟩ := List.getElem?_eq_some_iff.1 hj
  rcases Nat.lt_trichotomy i j with h5 | h5 | h5
  · have := (List.pairwise_iff_getElem.1 h) i j a1 b1 h5
    rw [a2, b2] at this; exact absurd this (str_irr x)
  · exact h5
  · have := (List.pairwise_iff_getElem.1 h) j i b1 a1 h5
    rw [a2, b2] at this; exact absurd this (str_irr x)
theorem chk_ok {U : List Str} {rs : List Gr} (h : chkE U rs = 0) : SS U ∧ ∀ r ∈ rs, SS r.1 ∧ (∀ x, x ∈ r.1 → x ∈ U) ∧ r.2 ∈ U := by
  unfold chkE at h
  split at h
  · cases h
  · split at h
    · cases h
    · rename_i h1 h2
      refine ⟨Classical.not_not.1 h2, ?_⟩
      have : ∀ {rs : List Gr}, rusE U rs = 0 → ∀ r ∈ rs, ruE U r = 0 := by
        intro rs
        induction rs with
        | nil => intro _ r hr; simp at hr
        | cons q rs ih =>
          intro h r hr
          rw [rusE] at h
          split at h
          · rcases List.mem_cons.1 hr with rfl | hr
            · assumption
            · exact ih h r hr
          · rename_i h5; exact absurd h h5
      intro r hr
      have h0 := this h r hr
      rcases ruE_cases U r with ⟨e, _⟩ | ⟨e, _⟩ | ⟨e, _⟩ | ⟨_, e1, e2, e3⟩
      · omega
      · omega
      · omega
      · exact ⟨e1, e2, e3⟩
/-- From numbers to names. -/
theorem der_toS {U : List Str} {rs : List Gr} {R : List Hrl} {s : List Str} {L : List Nat} (hc : Cmp U rs R) (hL : Ix U s L) {i : Nat} (h : Der (On R off0) (fun x => x ∈ L) i) : ∀ x, U[i]? = some x → DerS rs (fun x => x ∈ s) x := by
  induction h with
  | base h =>
    intro x hx
    obtain ⟨y, h1, h2⟩ := hL.mem h
    rw [hx] at h2; cases h2
    exact .base h1
  | @rule r i hr hp hx ih =>
    intro x hxU
    obtain ⟨k, hk, _⟩ := hr
    obtain ⟨g, hg⟩ : ∃ g, rs[k]? = some g := ⟨_, List.getElem?_eq_getElem (by have := (List.getElem?_eq_some_iff.1 hk).1; have := hc.len; omega)⟩
    obtain ⟨i1, i2⟩ := hc.at_ k g r hg hk
    obtain ⟨y, h1, h2⟩ := i2.mem hx
    rw [hxU] at h2; cases h2
    rw [List.mem_singleton.1 h1]
    refine .rule (List.mem_of_getElem? hg) fun y hy => ?_
    obtain ⟨j, hj, hjU⟩ := i1.mem_back hy
    exact ih j hj y hjU
/-- From names to numbers. -/
theorem derS_to {U : List Str} {rs : List Gr} {R : List Hrl} {s : List Str} {L : List Nat} (hU : SS U) (hc : Cmp U rs R) (hL : Ix U s L) (hok : ∀ r ∈ rs, (∀ x, x ∈ r.1 → x ∈ U) ∧ r.2 ∈ U) {x : Str} (h : DerS rs (fun x => x ∈ s) x) : ∃ i, U[i]? = some x ∧ Der (On R off0) (fun x => x ∈ L) i := by
  induction h with
  | base h =>
    obtain ⟨i, h1, h2⟩ := hL.mem_back h
    exact ⟨i, h2, .base h1⟩
  | @rule g hg hp ih =>
    obtain ⟨k, hk⟩ := List.getElem?_of_mem hg
    obtain ⟨r, hr⟩ : ∃ r, R[k]? = some r := ⟨_, List.getElem?_eq_getElem (by have := (List.getElem?_eq_some_iff.1 hk).1; have := hc.len; omega)⟩
    obtain ⟨i1, i2⟩ := hc.at_ k g r hk hr
    obtain ⟨i, h1, h2⟩ := i2.mem_back (List.mem_singleton.2 rfl)
    refine ⟨i, h2, .rule (r := r) ⟨k, hr, rfl⟩ (fun j hj => ?_) h1⟩
    obtain ⟨y, hy, hyU⟩ := i1.mem hj
    obtain ⟨j', hj', hd⟩ := ih y hy
    rw [ss_inj hU hyU hj']; exact hd
theorem cmp_ok {U : List Str} {rs : List Gr} {R : List Hrl} (hU : SS U) (hc : Cmp U rs R) (hok : ∀ r ∈ rs, SS r.1) : RulesOk U.length R := fun i q hq => by
  obtain ⟨g, hg⟩ : ∃ g, rs[i]? = some g := ⟨_, List.getElem?_eq_getElem (by have := (List.getElem?_eq_some_iff.1 hq).1; have := hc.len; omega)⟩
  obtain ⟨i1, i2⟩ := hc.at_ i g q hg hq
  refine ⟨?_, fun x hx => i1.lt hx, fun x hx => i2.lt hx⟩
  rw [List.nodup_iff_pairwise_ne, List.pairwise_iff_getElem]
  intro a b ha hb hab e
  obtain ⟨x, h1, h2⟩ := i1.get (List.getElem?_eq_getElem ha)
  obtain ⟨y, h3, h4⟩ := i1.get (List.getElem?_eq_getElem hb)
  rw [e] at h2
  rw [h2] at h4; cases h4
  have := ss_inj (hok g (List.mem_of_getElem? hg)) h1 h3
  omega
theorem ix_nodup {U s : List Str} {L : List Nat} (hs : SS s) (h : Ix U s L) : L.Nodup := by
  rw [List.nodup_iff_pairwise_ne, List.pairwise_iff_getElem]
  intro a b ha hb hab e
  obtain ⟨x, h1, h2⟩ := h.get (List.getElem?_eq_getElem ha)
  obtain ⟨y, h3, h4⟩ := h.get (List.getElem?_eq_getElem hb)
  rw [e] at h2
  rw [h2] at h4; cases h4
  have := ss_inj hs h1 h3
  omega
/-- The names of ascending numbers ascend. -/
theorem nmF_ss {U : List Str} (hU : SS U) (T : List Nat) : SS (nmF U (mems T U.length)) := by
  unfold SS nmF
  rw [List.pairwise_map]
  have h1 : (mems T U.length).Pairwise (· < ·) := List.Pairwise.sublist List.filter_sublist List.pairwise_lt_range
  refine List.Pairwise.imp_of_mem (fun {a b} ha hb hab => ?_) h1
  have ha2 := (mem_mems.1 ha).1
  have hb2 := (mem_mems.1 hb).1
  have := (List.pairwise_iff_getElem.1 hU) a b ha2 hb2 hab
  simpa [List.getD, ha2, hb2] using this
theorem mem_nmF {U : List Str} {T : List Nat} {x : Str} : x ∈ nmF U (mems T U.length) ↔ ∃ i, i ∈ T ∧ U[i]? = some x := by
  unfold nmF
  rw [List.mem_map]
  constructor
  · rintro ⟨i, hi, rfl⟩
    obtain ⟨h1, h2⟩ := mem_mems.1 hi
    exact ⟨i, h2, by simp [List.getD, h1]⟩
  · rintro ⟨i, hi, hx⟩
    have h1 := (List.getElem?_eq_some_iff.1 hx).1
    exact ⟨i, mem_mems.2 ⟨h1, hi⟩, by simp [List.getD, hx]⟩
end Go.Proofs.Ytjponegeidiheaa
