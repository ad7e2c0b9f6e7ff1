/- All: the mathematics around its walks. -/
import Derived.Test.YtjponegeidiheaaClsAll2
namespace Go.Proofs.Ytjponegeidiheaa
open Go.RowKit

theorem subs_len : ∀ (k i : Nat), (subs k i).length = 2 ^ k
  | 0, _ => rfl
  | k + 1, i => by
    rw [subs, List.length_append, List.length_map, subs_len k, Nat.pow_succ]; omega
theorem allS_len (R : List Hrl) (n : Nat) : (allS R n).length ≤ 2 ^ n := by
  rw [← subs_len n 0]; exact List.length_filter_le _ _
theorem prc_all : ∀ (L d : List (List Nat)), prc (fun _ => true) d L = (d ++ L, true)
  | [], d => by simp [prc]
  | x :: L, d => by simp [prc, prc_all L]
theorem prc_fit (lim : Int) : ∀ (L d : List (List Nat)), ((d.length + L.length : Nat) : Int) ≤ lim → prc (okL lim) d L = (d ++ L, true)
  | [], d, _ => by simp [prc]
  | x :: L, d, h => by
    have h1 : okL lim (d ++ [x]) = true := by unfold okL; rw [List.length_append, List.length_singleton]; refine decide_eq_true ?_; rw [List.length_cons] at h; omega
    rw [prc, if_pos h1, prc_fit lim L (d ++ [x]) (by rw [List.length_append, List.length_singleton]; rw [List.length_cons] at h; omega), List.append_assoc]; rfl
theorem prc_over (lim : Int) : ∀ (L d : List (List Nat)), (d.length : Int) ≤ lim → lim < ((d.length + L.length : Nat) : Int) → (prc (okL lim) d L).2 = false
  | [], d, h1, h2 => by simp at h2; omega
  | x :: L, d, h1, h2 => by
    rw [prc]
    split
    · rename_i h3
      unfold okL at h3
      have h4 := of_decide_eq_true h3
      exact prc_over lim L (d ++ [x]) h4 (by rw [List.length_append, List.length_singleton]; rw [List.length_cons] at h2; omega)
    · rfl
theorem ix_inj {U s : List Str} {L L' : List Nat} (hU : SS U) (h : Ix U s L) (h' : Ix U s L') : L = L' := by
  apply List.ext_getElem?
  intro k
  by_cases hk : k < s.length
  · obtain ⟨x, hx⟩ : ∃ x, s[k]? = some x := ⟨_, List.getElem?_eq_getElem hk⟩
    obtain ⟨i, h1, h2⟩ := h.back hx
    obtain ⟨j, h3, h4⟩ := h'.back hx
    rw [h1, h3, ss_inj hU h2 h4]
  · rw [List.getElem?_eq_none (by have := h.len; omega), List.getElem?_eq_none (by have := h'.len; omega)]
theorem cmp_inj {U : List Str} {rs : List Gr} {R R' : List Hrl} (hU : SS U) (h : Cmp U rs R) (h' : Cmp U rs R') : R = R' := by
  apply List.ext_getElem?
  intro k
  by_cases hk : k < rs.length
  · obtain ⟨r, hr⟩ : ∃ r, rs[k]? = some r := ⟨_, List.getElem?_eq_getElem hk⟩
    obtain ⟨q, hq⟩ : ∃ q, R[k]? = some q := ⟨_, List.getElem?_eq_getElem (by have := h.len; omega)⟩
    obtain ⟨q', hq'⟩ : ∃ q', R'[k]? = some q' := ⟨_, List.getElem?_eq_getElem (by have := h'.len; omega)⟩
    obtain ⟨a1, a2⟩ := h.at_ k r q hr hq
    obtain ⟨b1, b2⟩ := h'.at_ k r q' hr hq'
    rw [hq, hq']
    have e1 := ix_inj hU a1 b1
    have e2 := ix_inj hU a2 b2
    rw [show q = (q.1, q.2) from rfl, show q' = (q'.1, q'.2) from rfl, e1, e2]
  · rw [List.getElem?_eq_none (by have := h.len; omega), List.getElem?_eq_none (by have := h'.len; omega)]
/-- The rules in numbers. -/
def cmpF (U : List Str) (rs : List Gr) : List Hrl := rs.map fun r => (r.1.map fun x => U.idxOf x, [U.idxOf r.2])
theorem ix_mk {U s : List Str} (h : ∀ x ∈ s, x ∈ U) : Ix U s (s.map fun x => U.idxOf x) := by
  unfold Ix
  rw [List.map_map]
  refine List.map_congr_left fun x hx => ?_
  have h1 := List.idxOf_lt_length_iff.2 (h x hx)
  show U[U.idxOf x]? = some x
  rw [List.getElem?_eq_getElem h1, List.getElem_idxOf]
theorem cmp_mk {U : List Str} {rs : List Gr} (h : chkE U rs = 0) : Cmp U rs (cmpF U rs) := by
  obtain ⟨_, h2⟩ := chk_ok h
  refine ⟨by simp [cmpF], fun i r q hr hq => ?_⟩
  unfold cmpF at hq
  rw [List.getElem?_map, hr] at hq
  simp only [Option.map_some, Option.some.injEq] at hq
  subst hq
  obtain ⟨_, k2, k3⟩ := h2 r (List.mem_of_getElem? hr)
  exact ⟨ix_mk k2, ix_mk fun x hx => by rw [List.mem_singleton.1 hx]; exact k3⟩
/-- All closed sets, in names. -/
def allF (U : List Str) (rs : List Gr) : List (List Str) := (allS (cmpF U rs) U.length).map (nmF U)
/-- The slice reads as sets, all in blocks of the call's own. -/
def SetsR (B : Nat) (w : World) (v : Value) (ls : List (List Str)) : Prop := ∃ vals, vals.length = ls.length ∧ w.ownsRow B 22 1 v ls.length vals ∧ ∀ (i : Nat) (u : Value) (l : List Str), vals[i]? = some u → ls[i]? = some l → w.ownsRow B 9 1 u l.length (ss l)
end Go.Proofs.Ytjponegeidiheaa
