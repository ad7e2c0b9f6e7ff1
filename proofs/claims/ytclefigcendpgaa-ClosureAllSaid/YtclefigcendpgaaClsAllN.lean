/- All, in names: which sets it lists. Plain mathematics. -/
import Derived.Test.YtclefigcendpgaaClsAllM
import Derived.Test.YtclefigcendpgaaClsCld
namespace Go.Proofs.Ytclefigcendpgaa
open Go.RowKit

theorem subs_asc : ∀ (k i : Nat) (s : List Nat), s ∈ subs k i → s.Pairwise (· < ·)
  | 0, _, s, h => by simp [subs] at h; subst h; exact List.Pairwise.nil
  | k + 1, i, s, h => by
    rw [subs, List.mem_append, List.mem_map] at h
    rcases h with h | ⟨t, ht, rfl⟩
    · exact subs_asc k (i + 1) s h
    · exact List.pairwise_cons.2 ⟨fun y hy => by have := subs_ge k (i + 1) t ht y hy; omega, subs_asc k (i + 1) t ht⟩
theorem subs_mem : ∀ (k i : Nat) (s : List Nat), s.Pairwise (· < ·) → (∀ x ∈ s, i ≤ x ∧ x < i + k) → s ∈ subs k i
  | 0, i, s, _, h => by
    cases s with
    | nil => simp [subs]
    | cons a t => have := h a List.mem_cons_self; omega
  | k + 1, i, s, hp, h => by
    rw [subs, List.mem_append, List.mem_map]
    cases s with
    | nil => exact .inl (subs_mem k (i + 1) [] List.Pairwise.nil (by simp))
    | cons a t =>
      obtain ⟨h1, h2⟩ := List.pairwise_cons.1 hp
      have ha := h a List.mem_cons_self
      by_cases e : a = i
      · subst e
        exact .inr ⟨t, subs_mem k (a + 1) t h2 (fun x hx => by have := h1 x hx; have := h x (List.mem_cons_of_mem _ hx); omega), rfl⟩
      · refine .inl (subs_mem k (i + 1) (a :: t) hp fun x hx => ?_)
        have := h x hx
        rcases List.mem_cons.1 hx with rfl | hx
        · omega
        · have := h1 x hx; omega
theorem mem_nm {U : List Str} {s : List Nat} (hs : ∀ i ∈ s, i < U.length) {x : Str} : x ∈ nmF U s ↔ ∃ i, i ∈ s ∧ U[i]? = some x := by
  unfold nmF
  rw [List.mem_map]
  constructor
  · rintro ⟨i, hi, rfl⟩
    refine ⟨i, hi, ?_⟩
    rw [List.getElem?_eq_getElem (hs i hi)]
    simp [List.getD, hs i hi]
  · rintro ⟨i, hi, h⟩
    exact ⟨i, hi, by simp [List.getD, h]⟩
/-- Closed in numbers, closed in names. -/
theorem cld_nm {U : List Str} {rs : List Gr} {R : List Hrl} {s : List Nat} (hU : SS U) (hc : Cmp U rs R) (hs : ∀ i ∈ s, i < U.length) : cldB R s = true ↔ CldS rs (fun x => x ∈ nmF U s) := by
  rw [cldB_iff]
  constructor
  · intro h r hr hp
    obtain ⟨i, hi⟩ := List.getElem?_of_mem hr
    obtain ⟨q, hq⟩ : ∃ q, R[i]? = some q := ⟨_, List.getElem?_eq_getElem (by have := hc.len; have := (List.getElem?_eq_some_iff.1 hi).1; omega)⟩
    obtain ⟨a1, a2⟩ := hc.at_ i r q hi hq
    obtain ⟨j, j1, j2⟩ := a2.mem_back (x := r.2) (by simp)
    refine (mem_nm hs).2 ⟨j, h q ⟨i, hq, rfl⟩ (fun y hy => ?_) j j1, j2⟩
    obtain ⟨x, x1, x2⟩ := a1.mem hy
    obtain ⟨y', y1, y2⟩ := (mem_nm hs).1 (hp x x1)
    rw [ss_inj hU x2 y2]; exact y1
  · rintro h q ⟨i, hq, _⟩ hp y hy
    obtain ⟨r, hr⟩ : ∃ r, rs[i]? = some r := ⟨_, List.getElem?_eq_getElem (by have := hc.len; have := (List.getElem?_eq_some_iff.1 hq).1; omega)⟩
    obtain ⟨a1, a2⟩ := hc.at_ i r q hr hq
    obtain ⟨x, x1, x2⟩ := a2.mem hy
    rw [List.mem_singleton.1 x1] at x2
    have h1 : r.2 ∈ nmF U s := h r (List.mem_of_getElem? hr) fun z hz => by
      obtain ⟨j, j1, j2⟩ := a1.mem_back hz
      exact (mem_nm hs).2 ⟨j, hp j j1, j2⟩
    obtain ⟨j, j1, j2⟩ := (mem_nm hs).1 h1
    rw [ss_inj hU x2 j2]; exact j1
theorem mem_allF {U : List Str} {rs : List Gr} (h0 : chkE U rs = 0) {l : List Str} : l ∈ allF U rs ↔ SS l ∧ (∀ x ∈ l, x ∈ U) ∧ CldS rs (fun x => x ∈ l) := by
  obtain ⟨hU, _⟩ := chk_ok h0
  have hc := cmp_mk h0
  unfold allF allS
  rw [List.mem_map]
  constructor
  · rintro ⟨s, hs, rfl⟩
    obtain ⟨h1, h2⟩ := List.mem_filter.1 hs
    have hb : ∀ i ∈ s, i < U.length := fun i hi => by have := subs_ge _ _ _ h1 i hi; omega
    refine ⟨?_, fun x hx => ?_, (cld_nm hU hc hb).1 h2⟩
    · unfold SS nmF
      rw [List.pairwise_map]
      refine List.Pairwise.imp_of_mem (fun {a b} ha hb' hab => ?_) (subs_asc _ _ _ h1)
      exact ss_get hU hab (hb b hb')
    · obtain ⟨i, _, h3⟩ := (mem_nm hb).1 hx
      exact List.mem_of_getElem? h3
  · rintro ⟨h1, h2, h3⟩
    have hm : ∀ i ∈ mems (l.map fun x => U.idxOf x) U.length, i < U.length := fun i hi => (mem_mems.1 hi).1
    have he : nmF U (mems (l.map fun x => U.idxOf x) U.length) = l := ss_ext (nmF_ss hU _) h1 fun x => by
      rw [mem_nmF]
      constructor
      · rintro ⟨i, hi, hx⟩
        obtain ⟨y, hy, rfl⟩ := List.mem_map.1 hi
        have h5 := List.idxOf_lt_length_iff.2 (h2 y hy)
        rw [List.getElem?_eq_getElem h5, List.getElem_idxOf] at hx
        cases hx; exact hy
      · intro hx
        have h5 := List.idxOf_lt_length_iff.2 (h2 x hx)
        exact ⟨U.idxOf x, List.mem_map.2 ⟨x, hx, rfl⟩, by rw [List.getElem?_eq_getElem h5, List.getElem_idxOf]⟩
    refine ⟨mems (l.map fun x => U.idxOf x) U.length, List.mem_filter.2 ⟨subs_mem _ _ _ ?_ fun x hx => by have := hm x hx; omega, (cld_nm hU hc hm).2 (by rw [he]; exact h3)⟩, he⟩
    exact List.Pairwise.sublist List.filter_sublist List.pairwise_lt_range
theorem allF_len (U : List Str) (rs : List Gr) : (allF U rs).length ≤ 2 ^ U.length := by
  unfold allF; rw [List.length_map]; exact allS_len _ _
end Go.Proofs.Ytclefigcendpgaa
