/- All subsets of a universe, in names. Plain mathematics. -/
import Derived.Test.YtclefigcendpgaaClsAllN
namespace Go.Proofs.Ytclefigcendpgaa
open Go.RowKit

/-- The subsets of the names from the i-th on, in lectic order. -/
def sbF (U : List Str) (i : Nat) : List (List Str) := (subs (U.length - i) i).map (nmF U)
theorem sbF_end (U : List Str) : sbF U U.length = [[]] := by
  unfold sbF; rw [Nat.sub_self]; rfl
theorem sbF_next {U : List Str} {i : Nat} {x : Str} (h : U[i]? = some x) : sbF U i = sbF U (i + 1) ++ (sbF U (i + 1)).map (x :: ·) := by
  have hi := (List.getElem?_eq_some_iff.1 h).1
  unfold sbF
  rw [show U.length - i = (U.length - (i + 1)) + 1 by omega, subs, List.map_append, List.map_map, List.map_map]
  congr 1
  refine List.map_congr_left fun s _ => ?_
  simp [nmF, List.getD, h]
theorem allF_eq {U : List Str} {rs : List Gr} (h0 : chkE U rs = 0) : allF U rs = (sbF U 0).filter (clsB rs) := by
  obtain ⟨hU, _⟩ := chk_ok h0
  have hc := cmp_mk h0
  unfold allF allS sbF
  rw [List.filter_map, Nat.sub_zero]
  congr 1
  refine List.filter_congr fun s hs => ?_
  have hb : ∀ i ∈ s, i < U.length := fun i hi => by have := subs_ge _ _ _ hs i hi; omega
  rw [Bool.eq_iff_iff, cld_nm hU hc hb, ← clsB_iff]
  rfl
theorem sbF_len (U : List Str) (i : Nat) : (sbF U i).length = 2 ^ (U.length - i) := by
  unfold sbF; rw [List.length_map, subs_len]
theorem sbF_each {U : List Str} {i : Nat} {l : List Str} (h : l ∈ sbF U i) : l.length ≤ U.length := by
  unfold sbF at h
  obtain ⟨s, hs, rfl⟩ := List.mem_map.1 h
  rw [nmF_length]
  have h1 := subs_asc _ _ _ hs
  have h2 := sub_len s (List.range U.length) (h1.imp (fun h => Nat.ne_of_lt h)) (fun x hx => by
    have := subs_ge _ _ _ hs x hx
    have h3 : i ≤ U.length := by omega
    exact List.mem_range.2 (by omega))
  rwa [List.length_range] at h2
end Go.Proofs.Ytclefigcendpgaa
