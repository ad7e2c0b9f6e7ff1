/- short; equality of strings. -/
import Derived.Test.YtogfgcihhnblkaaDoorKeyAwake
import Derived.Test.YtogfgcihhnblkaaDoorShaIsRow
import Derived.Deep.RegionWith
namespace Go.Proofs.YtogfgcihhnblkaaDoor
open Go.RowKit

theorem short_any (x y : Option Addr) (a ac b bc : Nat) (r : Bool) (w : World) (hr : r = (decide (a ≤ 2000) && decide (b ≤ 2000))) :
    Calls Tryd.prog 11 #[.slice x a ac, .slice y b bc] w fun e w' => e = .returned (.bool r) ∧ w = w' := by
  subst hr
  by_cases ha : a ≤ 2000
  · have d1 : decide ((a : Int) ≤ 2000) = true := by simp; omega
    by_cases hb : b ≤ 2000
    · have d2 : decide ((b : Int) ≤ 2000) = true := by simp; omega
      go_enter Tryd.func11, Tryd.ntmps11
      go_wp2
      go_ret
      exact ⟨by simp [ha, hb], rfl⟩
    · have d2 : decide ((b : Int) ≤ 2000) = false := by simp; omega
      go_enter Tryd.func11, Tryd.ntmps11
      go_wp2
      go_ret
      exact ⟨by simp [hb], rfl⟩
  · have d1 : decide ((a : Int) ≤ 2000) = false := by simp; omega
    go_enter Tryd.func11, Tryd.ntmps11
    go_wp2
    go_ret
    exact ⟨by simp [ha], rfl⟩
theorem strs_beq {a b : List Int} (ha : ∀ y ∈ a, 0 ≤ y ∧ y ≤ 255) (hb : ∀ y ∈ b, 0 ≤ y ∧ y ≤ 255) : ((strOfNums a).toList == (strOfNums b).toList) = decide (a = b) := by
  rw [ByteArray.toList_eq, ByteArray.toList_eq, Bool.eq_iff_iff, beq_iff_eq, decide_eq_true_iff, ← strs_eq ha hb]
  constructor
  · intro h
    cases hx : strOfNums a with
    | mk da =>
      cases hy : strOfNums b with
      | mk db =>
        rw [hx, hy] at h
        simp at h
        rw [h]
  · intro h; rw [h]
theorem wf_r64 {n : Int} (h : (Lit.int .i64 n).wf = true) : R64 n := by
  have := i64_wf h
  exact this

end Go.Proofs.YtogfgcihhnblkaaDoor
