/- The words of SHA-256: the small functions on 32 bits. No condition but bounds. -/
import Derived.Test.YtogfgcihhnblkaaDoorShaMath
import Derived.Test.YtogfgcihhnblkaaDoorProg
import Derived.WalkSpells
import Derived.WalkLawsBesides
import Derived.IntWalk
import Derived.Outline
namespace Go.Proofs.YtogfgcihhnblkaaDoor
open Go.RowKit

theorem rotate_any (x : Int) (n : Nat) (w : World) (hx : 0 ≤ x) (hx2 : x ≤ 4294967295) (hn : 1 ≤ n) (hn2 : n ≤ 31) :
    Calls Tryd.prog 57 #[.int .u32 x, .int .u64 n] w fun e w' => e = .returned (.int .u32 (rot x n)) ∧ w = w' := by
  go_enter Tryd.func57, Tryd.ntmps57
  go_wp2
  go_ret
  exact ⟨rfl, rfl⟩
theorem choose_any (x y z : Int) (w : World) (hx : W32 x) (hy : W32 y) (hz : W32 z) :
    Calls Tryd.prog 52 #[.int .u32 x, .int .u32 y, .int .u32 z] w fun e w' => e = .returned (.int .u32 (cho x y z)) ∧ w = w' := by
  obtain ⟨x0, x1⟩ := hx
  obtain ⟨y0, y1⟩ := hy
  obtain ⟨z0, z1⟩ := hz
  have hs : IntKind.u32.signed = false := rfl
  go_enter Tryd.func52, Tryd.ntmps52
  go_wp2
  go_ret
  exact ⟨rfl, rfl⟩
theorem majority_any (x y z : Int) (w : World) (hx : W32 x) (hy : W32 y) (hz : W32 z) :
    Calls Tryd.prog 54 #[.int .u32 x, .int .u32 y, .int .u32 z] w fun e w' => e = .returned (.int .u32 (maj x y z)) ∧ w = w' := by
  obtain ⟨x0, x1⟩ := hx
  obtain ⟨y0, y1⟩ := hy
  obtain ⟨z0, z1⟩ := hz
  go_enter Tryd.func54, Tryd.ntmps54
  go_wp2
  go_ret
  exact ⟨rfl, rfl⟩
theorem rot_at (x : Int) (m : Int) (n : Nat) (w : World) (hx : W32 x) (hm : m = n) (hn : 1 ≤ n) (hn2 : n ≤ 31) :
    Calls Tryd.prog 57 #[.int .u32 x, .int .u64 m] w fun e w' => e = .returned (.int .u32 (rot x n)) ∧ w = w' := by
  subst hm; exact rotate_any x n w hx.1 hx.2 hn hn2
theorem upper0_any (x : Int) (w : World) (hx : W32 x) :
    Calls Tryd.prog 53 #[.int .u32 x] w fun e w' => e = .returned (.int .u32 (up0 x)) ∧ w = w' := by
  go_enter Tryd.func53, Tryd.ntmps53
  go_wp2_with (first
    | (go_at_call 57; ((with_reducible refine (rot_at x 2 2 w hx rfl (by omega) (by omega)).mono ?_); rintro e w' ⟨rfl, rfl⟩))
    | (go_at_call 57; ((with_reducible refine (rot_at x 13 13 w hx rfl (by omega) (by omega)).mono ?_); rintro e w' ⟨rfl, rfl⟩))
    | (go_at_call 57; ((with_reducible refine (rot_at x 22 22 w hx rfl (by omega) (by omega)).mono ?_); rintro e w' ⟨rfl, rfl⟩)))
  go_ret
  exact ⟨rfl, rfl⟩
theorem upper1_any (x : Int) (w : World) (hx : W32 x) :
    Calls Tryd.prog 51 #[.int .u32 x] w fun e w' => e = .returned (.int .u32 (up1 x)) ∧ w = w' := by
  go_enter Tryd.func51, Tryd.ntmps51
  go_wp2_with (first
    | (go_at_call 57; ((with_reducible refine (rot_at x 6 6 w hx rfl (by omega) (by omega)).mono ?_); rintro e w' ⟨rfl, rfl⟩))
    | (go_at_call 57; ((with_reducible refine (rot_at x 11 11 w hx rfl (by omega) (by omega)).mono ?_); rintro e w' ⟨rfl, rfl⟩))
    | (go_at_call 57; ((with_reducible refine (rot_at x 25 25 w hx rfl (by omega) (by omega)).mono ?_); rintro e w' ⟨rfl, rfl⟩)))
  go_ret
  exact ⟨rfl, rfl⟩
theorem lower0_any (x : Int) (w : World) (hx : W32 x) :
    Calls Tryd.prog 56 #[.int .u32 x] w fun e w' => e = .returned (.int .u32 (lo0 x)) ∧ w = w' := by
  have hx1 := hx.1
  have hx2 := hx.2
  go_enter Tryd.func56, Tryd.ntmps56
  go_wp2_with (first
    | (go_at_call 57; ((with_reducible refine (rot_at x 7 7 w hx rfl (by omega) (by omega)).mono ?_); rintro e w' ⟨rfl, rfl⟩))
    | (go_at_call 57; ((with_reducible refine (rot_at x 18 18 w hx rfl (by omega) (by omega)).mono ?_); rintro e w' ⟨rfl, rfl⟩)))
  go_ret
  exact ⟨rfl, rfl⟩
theorem lower1_any (x : Int) (w : World) (hx : W32 x) :
    Calls Tryd.prog 55 #[.int .u32 x] w fun e w' => e = .returned (.int .u32 (lo1 x)) ∧ w = w' := by
  have hx1 := hx.1
  have hx2 := hx.2
  go_enter Tryd.func55, Tryd.ntmps55
  go_wp2_with (first
    | (go_at_call 57; ((with_reducible refine (rot_at x 17 17 w hx rfl (by omega) (by omega)).mono ?_); rintro e w' ⟨rfl, rfl⟩))
    | (go_at_call 57; ((with_reducible refine (rot_at x 19 19 w hx rfl (by omega) (by omega)).mono ?_); rintro e w' ⟨rfl, rfl⟩)))
  go_ret
  exact ⟨rfl, rfl⟩
end Go.Proofs.YtogfgcihhnblkaaDoor
