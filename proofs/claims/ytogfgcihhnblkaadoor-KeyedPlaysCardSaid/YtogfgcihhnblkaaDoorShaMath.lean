/- The mathematics of SHA-256 as the program computes it: words as integers from 0 to 2^32 - 1. No condition. -/
import Derived.WalkKit
import Derived.Laws.BitsAllLaws
namespace Go.Proofs.YtogfgcihhnblkaaDoor
open Go.RowKit

def W32 (x : Int) : Prop := 0 ≤ x ∧ x ≤ 4294967295
theorem bits_w32 (op : BinOp) (x y : Int) : W32 (bits op .u32 x y) := by
  unfold bits
  rw [IntKind.wrap_u32]
  unfold W32
  omega

def rot (x : Int) (n : Nat) : Int := bits .or .u32 (x / 2 ^ n) (x * 2 ^ (32 - n) % 4294967296)
def up0 (x : Int) : Int := bits .xor .u32 (bits .xor .u32 (rot x 2) (rot x 13)) (rot x 22)
def up1 (x : Int) : Int := bits .xor .u32 (bits .xor .u32 (rot x 6) (rot x 11)) (rot x 25)
def lo0 (x : Int) : Int := bits .xor .u32 (bits .xor .u32 (rot x 7) (rot x 18)) (x / 8)
def lo1 (x : Int) : Int := bits .xor .u32 (bits .xor .u32 (rot x 17) (rot x 19)) (x / 1024)
def cho (x y z : Int) : Int := bits .xor .u32 (bits .and .u32 x y) (bits .and .u32 (bits .xor .u32 IntKind.u32.max x) z)
def maj (x y z : Int) : Int := bits .xor .u32 (bits .xor .u32 (bits .and .u32 x y) (bits .and .u32 x z)) (bits .and .u32 y z)
def ad (x y : Int) : Int := (x + y) % 4294967296

theorem rot_w (x : Int) (n : Nat) : W32 (rot x n) := bits_w32 _ _ _
theorem up0_w (x : Int) : W32 (up0 x) := bits_w32 _ _ _
theorem up1_w (x : Int) : W32 (up1 x) := bits_w32 _ _ _
theorem lo0_w (x : Int) : W32 (lo0 x) := bits_w32 _ _ _
theorem lo1_w (x : Int) : W32 (lo1 x) := bits_w32 _ _ _
theorem cho_w (x y z : Int) : W32 (cho x y z) := bits_w32 _ _ _
theorem maj_w (x y z : Int) : W32 (maj x y z) := bits_w32 _ _ _
theorem ad_w (x y : Int) : W32 (ad x y) := by unfold W32 ad; omega

example : up0 1779033703 = 3458249854 := by decide
end Go.Proofs.YtogfgcihhnblkaaDoor
