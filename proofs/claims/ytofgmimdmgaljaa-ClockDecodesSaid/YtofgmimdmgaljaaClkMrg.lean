/- The closures of Merge, Common, Minus of package clock; the state of combine's walk. -/
import Derived.Test.YtofgmimdmgaljaaClkComb
namespace Go.Proofs.Ytofgmimdmgaljaa
open Go.RowKit

theorem max_clo (x y : Int) (w : World) : Calls Try.prog 36 #[.int .i64 x, .int .i64 y] w fun e w' => e = .returned (.int .i64 (gMax x y)) ∧ w = w' := by
  go_enter Try.func36, Try.ntmps36
  go_wp2
  all_goals go_ret
  all_goals exact ⟨ret_i (by unfold gMax; omega), rfl⟩
theorem min_clo (x y : Int) (w : World) : Calls Try.prog 37 #[.int .i64 x, .int .i64 y] w fun e w' => e = .returned (.int .i64 (gMin x y)) ∧ w = w' := by
  go_enter Try.func37, Try.ntmps37
  go_wp2
  all_goals go_ret
  all_goals exact ⟨ret_i (by unfold gMin; omega), rfl⟩
theorem sub_clo (x y : Int) (w : World) : Calls Try.prog 38 #[.int .i64 x, .int .i64 y] w fun e w' => e = .returned (.int .i64 (gSub x y)) ∧ w = w' := by
  by_cases h : y < x
  · have d : decide (x > y) = true := by simp; exact h
    go_enter Try.func38, Try.ntmps38
    go_wp2
    go_ret
    exact ⟨ret_i (by unfold gSub; rw [if_pos h]), rfl⟩
  · have d : decide (x > y) = false := by simp; omega
    go_enter Try.func38, Try.ntmps38
    go_wp2
    go_ret
    exact ⟨ret_i (by unfold gSub; rw [if_neg (by omega)]), rfl⟩

def slen : Value → Nat
  | .slice _ n _ => n
  | _ => 0
/-- The state of the walk. -/
structure CSt (g : Int → Int → Int) (a b : List Tk) (w wr : World) (av bv lv : Value) (a' b' list : List Tk) : Prop where
  ra : TRd w av a'
  rb : TRd w bv b'
  own : OT w.heap.size w wr lv list
  inv : CInv g a b a' b' list
theorem nil_of {ao : Option Addr} {c : Nat} {l : List Tk} {w : World} (h : TRd w (.slice ao 0 c) l) : l = [] := List.eq_nil_of_length_eq_zero (h.cut.1).symm
theorem not_nil {ao : Option Addr} {n c : Nat} {l : List Tk} {w : World} (h : TRd w (.slice ao n c) l) (hn : 0 < n) : l ≠ [] := fun e => by
  have := h.cut.1
  rw [e] at this
  simp at this; omega

/-- What Merge, Common, Minus return. -/
def vop (g : Int → Int → Int) (a b : List Tk) : List Tk := if okV a = true ∧ okV b = true then comb g a b else []
end Go.Proofs.Ytofgmimdmgaljaa
