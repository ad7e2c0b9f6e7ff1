/- Comparisons of tokens and faults that are the same. No condition. -/
import Derived.Test.YtdmjlmlmdllhgaaDoorLexAwk
import Derived.Laws.StructEq
namespace Go.Proofs.YtdmjlmlmdllhgaaDoor
open Go.RowKit

theorem eq_tok (k n p : Int) (t : ByteArray) (w : World) : (binOp .eql 25 (.agg #[.int .i64 k, .string t, .int .i64 n, .int .i64 p]) (.agg #[.int .i64 k, .string t, .int .i64 n, .int .i64 p])).run Tryd.prog w = .ok (.bool true) w := by
  have hu := Tryd.underlying25
  have hp : Tryd.prog.stoodInHeld 25 = false := by kernel_rfl
  have h3 := Tryd.underlying3
  have h2 := Tryd.underlying2
  have h9 := Tryd.underlying9
  go_simp
theorem neq_tok (k n p : Int) (t : ByteArray) (w : World) : (binOp .neq 25 (.agg #[.int .i64 k, .string t, .int .i64 n, .int .i64 p]) (.agg #[.int .i64 k, .string t, .int .i64 n, .int .i64 p])).run Tryd.prog w = .ok (.bool false) w := by
  have hu := Tryd.underlying25
  have hp : Tryd.prog.stoodInHeld 25 = false := by kernel_rfl
  have h3 := Tryd.underlying3
  have h2 := Tryd.underlying2
  have h9 := Tryd.underlying9
  go_simp
theorem eq_flt (c p : Int) (w : World) : (binOp .eql 28 (.agg #[.int .i64 c, .int .i64 p]) (.agg #[.int .i64 c, .int .i64 p])).run Tryd.prog w = .ok (.bool true) w := by
  have hu := Tryd.underlying28
  have hp : Tryd.prog.stoodInHeld 28 = false := by kernel_rfl
  have h3 := Tryd.underlying3
  have h2 := Tryd.underlying26
  go_simp
theorem eqg_tok (x y : Operand) (s t : Array Value) (w : World) : (eqGuard .eql 25 x y (.agg s) (.agg t)).run Tryd.prog w = .ok () w := run_eqGuard_agg w _ _ _ _ _ _ (by kernel_rfl)
theorem neqg_tok (x y : Operand) (s t : Array Value) (w : World) : (eqGuard .neq 25 x y (.agg s) (.agg t)).run Tryd.prog w = .ok () w := run_eqGuard_agg w _ _ _ _ _ _ (by kernel_rfl)
theorem eqg_flt (x y : Operand) (s t : Array Value) (w : World) : (eqGuard .eql 28 x y (.agg s) (.agg t)).run Tryd.prog w = .ok () w := run_eqGuard_agg w _ _ _ _ _ _ (by kernel_rfl)
theorem bl_of {w w1 w2 : World} {e : Ending} (h : Below w.heap.size w w1) (h2 : BlP true w1 e w2) : e = .returned (.bool true) ∧ Below w.heap.size w w2 := ⟨h2.1, h.trans (h2.2.mono h.size)⟩
/-- A call that refuses long sources and whose examples hold. -/
theorem step_b {w w1 w2 : World} (h : Below w.heap.size w w1) (h2 : Below w1.heap.size w1 w2) : Below w.heap.size w w2 := h.trans (h2.mono h.size)
theorem step_al {w w1 : World} (h : Below w.heap.size w w1) (o : Obj) : Below w.heap.size w (w1.alloc o) := step_b h (bel_alloc _ _)
end Go.Proofs.YtdmjlmlmdllhgaaDoor
