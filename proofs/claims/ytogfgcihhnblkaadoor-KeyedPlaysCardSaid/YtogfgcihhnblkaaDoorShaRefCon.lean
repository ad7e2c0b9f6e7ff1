/- The reference's constants. -/
import Derived.Test.YtogfgcihhnblkaaDoorShaRefSum
namespace Go.Proofs.YtogfgcihhnblkaaDoor
open Go.RowKit

/-- An operation whose value is known. -/
theorem wpList_value {P : Program} {ops : Array Oper} {rest : List Oper} {o : Oper} {a : Act} {w : World} {Q : Exit → Act → World → Prop} (hgd : o.guard = none) (t : TypeId) (parts : Array (Nat × Operand)) (_ho : o.op = .build t parts) (v : Value)
    (hr : (execOp a.eval o).run P w = .ok (.value v) w) (h : wpList P ops Q rest (a.put o.dst v) w) : wpList P ops Q (o :: rest) a w :=
  wpList_plain hgd fun K hK => by unfold Oper.wp; rw [hr, Oper.upon_value]; exact hK _ _ h

set_option maxRecDepth 100000 in
set_option maxHeartbeats 1600000 in
theorem rconst_any (w : World) :
    Calls Tryd.prog 49 #[] w fun e w' => e = .returned (.agg (ws KON).toArray) ∧ Below w.heap.size w w' := by
  obtain ⟨arr, harr⟩ : ∃ arr, arr = (ws KON).toArray := ⟨_, rfl⟩
  have HARR := hid_of harr
  have HSZ : Hid (arr.size = 64) := hid_of (by rw [harr]; rfl)
  have HI : Hid ((Tryd.prog.info? 80).map (·.size) = some arr.size) := hid_of (by rw [HSZ.out]; exact Tryd.info64)
  have H1 : Hid (arr.all (·.oneCell') = true) := hid_of (by rw [harr]; exact ws_one _)
  rw [← harr]
  clear harr
  go_enter Tryd.func49, Tryd.ntmps49
  go_wp2_with (first
    | (refine wpList_value rfl 80 _ rfl (.agg arr) (by rw [HARR.out]; kernel_rfl) ?_)
    | (refine wpList_store_fresh rfl 80 (.tmp 0) (.tmp 1) rfl _ arr rfl rfl rfl _ HI.out (by rw [HSZ.out]; rfl) H1.out ?_))
  refine bodyPost_ret (results_cell_row rfl _ _ w.heap.size 80 _ (0, 0) _ rfl (heap_alloc_new _ _) Tryd.underlying80 rfl HI.out) rfl ⟨rfl, ?_⟩
  exact bel_alloc _ _
end Go.Proofs.YtogfgcihhnblkaaDoor
