/- Next: arguments that are refused; Place. Bounds on sizes alone. -/
import Derived.Test.YtdmjlmlmdllhgaaDoorLexNex
namespace Go.Proofs.YtdmjlmlmdllhgaaDoor
open Go.RowKit

/-- A fault of Next. -/
def NexBad (c p : Int) (w : World) (e : Ending) (w' : World) : Prop := e = .returned (.tuple #[.agg #[.int .i64 0, .string ⟨#[]⟩, .int .i64 0, .int .i64 0], .int .i64 0, .agg #[.int .i64 c, .int .i64 p]]) ∧ Below w.heap.size w w'
theorem bel_two (w : World) (o o2 : Obj) : Below w.heap.size w ((w.alloc o).alloc o2) := (bel_alloc w o).trans ((bel_alloc (w.alloc o) o2).mono (by simp))
theorem two_a (w : World) (o o2 : Obj) : ((w.alloc o).alloc o2).heap[w.heap.size]? = some o := ((bel_alloc (w.alloc o) o2).block w.heap.size (by simp)).trans (heap_alloc_new w o)
theorem two_b (w : World) (o o2 : Obj) : ((w.alloc o).alloc o2).heap[w.heap.size + 1]? = some o2 := by
  have h3 := heap_alloc_new (w.alloc o) o2
  rw [show (w.alloc o).heap.size = w.heap.size + 1 by simp] at h3
  exact h3
set_option maxRecDepth 100000 in
set_option maxHeartbeats 1600000 in
theorem nex_big (s : ByteArray) (a : Int) (w : World) (hs : 65536 < s.size) :
    Calls Tryd.prog 19 #[.string s, .int .i64 a] w (NexBad 6 65536 w) := by
  have d1 : decide ((s.size : Int) > 65536) = true := decide_eq_true (by omega)
  have HI1 := hid_of infoTok
  have HI2 := hid_of infoFlt
  clear hs
  go_enter Tryd.func19, Tryd.ntmps19
  go_wp2
  refine bodyPost_ret (res_ctc (cs := #[.int .i64 0, .string ⟨#[]⟩, .int .i64 0, .int .i64 0]) (cs2 := #[.int .i64 6, .int .i64 65536]) rfl w.heap.size (w.heap.size + 1) rfl rfl (two_a _ _ _) (two_b _ _ _) Tryd.underlying25 rfl HI1.out Tryd.underlying28 rfl HI2.out) rfl ⟨rfl, ?_⟩
  exact bel_two _ _ _
set_option maxRecDepth 100000 in
set_option maxHeartbeats 1600000 in
theorem nex_neg (s : ByteArray) (a : Int) (w : World) (hs : s.size ≤ 65536) (ha : a < 0) :
    Calls Tryd.prog 19 #[.string s, .int .i64 a] w (NexBad 1 0 w) := by
  have d1 : decide ((s.size : Int) > 65536) = false := decide_eq_false (by omega)
  have d2 : decide (a < 0) = true := decide_eq_true ha
  have HI1 := hid_of infoTok
  have HI2 := hid_of infoFlt
  clear hs
  go_enter Tryd.func19, Tryd.ntmps19
  go_wp2
  refine bodyPost_ret (res_ctc (cs := #[.int .i64 0, .string ⟨#[]⟩, .int .i64 0, .int .i64 0]) (cs2 := #[.int .i64 1, .int .i64 0]) rfl w.heap.size (w.heap.size + 1) rfl rfl (two_a _ _ _) (two_b _ _ _) Tryd.underlying25 rfl HI1.out Tryd.underlying28 rfl HI2.out) rfl ⟨rfl, ?_⟩
  exact bel_two _ _ _
set_option maxRecDepth 100000 in
set_option maxHeartbeats 1600000 in
theorem nex_over (s : ByteArray) (a : Int) (w : World) (hs : s.size ≤ 65536) (ha : (s.size : Int) < a) :
    Calls Tryd.prog 19 #[.string s, .int .i64 a] w (NexBad 1 0 w) := by
  have d1 : decide ((s.size : Int) > 65536) = false := decide_eq_false (by omega)
  have d2 : decide (a < 0) = false := decide_eq_false (by omega)
  have d3 : decide ((s.size : Int) < a) = true := decide_eq_true ha
  have HI1 := hid_of infoTok
  have HI2 := hid_of infoFlt
  clear hs
  go_enter Tryd.func19, Tryd.ntmps19
  go_wp2
  refine bodyPost_ret (res_ctc (cs := #[.int .i64 0, .string ⟨#[]⟩, .int .i64 0, .int .i64 0]) (cs2 := #[.int .i64 1, .int .i64 0]) rfl w.heap.size (w.heap.size + 1) rfl rfl (two_a _ _ _) (two_b _ _ _) Tryd.underlying25 rfl HI1.out Tryd.underlying28 rfl HI2.out) rfl ⟨rfl, ?_⟩
  exact bel_two _ _ _
end Go.Proofs.YtdmjlmlmdllhgaaDoor
