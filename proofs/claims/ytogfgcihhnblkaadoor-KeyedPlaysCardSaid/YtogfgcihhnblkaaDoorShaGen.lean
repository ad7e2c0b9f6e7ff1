/- Small facts about new blocks. -/
import Derived.Test.YtogfgcihhnblkaaDoorShaDig
import Derived.Test.YtogfgcihhnblkaaDoorAppOwn
namespace Go.Proofs.YtogfgcihhnblkaaDoor
open Go.RowKit

/-- A slice over a block that was made last. -/
theorem lies_new {w : World} {l : List Int} {n : Nat} {cs : Array Value} {m : Nat × Nat} (hn : n = l.length) (hc : cs = (bs l).toArray) (h : l.length ≤ 9223372036854775807) : Lies (w.alloc (.cells cs 5 m)) (.slice (some ⟨w.heap.size, 0, none⟩) n n) l := by
  subst hn hc
  refine ⟨_, _, rfl, Nat.le_refl _, h, fun _ => ⟨_, _, rfl, by simp, fun j u hu => ?_⟩⟩
  have := World.news_of_block (heap_alloc_new w (.cells (bs l).toArray 5 m)) j u (by simpa using hu)
  rw [Addr.add_mid] at this
  exact this
theorem bel_alloc (w : World) (o : Obj) : Below w.heap.size w (w.alloc o) := (Below.refl _ _).alloc (Nat.le_refl _) o
theorem bel_fst {w w' : World} {o : Obj} (h : Below (w.alloc o).heap.size (w.alloc o) w') : Below w.heap.size w w' :=
  (bel_alloc w o).trans (h.mono (by simp))
theorem Sst.bel {w w' : World} {b : Nat} {m : List Int} (h : Sst w b m) (hb : Below w.heap.size w w') : Sst w' b m := h.later (hb.block b h.lt)
theorem Sst.kept {w w' : World} {b c : Nat} {m : List Int} (h : Sst w b m) (hk : Kept (fun k => k = c) w w') (hn : b ≠ c) : Sst w' b m := h.later (hk.block b h.lt hn)

end Go.Proofs.YtogfgcihhnblkaaDoor
