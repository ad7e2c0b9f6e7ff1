/- Results that are structs, and stores of whole structs. No condition. -/
import Derived.Test.YtdmjlmlmdllhgaaDoorLexSkp
import Derived.Laws.ResultCell
import Derived.Laws.Rows
import Derived.Laws.Tables
namespace Go.Proofs.YtdmjlmlmdllhgaaDoor
open Go.RowKit

section
variable {P : Program} {fn : Func} {ty tz : TypeId} {tmps : Array Value} {w : World} {t t2 : TypeId} {cs cs2 : Array Value} {fr fr2 : Nat × Nat} {d d2 : TypeDesc}
theorem res_ct {p u : Tmp} (h : fn.results = #[.cell p ty, .tmp u]) (g : Nat) (hp : tmps.getD p undef = .pointer (some ⟨g, 0, none⟩)) (hg : w.heap[g]? = some (.cells cs t fr))
    (hu : P.underlying ty = some d) (hd : (match d with | .struct _ | .array _ _ => true | _ => false) = true) (hi : (P.info? ty).map (·.size) = some cs.size) :
    (results fn tmps).run P w = .ok (.tuple #[.agg cs, tmps.getD u undef]) w := by
  rw [results_cell_tmp h, hp]
  simp [asAddr, run_loadVar_row w g t ty cs fr d hg hu hd hi]
theorem res_tc {p u : Tmp} (h : fn.results = #[.tmp u, .cell p ty]) (g : Nat) (hp : tmps.getD p undef = .pointer (some ⟨g, 0, none⟩)) (hg : w.heap[g]? = some (.cells cs t fr))
    (hu : P.underlying ty = some d) (hd : (match d with | .struct _ | .array _ _ => true | _ => false) = true) (hi : (P.info? ty).map (·.size) = some cs.size) :
    (results fn tmps).run P w = .ok (.tuple #[tmps.getD u undef, .agg cs]) w := by
  have hp' : tmps[p]?.getD undef = .pointer (some ⟨g, 0, none⟩) := by simpa using hp
  simp [results, h, hp', asAddr, Result.andThen, run_loadVar_row w g t ty cs fr d hg hu hd hi]
theorem res_cc {p q : Tmp} (h : fn.results = #[.cell p ty, .cell q tz]) (g k : Nat) (hp : tmps.getD p undef = .pointer (some ⟨g, 0, none⟩)) (hq : tmps.getD q undef = .pointer (some ⟨k, 0, none⟩)) (hg : w.heap[g]? = some (.cells cs t fr)) (hk : w.heap[k]? = some (.cells cs2 t2 fr2))
    (hu : P.underlying ty = some d) (hd : (match d with | .struct _ | .array _ _ => true | _ => false) = true) (hi : (P.info? ty).map (·.size) = some cs.size)
    (hu2 : P.underlying tz = some d2) (hd2 : (match d2 with | .struct _ | .array _ _ => true | _ => false) = true) (hi2 : (P.info? tz).map (·.size) = some cs2.size) :
    (results fn tmps).run P w = .ok (.tuple #[.agg cs, .agg cs2]) w := by
  have hp' : tmps[p]?.getD undef = .pointer (some ⟨g, 0, none⟩) := by simpa using hp
  have hq' : tmps[q]?.getD undef = .pointer (some ⟨k, 0, none⟩) := by simpa using hq
  simp [results, h, hp', hq', asAddr, Sem.run_bind, Result.andThen, run_loadVar_row w g t ty cs fr d hg hu hd hi, run_loadVar_row w k t2 tz cs2 fr2 d2 hk hu2 hd2 hi2]
theorem res_ctc {p u q : Tmp} (h : fn.results = #[.cell p ty, .tmp u, .cell q tz]) (g k : Nat) (hp : tmps.getD p undef = .pointer (some ⟨g, 0, none⟩)) (hq : tmps.getD q undef = .pointer (some ⟨k, 0, none⟩)) (hg : w.heap[g]? = some (.cells cs t fr)) (hk : w.heap[k]? = some (.cells cs2 t2 fr2))
    (hu : P.underlying ty = some d) (hd : (match d with | .struct _ | .array _ _ => true | _ => false) = true) (hi : (P.info? ty).map (·.size) = some cs.size)
    (hu2 : P.underlying tz = some d2) (hd2 : (match d2 with | .struct _ | .array _ _ => true | _ => false) = true) (hi2 : (P.info? tz).map (·.size) = some cs2.size) :
    (results fn tmps).run P w = .ok (.tuple #[.agg cs, tmps.getD u undef, .agg cs2]) w := by
  have hp' : tmps[p]?.getD undef = .pointer (some ⟨g, 0, none⟩) := by simpa using hp
  have hq' : tmps[q]?.getD undef = .pointer (some ⟨k, 0, none⟩) := by simpa using hq
  simp [results, h, hp', hq', asAddr, Sem.run_bind, Result.andThen, run_loadVar_row w g t ty cs fr d hg hu hd hi, run_loadVar_row w k t2 tz cs2 fr2 d2 hk hu2 hd2 hi2]
end
theorem infoTok : (Tryd.prog.info? 25).map (·.size) = some 4 := by kernel_rfl
theorem infoFlt : (Tryd.prog.info? 28).map (·.size) = some 2 := by kernel_rfl
theorem kept_row {S : Nat → Prop} {w w' : World} {g : Nat} (h : Kept S w w') (hg : w.heap.size ≤ g) (cs : Array Value) : Kept S w (w'.setRow g cs) :=
  ⟨h.os, h.tape, h.output, by simpa [World.setRow] using h.size, fun k hk hs => (setRow_other w' g k cs (by omega)).trans (h.block k hk hs)⟩
theorem Pst.row {w : World} {b g : Nat} {s : ByteArray} {i : Nat} (h : Pst w b s i) (hg : b ≠ g) (cs : Array Value) : Pst (w.setRow g cs) b s i := (setRow_other w g b cs hg).trans h

def tokV (g : Got) (p : Int) : Value := .agg #[.int .i64 g.kind, .string g.text, .int .i64 g.n, .int .i64 p]
/-- A token with its code, or a code; the scanner stands behind the token. -/
def TokP (b : Nat) (s : ByteArray) (g : Got) (w : World) (e : Ending) (w' : World) : Prop := e = .returned (.tuple #[tokV g 0, .int .i64 g.code]) ∧ (g.code = 0 → Pst w' b s g.stop) ∧ KB b w w'
def zTok : Obj := .cells #[.int .i64 0, .string ⟨#[]⟩, .int .i64 0, .int .i64 0] 25
def zFlt : Obj := .cells #[.int .i64 0, .int .i64 0] 28
theorem Pst.bel {w w' : World} {b B : Nat} {s : ByteArray} {i : Nat} (h : Pst w b s i) (hb : Below B w w') (hB : b < B) : Pst w' b s i := (hb.block b hB).trans h
theorem Pst.al {w : World} {b : Nat} {s : ByteArray} {i : Nat} (h : Pst w b s i) (o : Obj) : Pst (w.alloc o) b s i := h.bel (bel_alloc w o) h.lt
theorem KB.al {b : Nat} {w w' : World} (o : Obj) (h : KB b (w.alloc o) w') : KB b w w' := (Kept.ofBelow (bel_alloc w o)).trans h
/-- The result's cell stays behind what the scanner does. -/
theorem row_kept {b : Nat} {w w1 : World} {o : Obj} (h : KB b (w.alloc o) w1) (hb : b < w.heap.size) : w1.heap[w.heap.size]? = some o :=
  (h.block w.heap.size (by simp) (by omega)).trans (heap_alloc_new w o)
/-- Four stores make the row. -/
theorem set4 {w : World} {g t : Nat} {fr : Nat × Nat} {a b c d a' b' c' d' : Value} (h : w.heap[g]? = some (.cells #[a, b, c, d] t fr)) :
    (((w.setCell ⟨g, 0, none⟩ a').setCell ⟨g, 1, none⟩ b').setCell ⟨g, 2, none⟩ c').setCell ⟨g, 3, none⟩ d' = w.setRow g #[a', b', c', d'] := by
  unfold World.setCell World.setRow
  congr 1
  refine Array.ext_getElem? fun k => ?_
  by_cases e : g = k
  · subst e
    simp only [Array.getElem?_modify, if_pos, h]
    rfl
  · simp only [Array.getElem?_modify, if_neg e]
theorem set2 {w : World} {g t : Nat} {fr : Nat × Nat} {a b a' b' : Value} (h : w.heap[g]? = some (.cells #[a, b] t fr)) :
    (w.setCell ⟨g, 0, none⟩ a').setCell ⟨g, 1, none⟩ b' = w.setRow g #[a', b'] := by
  unfold World.setCell World.setRow
  congr 1
  refine Array.ext_getElem? fun k => ?_
  by_cases e : g = k
  · subst e
    simp only [Array.getElem?_modify, if_pos, h]
    rfl
  · simp only [Array.getElem?_modify, if_neg e]
/-- What the walk asks of a row of four cells that is to be stored to. -/
theorem row4 {w : World} {g t : Nat} {a b c d : Value} (h : w.heap[g]? = some (.cells #[a, b, c, d] t (0, 0))) :
    w.cell? ⟨g, 0, none⟩ = some a ∧ w.cell? ⟨g, 1, none⟩ = some b ∧ w.cell? ⟨g, 2, none⟩ = some c ∧ w.cell? ⟨g, 3, none⟩ = some d ∧ w.frozen? ⟨g, 0, none⟩ = false ∧ w.frozen? ⟨g, 1, none⟩ = false ∧ w.frozen? ⟨g, 2, none⟩ = false ∧ w.frozen? ⟨g, 3, none⟩ = false := by
  simp [World.cell?, World.frozen?, h]
theorem row2 {w : World} {g t : Nat} {a b : Value} (h : w.heap[g]? = some (.cells #[a, b] t (0, 0))) :
    w.cell? ⟨g, 0, none⟩ = some a ∧ w.cell? ⟨g, 1, none⟩ = some b ∧ w.frozen? ⟨g, 0, none⟩ = false ∧ w.frozen? ⟨g, 1, none⟩ = false := by
  simp [World.cell?, World.frozen?, h]
end Go.Proofs.YtdmjlmlmdllhgaaDoor
