/- The node of an expression. No condition. -/
import Derived.Test.YtdacalplnggnoaaDoorVarVry
import Derived.Deep.OwnRows
namespace Go.Proofs.YtdacalplnggnoaaDoor
open Go.RowKit

theorem infoNode : (Tryd.prog.info? 50).map (fun i => (i.zero, i.size, i.bytes)) = some (some (.agg #[.pointer none, .slice none 0 0, .int .i64 0]), 3, 40) := by kernel_rfl
theorem nodeSize : (Tryd.prog.info? 50).map (·.size) = some 3 := by kernel_rfl
theorem run_nodes (n : Nat) (hn : n ≤ 1000000) (w : World) :
    (Instr.makeSlice 48 (.int .i64 (n : Int)) (.int .i64 (n : Int))).run Tryd.prog w = .ok (.slice (some ⟨w.heap.size, 0, none⟩) n n) (w.alloc (.cells (madeCells #[.pointer none, .slice none 0 0, .int .i64 0] (n * 3)) 50)) := by
  obtain ⟨i, hi, hzz⟩ := Option.map_eq_some_iff.1 infoNode
  simp only [Prod.mk.injEq] at hzz
  obtain ⟨hz, hs, hb⟩ := hzz
  have hr := run_make (P := Tryd.prog) w 48 50 i _ Tryd.underlying48 hi hz .i64 .i64 n n (by omega) (Int.le_refl _) (by rw [hb]; omega) (by omega)
  simp only [Int.toNat_natCast, hs] at hr
  exact hr
/-- What a store asks of a cell of a block. -/
theorem cell_st {w : World} {b : Nat} {cs : List Value} {T : TypeId} (h : w.heap[b]? = some (.cells cs.toArray T (0, 0))) {j : Nat} (hj : j < cs.length) : (∃ c, w.cell? ⟨b, j, none⟩ = some c) ∧ w.frozen? ⟨b, j, none⟩ = false := by
  refine ⟨⟨cs[j], ?_⟩, ?_⟩
  · have := World.news_of_block h j cs[j] (by simp [List.getElem?_eq_getElem hj])
    rw [Addr.add_mid, Nat.zero_add] at this
    exact this
  · simp [World.frozen?, h]
theorem set_snoc {ps : List NdV} {rest : List Value} {a b c v0 v1 v2 : Value} {i : Nat} (hi : ps.length = i) :
    (((ndds ps ++ a :: b :: c :: rest).set (i * 3) v0).set (i * 3 + 1) v1).set (i * 3 + 2) v2 = ndds (ps ++ [⟨v0, v1, v2⟩]) ++ rest := by
  have hl : (ndds ps).length = i * 3 := by rw [ndds_length, hi]
  have e : ndds (ps ++ [⟨v0, v1, v2⟩]) ++ rest = ndds ps ++ v0 :: v1 :: v2 :: rest := by rw [ndds_append]; simp [ndds, NdV.cs]
  rw [e]
  simp [List.set_append, hl]
theorem bel_set {B : Nat} {w w' : World} {b o : Nat} {v : Value} (h : Below B w w') (hb : B ≤ b) : Below B w (w'.setCell ⟨b, o, none⟩ v) :=
  ⟨h.os, h.tape, h.output, by simpa using h.size, fun k hk => (Below.heap_setCell _ _ _ _ (show k ≠ b by omega)).trans (h.block k hk)⟩
/-- What the loop of judge keeps: two boxes, a row of which the first i nodes stand. -/
def JI (w w0 : World) (g o n : Nat) (t : Ex) (i : Nat) (wr : World) : Prop :=
  Below w.heap.size w wr ∧ w.heap.size + 3 ≤ wr.heap.size ∧
  wr.heap[w.heap.size]? = some (.cells #[.pointer none, .slice none 0 0, .int .i64 0] 50 (0, 0)) ∧
  wr.heap[w.heap.size + 2]? = some (.cells #[.pointer (some ⟨g, o, none⟩), .slice (some ⟨w.heap.size + 1, 0, none⟩) n n, .int .i64 0] 50 (0, 0)) ∧
  ∃ (ps : List NdV) (rest : List Value), ps.length = i ∧ rest.length = (n - i) * 3 ∧ wr.heap[w.heap.size + 1]? = some (.cells (ndds ps ++ rest).toArray 50 (0, 0)) ∧
    ∀ (j : Nat) (y : NdV) (u : Ex), ps[j]? = some y → t.ks[j]? = some u → ND w0 (w.heap.size + 3) wr y u
theorem JI.call {w w0 wr w2 : World} {g o n i : Nat} {t : Ex} (h : JI w w0 g o n t i wr) (hb : Below wr.heap.size wr w2) : JI w w0 g o n t i w2 := by
  obtain ⟨h1, h2, h3, h4, ps, rest, h5, h6, h7, h8⟩ := h
  exact ⟨h1.trans (hb.mono h1.size), Nat.le_trans h2 hb.size, (hb.block _ (by omega)).trans h3, (hb.block _ (by omega)).trans h4, ps, rest, h5, h6, (hb.block _ (by omega)).trans h7, fun j y u hy hu => (h8 j y u hy hu).keep hb.size fun k _ hk => hb.block k hk⟩
theorem JI.st {w w0 wr : World} {g o n i : Nat} {t u : Ex} {gx ox : Nat} {x : XX} {a : Option Addr} {m c : Nat} (h : JI w w0 g o n t i wr) (hi : i < n) (hu : t.ks[i]? = some u) (hx : XAt w0 gx ox x u) (hn : NDs w0 (w.heap.size + 3) wr (.slice a m c) u.ks) :
    JI w w0 g o n t (i + 1) (((wr.setCell ⟨w.heap.size + 1, i * 3, none⟩ (.pointer (some ⟨gx, ox, none⟩))).setCell ⟨w.heap.size + 1, i * 3 + 1, none⟩ (.slice a m c)).setCell ⟨w.heap.size + 1, i * 3 + 2, none⟩ (.int .i64 (vary u))) := by
  obtain ⟨h1, h2, h3, h4, ps, rest, h5, h6, h7, h8⟩ := h
  have ho : ∀ k, k ≠ w.heap.size + 1 → (((wr.setCell ⟨w.heap.size + 1, i * 3, none⟩ (.pointer (some ⟨gx, ox, none⟩))).setCell ⟨w.heap.size + 1, i * 3 + 1, none⟩ (.slice a m c)).setCell ⟨w.heap.size + 1, i * 3 + 2, none⟩ (.int .i64 (vary u))).heap[k]? = wr.heap[k]? := fun k hk =>
    (Below.heap_setCell _ _ _ _ hk).trans ((Below.heap_setCell _ _ _ _ hk).trans (Below.heap_setCell _ _ _ _ hk))
  have hsz : (((wr.setCell ⟨w.heap.size + 1, i * 3, none⟩ (.pointer (some ⟨gx, ox, none⟩))).setCell ⟨w.heap.size + 1, i * 3 + 1, none⟩ (.slice a m c)).setCell ⟨w.heap.size + 1, i * 3 + 2, none⟩ (.int .i64 (vary u))).heap.size = wr.heap.size := by simp
  obtain ⟨r0, r1, r2, rest2, rfl⟩ : ∃ r0 r1 r2 rest2, rest = r0 :: r1 :: r2 :: rest2 := by
    match rest, h6 with
    | r0 :: r1 :: r2 :: rest2, _ => exact ⟨r0, r1, r2, rest2, rfl⟩
    | [], h => simp at h; omega
    | [_], h => simp at h; omega
    | [_, _], h => simp at h; omega
  have hrow := blk_setCell (k := i * 3 + 2) (u := .int .i64 (vary u)) (blk_setCell (k := i * 3 + 1) (u := .slice a m c) (blk_setCell (k := i * 3) (u := .pointer (some ⟨gx, ox, none⟩)) h7))
  rw [set_snoc h5] at hrow
  have hkeep : ∀ {y : NdV} {v : Ex}, ND w0 (w.heap.size + 3) wr y v → ND w0 (w.heap.size + 3) (((wr.setCell ⟨w.heap.size + 1, i * 3, none⟩ (.pointer (some ⟨gx, ox, none⟩))).setCell ⟨w.heap.size + 1, i * 3 + 1, none⟩ (.slice a m c)).setCell ⟨w.heap.size + 1, i * 3 + 2, none⟩ (.int .i64 (vary u))) y v := fun hnd => hnd.keep (by rw [hsz]; exact Nat.le_refl _) fun k hk _ => ho k (by omega)
  refine ⟨bel_set (bel_set (bel_set h1 (by omega)) (by omega)) (by omega), by rw [hsz]; exact h2, (ho _ (by omega)).trans h3, (ho _ (by omega)).trans h4, ps ++ [⟨.pointer (some ⟨gx, ox, none⟩), .slice a m c, .int .i64 (vary u)⟩], rest2, by simp [h5], by simp at h6; omega, hrow, fun j y v hy hv => ?_⟩
  by_cases e : j < ps.length
  · rw [List.getElem?_append_left e] at hy
    exact hkeep (h8 j y v hy hv)
  · rw [List.getElem?_append_right (by omega)] at hy
    have hj : j = ps.length := by have := (List.getElem?_eq_some_iff.1 hy).1; simp at this; omega
    subst hj
    simp at hy
    subst hy
    rw [h5, hu] at hv
    cases hv
    obtain ⟨qs, q1, q2, q3, q4⟩ := hn
    exact hkeep (.mk gx ox x hx qs rfl rfl q1 q2 q3 q4)
theorem nds_of {w0 wr : World} {B g : Nat} {ps : List NdV} {ts : List Ex} {n : Nat} (hB : B ≤ g) (h5 : ps.length = n) (hn : n = ts.length) (h9 : n ≤ 1000000) (h7 : wr.heap[g]? = some (.cells (ndds ps).toArray 50 (0, 0)))
    (h8 : ∀ (j : Nat) (y : NdV) (u : Ex), ps[j]? = some y → ts[j]? = some u → ND w0 B wr y u) : NDs w0 B wr (.slice (some ⟨g, 0, none⟩) n n) ts := by
  refine ⟨ps, ⟨_, _, by rw [h5], by omega, by omega, fun _ => ⟨_, _, rfl, lt_of_block h7, fun i y hy => ?_⟩⟩, fun a m c e => by cases e; exact hB, by omega, h8⟩
  obtain ⟨g0, g1, g2⟩ := ndds_get ps i y hy
  have q : ∀ j u, (ndds ps)[j]? = some u → wr.cell? ⟨g, 0 + j, none⟩ = some u := fun j u hu => by
    have := World.news_of_block h7 j u hu
    rw [Addr.add_mid] at this
    exact this
  exact ⟨q _ _ g0, q _ _ g1, q _ _ g2⟩
theorem JI.row {w w0 wr : World} {g o n : Nat} {t : Ex} (h : JI w w0 g o n t n wr) : ∃ ps : List NdV, ps.length = n ∧ wr.heap[w.heap.size + 1]? = some (.cells (ndds ps).toArray 50 (0, 0)) ∧ ∀ (j : Nat) (y : NdV) (u : Ex), ps[j]? = some y → t.ks[j]? = some u → ND w0 (w.heap.size + 3) wr y u := by
  obtain ⟨h1, h2, h3, h4, ps, rest, h5, h6, h7, h8⟩ := h
  obtain rfl : rest = [] := by
    rw [Nat.sub_self, Nat.zero_mul] at h6
    exact List.length_eq_zero_iff.1 h6
  rw [List.append_nil] at h7
  exact ⟨ps, h5, h7, h8⟩
/-- All nodes of the row stand. -/
theorem JI.nds {w w0 wr : World} {g o n : Nat} {t : Ex} (h : JI w w0 g o n t n wr) (hn : n = t.ks.length) (h9 : n ≤ 1000000) : NDs w0 (w.heap.size + 1) wr (.slice (some ⟨w.heap.size + 1, 0, none⟩) n n) t.ks := by
  obtain ⟨ps, h5, h7, h8⟩ := h.row
  exact nds_of (Nat.le_refl _) h5 hn h9 h7 fun j y u hy hu => (h8 j y u hy hu).mono (by omega)
def JP (w w0 : World) (g o : Nat) (t : Ex) (e : Ending) (w' : World) : Prop := ∃ (a : Option Addr) (n c : Nat), e = .returned (.agg #[.pointer (some ⟨g, o, none⟩), .slice a n c, .int .i64 (vary t)]) ∧ NDs w0 w.heap.size w' (.slice a n c) t.ks ∧ Below w.heap.size w w'
/-- The last stores. -/
theorem JI.done {w w0 wr : World} {g o n : Nat} {t : Ex} (h : JI w w0 g o n t n wr) (hn : n = t.ks.length) (h9 : n ≤ 1000000) (v : Int) :
    let wf := (((wr.setCell ⟨w.heap.size + 2, 2, none⟩ (.int .i64 v)).setCell ⟨w.heap.size, 0, none⟩ (.pointer (some ⟨g, o, none⟩))).setCell ⟨w.heap.size, 1, none⟩ (.slice (some ⟨w.heap.size + 1, 0, none⟩) n n)).setCell ⟨w.heap.size, 2, none⟩ (.int .i64 v)
    wf.heap[w.heap.size]? = some (.cells #[.pointer (some ⟨g, o, none⟩), .slice (some ⟨w.heap.size + 1, 0, none⟩) n n, .int .i64 v] 50 (0, 0)) ∧ NDs w0 w.heap.size wf (.slice (some ⟨w.heap.size + 1, 0, none⟩) n n) t.ks ∧ Below w.heap.size w wf := by
  intro wf
  obtain ⟨ps, h5, h7, h8⟩ := h.row
  obtain ⟨h1, h2, h3, h4, _⟩ := h
  have e1 : (wr.setCell ⟨w.heap.size + 2, 2, none⟩ (.int .i64 v)).heap[w.heap.size]? = some (.cells [.pointer none, .slice none 0 0, .int .i64 0].toArray 50 (0, 0)) := (Below.heap_setCell _ _ _ _ (show w.heap.size ≠ w.heap.size + 2 by omega)).trans h3
  have e2 := blk_setCell (k := 2) (u := .int .i64 v) (blk_setCell (k := 1) (u := .slice (some ⟨w.heap.size + 1, 0, none⟩) n n) (blk_setCell (k := 0) (u := .pointer (some ⟨g, o, none⟩)) e1))
  refine ⟨e2, ?_, bel_set (bel_set (bel_set (bel_set h1 (by omega)) (by omega)) (by omega)) (by omega)⟩
  have ho : ∀ k, k ≠ w.heap.size → k ≠ w.heap.size + 2 → wf.heap[k]? = wr.heap[k]? := fun k a b =>
    (Below.heap_setCell _ _ _ _ a).trans ((Below.heap_setCell _ _ _ _ a).trans ((Below.heap_setCell _ _ _ _ a).trans (Below.heap_setCell _ _ _ _ b)))
  have hsz : wf.heap.size = wr.heap.size := by simp [wf]
  exact nds_of (by omega) h5 hn h9 ((ho _ (by omega) (by omega)).trans h7) fun j y u hy hu => ((h8 j y u hy hu).keep (by rw [hsz]; exact Nat.le_refl _) fun k hk _ => ho k (by omega) (by omega)).mono (by omega)
/-- What the loop begins with. -/
theorem JI.start (w w0 : World) (g o n : Nat) (t : Ex) : JI w w0 g o n t 0 (((w.alloc (.cells #[.pointer none, .slice none 0 0, .int .i64 0] 50)).alloc (.cells (madeCells #[.pointer none, .slice none 0 0, .int .i64 0] (n * 3)) 50)).alloc (.cells #[.pointer (some ⟨g, o, none⟩), .slice (some ⟨w.heap.size + 1, 0, none⟩) n n, .int .i64 0] 50)) := by
  have a0 := heap_alloc_new w (.cells #[.pointer none, .slice none 0 0, .int .i64 0] 50)
  generalize e1 : w.alloc (.cells #[.pointer none, .slice none 0 0, .int .i64 0] 50) = w1 at *
  have s1 : w1.heap.size = w.heap.size + 1 := by rw [← e1]; simp
  have a1 := heap_alloc_new w1 (.cells (madeCells #[.pointer none, .slice none 0 0, .int .i64 0] (n * 3)) 50)
  have b1 := bel_alloc w1 (.cells (madeCells #[.pointer none, .slice none 0 0, .int .i64 0] (n * 3)) 50)
  generalize e2 : w1.alloc (.cells (madeCells #[.pointer none, .slice none 0 0, .int .i64 0] (n * 3)) 50) = w2 at *
  have s2 : w2.heap.size = w.heap.size + 2 := by rw [← e2]; simp; omega
  have a2 := heap_alloc_new w2 (.cells #[.pointer (some ⟨g, o, none⟩), .slice (some ⟨w.heap.size + 1, 0, none⟩) n n, .int .i64 0] 50)
  have b2 := bel_alloc w2 (.cells #[.pointer (some ⟨g, o, none⟩), .slice (some ⟨w.heap.size + 1, 0, none⟩) n n, .int .i64 0] 50)
  have b0 : Below w.heap.size w w1 := by rw [← e1]; exact bel_alloc w _
  refine ⟨bel_chain (bel_chain b0 b1) b2, by simp; omega, (b2.block _ (by omega)).trans ((b1.block _ (by omega)).trans a0), ?_, [], (madeCells #[.pointer none, .slice none 0 0, .int .i64 0] (n * 3)).toList, rfl, by simp [size_madeCells], ?_, fun j y u hy => by simp at hy⟩
  · rw [← s2]; exact a2
  · rw [s1] at a1; exact (b2.block _ (by omega)).trans a1
theorem JI.spots {w w0 wr : World} {g o n i : Nat} {t : Ex} (h : JI w w0 g o n t i wr) (hi : i < n) : (∃ c0 c1 c2, wr.cell? ⟨w.heap.size + 1, i * 3, none⟩ = some c0 ∧ wr.cell? ⟨w.heap.size + 1, i * 3 + 1, none⟩ = some c1 ∧ wr.cell? ⟨w.heap.size + 1, i * 3 + 2, none⟩ = some c2) ∧
    wr.frozen? ⟨w.heap.size + 1, i * 3, none⟩ = false ∧ wr.frozen? ⟨w.heap.size + 1, i * 3 + 1, none⟩ = false ∧ wr.frozen? ⟨w.heap.size + 1, i * 3 + 2, none⟩ = false := by
  obtain ⟨h1, h2, h3, h4, ps, rest, h5, h6, h7, h8⟩ := h
  have hl : (ndds ps ++ rest).length = n * 3 := by rw [List.length_append, ndds_length, h5, h6]; omega
  obtain ⟨⟨c0, e0⟩, f0⟩ := cell_st h7 (j := i * 3) (by omega)
  obtain ⟨⟨c1, e1⟩, f1⟩ := cell_st h7 (j := i * 3 + 1) (by omega)
  obtain ⟨⟨c2, e2⟩, f2⟩ := cell_st h7 (j := i * 3 + 2) (by omega)
  exact ⟨⟨c0, c1, c2, e0, e1, e2⟩, f0, f1, f2⟩
theorem JI.box {w w0 wr : World} {g o n i : Nat} {t : Ex} (h : JI w w0 g o n t i wr) : wr.cell? ⟨w.heap.size + 1 + 1, 0, none⟩ = some (.pointer (some ⟨g, o, none⟩)) ∧ wr.cell? ⟨w.heap.size + 1 + 1, 1, none⟩ = some (.slice (some ⟨w.heap.size + 1, 0, none⟩) n n) ∧ wr.cell? ⟨w.heap.size + 1 + 1, 2, none⟩ = some (.int .i64 0) ∧ wr.frozen? ⟨w.heap.size + 1 + 1, 2, none⟩ = false := by
  obtain ⟨h1, h2, h3, h4, _⟩ := h
  obtain ⟨a, b, c⟩ := cs3 h4
  exact ⟨a, b, c, (cell_st (cs := [.pointer (some ⟨g, o, none⟩), .slice (some ⟨w.heap.size + 1, 0, none⟩) n n, .int .i64 0]) h4 (j := 2) (by simp)).2⟩
theorem JI.res {w w0 wr : World} {g o n i : Nat} {t : Ex} (h : JI w w0 g o n t i wr) (v : Value) : (wr.setCell ⟨w.heap.size + 1 + 1, 2, none⟩ v).cell? ⟨w.heap.size, 0, none⟩ = some (.pointer none) ∧ (wr.setCell ⟨w.heap.size + 1 + 1, 2, none⟩ v).cell? ⟨w.heap.size, 1, none⟩ = some (.slice none 0 0) ∧ (wr.setCell ⟨w.heap.size + 1 + 1, 2, none⟩ v).cell? ⟨w.heap.size, 2, none⟩ = some (.int .i64 0) ∧
    (wr.setCell ⟨w.heap.size + 1 + 1, 2, none⟩ v).frozen? ⟨w.heap.size, 0, none⟩ = false ∧ (wr.setCell ⟨w.heap.size + 1 + 1, 2, none⟩ v).frozen? ⟨w.heap.size, 1, none⟩ = false ∧ (wr.setCell ⟨w.heap.size + 1 + 1, 2, none⟩ v).frozen? ⟨w.heap.size, 2, none⟩ = false := by
  obtain ⟨h1, h2, h3, h4, _⟩ := h
  have e : (wr.setCell ⟨w.heap.size + 1 + 1, 2, none⟩ v).heap[w.heap.size]? = some (.cells [.pointer none, .slice none 0 0, .int .i64 0].toArray 50 (0, 0)) := (Below.heap_setCell _ _ _ _ (show w.heap.size ≠ w.heap.size + 1 + 1 by omega)).trans h3
  obtain ⟨a, b, c⟩ := cs3 e
  exact ⟨a, b, c, (cell_st e (j := 0) (by simp)).2, (cell_st e (j := 1) (by simp)).2, (cell_st e (j := 2) (by simp)).2⟩
def judgeC (t : Ex) : Prop := ∀ (g o : Nat) (x : XX) (w0 w : World), Gl w → XAt w0 g o x t → Below w0.heap.size w0 w → Wid t → Calls Tryd.prog 18 #[.pointer (some ⟨g, o, none⟩)] w (JP w w0 g o t)
set_option maxRecDepth 100000 in
set_option maxHeartbeats 3200000 in
theorem judge_any : ∀ (t : Ex), judgeC t := by
  refine ex_ind ?_
  intro op' sr' kd' np' pk' pl' ph' n' pt' ks' ih g o x w0 w HG H0 hw0 hwid
  obtain ⟨t, ht⟩ : ∃ t, t = (Ex.mk op' sr' kd' np' pk' pl' ph' n' pt' ks') := ⟨_, rfl⟩
  rw [← ht] at H0 hwid ⊢
  obtain rfl : ks' = t.ks := by rw [ht]; rfl
  have H := H0.at hw0
  obtain ⟨op, sr, kd, lo, hi', vn, pa, pn, pc, vr, n, vt, pt, ak, nk, ck, rfl, -, -, -, -, -, -, hnk, -, -, -, -, -, -, HK, hgl, -, -, -, -, -, -, -, -, -, -, -, c11⟩ := H.open
  obtain ⟨hq, hk2, hk3⟩ := HK.len
  have h300 := hwid.len
  have hnk9 : nk ≤ 1000000 := by omega
  have hmk := run_nodes nk hnk9
  have HX0 := hid_of H0
  have HXW := hid_of H
  have HNK := hid_of hnk
  have HGL := hid_of HG
  have HB0 := hid_of hw0
  have HN9 := hid_of hnk9
  have HC11 : Hid (∀ w2, Below w.heap.size w w2 → w2.cell? ⟨g, o + 11, none⟩ = some (.slice ak nk ck)) := hid_of (fun w2 h2 => (h2.cell (p := ⟨g, o + 11, none⟩) hgl).trans c11)
  have HGG := hid_of hgl
  have HKD : Hid (Kd w0 (.slice ak nk ck) t.ks) := hid_of (by
    obtain ⟨_, _, _, _, _, _, _, _, _, _, _, _, _, _, _, _, e, _, _, _, _, _, _, _, _, _, _, _, _, _, K, _⟩ := H0.open
    cases e
    exact K)
  have CALL := hid_of (fun (i : Nat) (u : Ex) (hu : t.ks[i]? = some u) (gk qk : Nat) (y : XX) (hy : XAt w0 gk qk y u) (wz : World) (hz : Below w.heap.size w wz) => ih u (List.mem_of_getElem? hu) gk qk y w0 wz (HG.at hz) hy (hw0.trans (hz.mono hw0.size)) (hwid.kid (List.mem_of_getElem? hu)))
  have HST := hid_of (JI.start w w0 g o nk t)
  have c11c := HC11.out _ HST.out.1
  clear ih H H0 hwid HG hq hk2 hnk HK hw0 ht h300
  go_enter Tryd.func18, Tryd.ntmps18
  go_wp2
  clear c11c hmk
  go_loopw [18] (fun iv wr => ∃ i : Nat, iv = .int .i64 i ∧ i ≤ nk ∧ Hid (JI w w0 g o nk t i wr)) (fun iv _ => nk - (intOf iv).toNat)
  case atStart => exact ⟨0, rfl, Nat.zero_le _, HST⟩
  case round =>
    clear HST
    obtain ⟨i, rfl, hi, HJ⟩ := hrel
    have HJB := hid_of (HJ.out.1)
    by_cases hlt : i < nk
    · have d1 : decide (i < nk) = true := decide_eq_true hlt
      have hlt' : (i : Int) < (nk : Int) := by omega
      have HLT := hid_of hlt
      obtain ⟨u, hu⟩ : ∃ u, t.ks[i]? = some u := ⟨_, List.getElem?_eq_getElem (by have := HNK.out; omega)⟩
      obtain ⟨gk, qk, y, rfl, HY⟩ := HKD.out.get hu
      have cB := HC11.out _ HJ.out.1
      have CI := hid_of (CALL.out i u hu gk (qk + i * 12) y HY)
      have HST : Hid (∀ (wz w2 : World) (a : Option Addr) (m c : Nat), JI w w0 g o nk t i wr → Below wr.heap.size wr w2 → NDs w0 wr.heap.size w2 (.slice a m c) u.ks → JI w w0 g o nk t (i + 1) (((w2.setCell ⟨w.heap.size + 1, i * 3, none⟩ (.pointer (some ⟨gk, qk + i * 12, none⟩))).setCell ⟨w.heap.size + 1, i * 3 + 1, none⟩ (.slice a m c)).setCell ⟨w.heap.size + 1, i * 3 + 2, none⟩ (.int .i64 (vary u)))) := hid_of (fun wz w2 a m c hj hb hn => (hj.call hb).st hlt hu HY (hn.mono hj.2.1))
      obtain ⟨vv, hvv⟩ : ∃ vv, vv = vary u := ⟨_, rfl⟩
      have HSP : Hid (∀ w2, Below wr.heap.size wr w2 → (∃ c0 c1 c2, w2.cell? ⟨w.heap.size + 1, i * 3, none⟩ = some c0 ∧ w2.cell? ⟨w.heap.size + 1, i * 3 + 1, none⟩ = some c1 ∧ w2.cell? ⟨w.heap.size + 1, i * 3 + 2, none⟩ = some c2) ∧ w2.frozen? ⟨w.heap.size + 1, i * 3, none⟩ = false ∧ w2.frozen? ⟨w.heap.size + 1, i * 3 + 1, none⟩ = false ∧ w2.frozen? ⟨w.heap.size + 1, i * 3 + 2, none⟩ = false) := hid_of (fun w2 h2 => (HJ.out.call h2).spots HLT.out)
      have HSB : Hid (∀ w2, Below wr.heap.size wr w2 → w2.cell? ⟨w.heap.size + 1 + 1, 1, none⟩ = some (.slice (some ⟨w.heap.size + 1, 0, none⟩) nk nk) ∧ w2.cell? ⟨g, o + 11, none⟩ = some (.slice (some ⟨gk, qk, none⟩) nk ck)) := hid_of (fun w2 h2 => ⟨(HJ.out.call h2).box.2.1, HC11.out _ (HJ.out.call h2).1⟩)
      have HSS : Hid (∀ w2, Below wr.heap.size wr w2 → ∀ v0 v1 v2, (((w2.setCell ⟨w.heap.size + 1, i * 3, none⟩ v0).setCell ⟨w.heap.size + 1, i * 3 + 1, none⟩ v1).setCell ⟨w.heap.size + 1, i * 3 + 2, none⟩ v2).cell? ⟨w.heap.size + 1 + 1, 1, none⟩ = some (.slice (some ⟨w.heap.size + 1, 0, none⟩) nk nk) ∧ (((w2.setCell ⟨w.heap.size + 1, i * 3, none⟩ v0).setCell ⟨w.heap.size + 1, i * 3 + 1, none⟩ v1).setCell ⟨w.heap.size + 1, i * 3 + 2, none⟩ v2).cell? ⟨g, o + 11, none⟩ = some (.slice (some ⟨gk, qk, none⟩) nk ck)) := hid_of (fun w2 h2 v0 v1 v2 => by
        have hh : ∀ k, k ≠ w.heap.size + 1 → (((w2.setCell ⟨w.heap.size + 1, i * 3, none⟩ v0).setCell ⟨w.heap.size + 1, i * 3 + 1, none⟩ v1).setCell ⟨w.heap.size + 1, i * 3 + 2, none⟩ v2).heap[k]? = w2.heap[k]? := fun k hk => (Below.heap_setCell _ _ _ _ hk).trans ((Below.heap_setCell _ _ _ _ hk).trans (Below.heap_setCell _ _ _ _ hk))
        exact ⟨(World.cell?_of_block (w := w2) (hh (w.heap.size + 1 + 1) (by omega))).trans (HSB.out w2 h2).1, (World.cell?_of_block (w := w2) (hh g (by have := HGG.out; omega))).trans (HSB.out w2 h2).2⟩)
      have cs0 := HSB.out wr (Below.refl _ _)
      have HVV := hid_of hvv
      clear hlt hu HY CALL hvv
      go_wp2
      go_region_held3 (fun wz => wz.cell? ⟨w.heap.size + 1 + 1, 1, none⟩ = some (.slice (some ⟨w.heap.size + 1, 0, none⟩) nk nk) ∧ wz.cell? ⟨g, o + 11, none⟩ = some (.slice (some ⟨gk, qk, none⟩) nk ck)) (first | exact cs0 | exact cs2 | exact k9 _ _ _ | go_keep) (first
        | (go_at_call 18; ((with_reducible refine (CI.out _ (by first | exact redrew HJB.out | exact HJB.out)).mono ?_); (rintro e w2 ⟨xa, xm, xc, rfl, hn, h2⟩); (rw [← HVV.out]); (have HB2 := hid_of (undrew h2)); (have HN2 := hid_of hn); (have cs2 := HSB.out w2 HB2.out); (have k9 := HSS.out w2 HB2.out); (obtain ⟨⟨p0, p1, p2, q0, q1, q2⟩, r0, r1, r2⟩ := HSP.out w2 HB2.out); clear h2 hn)))
      go_wp2
      go_roundw
      case rel => exact ⟨i + 1, by go_num, HLT.out, hid_of (by have hz := HST.out wr w2 xa xm xc HJ.out HB2.out HN2.out; rw [← HVV.out] at hz; exact hz)⟩
      case measure => have := HLT.out; simp [intOf]; omega
    · have d1 : decide (i < nk) = false := decide_eq_false hlt
      obtain rfl : i = nk := by omega
      have VC := hid_of (vary_any (w.heap.size + 1 + 1) 0 g o _ t (some ⟨w.heap.size + 1, 0, none⟩) i i w0 (w.heap.size + 1) wr (HGL.out.at HJB.out) HJ.out.box.1 HJ.out.box.2.1 (HXW.out.at HJB.out) (HJ.out.nds HNK.out HN9.out))
      have HE : Hid (∀ w2, Below wr.heap.size wr w2 → JI w w0 g o i t i w2) := hid_of (fun w2 h2 => HJ.out.call h2)
      obtain ⟨vv, hvv⟩ : ∃ vv, vv = vary t := ⟨_, rfl⟩
      rw [← hvv] at VC
      have HVV := hid_of hvv
      have HBX : Hid (∀ w2, Below wr.heap.size wr w2 → w2.cell? ⟨w.heap.size + 1 + 1, 0, none⟩ = some (.pointer (some ⟨g, o, none⟩)) ∧ w2.cell? ⟨w.heap.size + 1 + 1, 1, none⟩ = some (.slice (some ⟨w.heap.size + 1, 0, none⟩) i i) ∧ w2.cell? ⟨w.heap.size + 1 + 1, 2, none⟩ = some (.int .i64 0) ∧ w2.frozen? ⟨w.heap.size + 1 + 1, 2, none⟩ = false) := hid_of (fun w2 h2 => (HE.out w2 h2).box)
      have HRS : Hid (∀ w2, Below wr.heap.size wr w2 → _) := hid_of (fun w2 h2 => (HE.out w2 h2).res (.int .i64 vv))
      clear hvv hlt
      go_wp2_with (go_at_call 21; ((with_reducible refine (VC.out).mono ?_); (rintro e w2 ⟨rfl, h2⟩); (have H2 := hid_of h2); (obtain ⟨p0, p1, p2, p3⟩ := HBX.out w2 h2); (obtain ⟨q0, q1, q2, q3, q4, q5⟩ := HRS.out w2 h2); clear h2))
      have hz := (HE.out w2 H2.out).done HNK.out HN9.out vv
      refine bodyPost_ret (results_cell_row rfl _ _ w.heap.size 50 #[.pointer (some ⟨g, o, none⟩), .slice (some ⟨w.heap.size + 1, 0, none⟩) i i, .int .i64 vv] (0, 0) _ rfl hz.1 Tryd.underlying50 rfl nodeSize) rfl ⟨_, _, _, by rw [HVV.out], hz.2.1, hz.2.2⟩
end Go.Proofs.YtdacalplnggnoaaDoor
