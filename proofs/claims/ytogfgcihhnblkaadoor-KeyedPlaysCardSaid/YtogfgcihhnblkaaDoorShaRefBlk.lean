/- The reference's block. Bounds on the words. -/
import Derived.Test.YtogfgcihhnblkaaDoorShaRefCon
namespace Go.Proofs.YtogfgcihhnblkaaDoor
open Go.RowKit

theorem rrot_at (x : Int) (m : Int) (n : Nat) (w : World) (hx : W32 x) (hm : m = n) (hn : 1 ≤ n) (hn2 : n ≤ 31) :
    Calls Tryd.prog 48 #[.int .u32 x, .int .u64 m] w fun e w' => e = .returned (.int .u32 (rot x n)) ∧ w = w' := by
  subst hm; exact rrotr_any x n w hx.1 hx.2 hn hn2

/-- Where the reference's block stands: the box of the state, the result's block, the words. -/
structure RefW (w w2 : World) (s : R8) (l : List Int) : Prop where
  box : w2.heap[w.heap.size]? = some (.cells s.vals 66 (0, 0))
  res : w2.heap[w.heap.size + 1]? = some (.cells (ws (List.replicate 8 0)).toArray 66 (0, 0))
  row : Wrow w2 (w.heap.size + 2) l
  bel : Below w.heap.size w w2
  sz : w.heap.size + 2 < w2.heap.size
theorem RefW.drew {w w2 : World} {s : R8} {l : List Int} (h : RefW w w2 s l) : RefW w w2.drew s l := ⟨h.box, h.res, h.row, h.bel.drew, h.sz⟩
theorem RefW.drewN {w w2 : World} {s : R8} {l : List Int} (h : RefW w w2 s l) (n : Nat) : RefW w (w2.drewN n) s l := ⟨h.box, h.res, h.row, ⟨h.bel.os, h.bel.tape, h.bel.output, h.bel.size, h.bel.block⟩, h.sz⟩
theorem RefW.set {w w2 : World} {s : R8} {l l' : List Int} {k : Nat} {z : Int} (h : RefW w w2 s l) (hk : l.length = k) (hk2 : k < 64) (hz : W32 z) (hl' : l' = l ++ [z]) : RefW w (w2.setCell ⟨w.heap.size + 2, k, none⟩ (.int .u32 z)) s l' :=
  ⟨(Below.heap_setCell _ _ _ _ (by show w.heap.size ≠ w.heap.size + 2; omega)).trans h.box, (Below.heap_setCell _ _ _ _ (by show w.heap.size + 1 ≠ w.heap.size + 2; omega)).trans h.res, h.row.set hk hk2 hz hl', h.bel.setCell (by show w.heap.size ≤ w.heap.size + 2; omega) _, by have := h.sz; show _ < (w2.heap.modify _ _).size; rw [Array.size_modify]; exact this⟩
theorem refw_start (w : World) (s : R8) : RefW w (((w.alloc (.cells s.vals 66)).alloc (.cells (ws (List.replicate 8 0)).toArray 66)).alloc (.cells (ws (List.replicate 64 0)).toArray 80)) s [] := by
  refine ⟨?_, ?_, ⟨by simp, by simp, ?_⟩, (bel_two _ _).alloc (by simp; omega) _, by simp⟩
  · rw [Below.heap_alloc _ _ _ (by simp; omega), heap_alloc2_old]
  · rw [Below.heap_alloc _ _ _ (by simp), heap_alloc2_new]
  · have := heap_alloc_new ((w.alloc (.cells s.vals 66)).alloc (.cells (ws (List.replicate 8 0)).toArray 66)) (.cells (ws (List.replicate 64 0)).toArray 80)
    simpa using this

theorem Wrow.later {w w' : World} {g : Nat} {l : List Int} (h : Wrow w g l) (hb : Below w.heap.size w w') : Wrow w' g l := ⟨h.1, h.2.1, (hb.block g (lt_of_block h.2.2)).trans h.2.2⟩
theorem RefW.later {w w1 w2 : World} {s : R8} {l : List Int} (h : RefW w w1 s l) (hb : Below w1.heap.size w1 w2) : RefW w w2 s l :=
  ⟨(hb.block _ (lt_of_block h.box)).trans h.box, (hb.block _ (lt_of_block h.res)).trans h.res, h.row.later hb, h.bel.trans (hb.mono h.bel.size), Nat.lt_of_lt_of_le h.sz hb.size⟩
/-- The constants beside them. -/
structure RefK (w w2 : World) (s : R8) (l : List Int) (g : Nat) (kon : Array Value) : Prop where
  base : RefW w w2 s l
  krow : w2.heap[g]? = some (.cells kon 80 (0, 0))
theorem refk_start {w w1 w2 : World} {s : R8} {l : List Int} {kon : Array Value} (h : RefW w w1 s l) (hb : Below w1.heap.size w1 w2) : RefK w (w2.alloc (.cells kon 80)) s l w2.heap.size kon :=
  ⟨(h.later hb).later (bel_alloc _ _), heap_alloc_new _ _⟩
theorem RefW.boxes {w w2 : World} {s : R8} {l : List Int} (h : RefW w w2 s l) :
    w2.cell? ⟨w.heap.size, 0, none⟩ = some (.int .u32 s.a) ∧ w2.cell? ⟨w.heap.size, 1, none⟩ = some (.int .u32 s.b) ∧ w2.cell? ⟨w.heap.size, 2, none⟩ = some (.int .u32 s.c) ∧ w2.cell? ⟨w.heap.size, 3, none⟩ = some (.int .u32 s.d) ∧
    w2.cell? ⟨w.heap.size, 4, none⟩ = some (.int .u32 s.e) ∧ w2.cell? ⟨w.heap.size, 5, none⟩ = some (.int .u32 s.f) ∧ w2.cell? ⟨w.heap.size, 6, none⟩ = some (.int .u32 s.g) ∧ w2.cell? ⟨w.heap.size, 7, none⟩ = some (.int .u32 s.h) := by
  have q := fun j => cell_of_row _ _ j _ _ _ h.box
  exact ⟨q 0, q 1, q 2, q 3, q 4, q 5, q 6, q 7⟩

/-- The working variables beside them. -/
structure RefV (w w2 : World) (s : R8) (l : List Int) (gk : Nat) (kon : Array Value) (gv : Nat) (r : R8) : Prop where
  base : RefK w w2 s l gk kon
  vrow : w2.heap[gv]? = some (.cells r.vals 66 (0, 0))
  hk : w.heap.size + 2 < gk
  hv : gk < gv
theorem refv_start {w w2 : World} {s : R8} {l : List Int} {kon : Array Value} {gk : Nat} (h : RefK w w2 s l gk kon) (hk : w.heap.size + 2 < gk) : RefV w (w2.alloc (.cells s.vals 66)) s l gk kon w2.heap.size s :=
  ⟨⟨h.base.later (bel_alloc _ _), ((bel_alloc _ _).block _ (lt_of_block h.krow)).trans h.krow⟩, heap_alloc_new _ _, hk, lt_of_block h.krow⟩
theorem RefV.drewN {w w2 : World} {s : R8} {l : List Int} {gk gv : Nat} {kon : Array Value} {r : R8} (h : RefV w w2 s l gk kon gv r) (n : Nat) : RefV w (w2.drewN n) s l gk kon gv r :=
  ⟨⟨h.base.base.drewN n, h.base.krow⟩, h.vrow, h.hk, h.hv⟩
theorem RefV.setRow {w w2 : World} {s : R8} {l : List Int} {gk gv : Nat} {kon : Array Value} {r r2 : R8} {cs : Array Value} (h : RefV w w2 s l gk kon gv r) (hc : cs = r2.vals) : RefV w (w2.setRow gv cs) s l gk kon gv r2 := by
  subst hc
  have hk := h.hk
  have hv := h.hv
  have ho : ∀ k, k ≠ gv → (w2.setRow gv r2.vals).heap[k]? = w2.heap[k]? := fun k hk => setRow_other w2 gv k _ hk
  refine ⟨⟨⟨(ho _ (by omega)).trans h.base.base.box, (ho _ (by omega)).trans h.base.base.res, ⟨h.base.base.row.1, h.base.base.row.2.1, (ho _ (by omega)).trans h.base.base.row.2.2⟩, below_setRow h.base.base.bel (by omega) _, by have := h.base.base.sz; simpa using this⟩, (ho _ (by omega)).trans h.base.krow⟩, setRow_heap _ _ _ _ _ _ h.vrow, h.hk, h.hv⟩
theorem RefV.vs {w w2 : World} {s : R8} {l : List Int} {gk gv : Nat} {kon : Array Value} {r : R8} (h : RefV w w2 s l gk kon gv r) :
    w2.cell? ⟨gv, 0, none⟩ = some (.int .u32 r.a) ∧ w2.cell? ⟨gv, 1, none⟩ = some (.int .u32 r.b) ∧ w2.cell? ⟨gv, 2, none⟩ = some (.int .u32 r.c) ∧ w2.cell? ⟨gv, 3, none⟩ = some (.int .u32 r.d) ∧
    w2.cell? ⟨gv, 4, none⟩ = some (.int .u32 r.e) ∧ w2.cell? ⟨gv, 5, none⟩ = some (.int .u32 r.f) ∧ w2.cell? ⟨gv, 6, none⟩ = some (.int .u32 r.g) ∧ w2.cell? ⟨gv, 7, none⟩ = some (.int .u32 r.h) := by
  have q := fun j => cell_of_row _ _ j _ _ _ h.vrow
  exact ⟨q 0, q 1, q 2, q 3, q 4, q 5, q 6, q 7⟩
theorem RefV.kc {w w2 : World} {s : R8} {l : List Int} {gk gv : Nat} {r : R8} {t : Nat} (h : RefV w w2 s l gk (ws KON).toArray gv r) (ht : t < 64) : w2.cell? ⟨gk, t, none⟩ = some (.int .u32 (KON.getD t 0)) := by
  rw [cell_of_row _ _ _ _ _ _ h.base.krow]
  have hl : KON.length = 64 := rfl
  simp [ws, List.getD, List.getElem?_eq_getElem (show t < KON.length by omega)]

theorem vals_eq {a b c d e f g h a2 b2 c2 d2 e2 f2 g2 h2 : Int} (ha : a = a2) (hb : b = b2) (hc : c = c2) (hd : d = d2) (he : e = e2) (hf : f = f2) (hg : g = g2) (hh : h = h2) :
    (#[.int .u32 a, .int .u32 b, .int .u32 c, .int .u32 d, .int .u32 e, .int .u32 f, .int .u32 g, .int .u32 h] : Array Value) = #[.int .u32 a2, .int .u32 b2, .int .u32 c2, .int .u32 d2, .int .u32 e2, .int .u32 f2, .int .u32 g2, .int .u32 h2] := by
  subst ha hb hc hd he hf hg hh; rfl
def lst (s : R8) : List Int := [s.a, s.b, s.c, s.d, s.e, s.f, s.g, s.h]
theorem lst_vals (s : R8) : (ws (lst s)).toArray = s.vals := rfl
/-- The sums of the first i words. -/
def sumL (sl rl : List Int) (i : Nat) : List Int := (List.range 8).map fun j => if j < i then ad (sl.getD j 0) (rl.getD j 0) else rl.getD j 0
theorem sumL_zero (sl : List Int) (r : R8) : sumL sl (lst r) 0 = lst r := rfl
theorem sumL_at (sl rl : List Int) {i : Nat} (h : i < 8) : (sumL sl rl i)[i]? = some (rl.getD i 0) := by simp [sumL, h]
theorem sumL_set (sl rl : List Int) {i : Nat} (h : i < 8) : (sumL sl rl i).set i (ad (sl.getD i 0) (rl.getD i 0)) = sumL sl rl (i + 1) := by
  apply List.ext_getElem
  · simp [sumL]
  · intro j h1 h2
    simp [sumL] at h1 h2
    simp only [sumL, List.getElem_set, List.getElem_map, List.getElem_range]
    by_cases e : i = j
    · subst e; simp
    · by_cases hj : j < i
      · simp [e, hj, show j < i + 1 by omega]
      · simp [e, hj, show ¬ j < i + 1 by omega]
theorem sumL_all (s r : R8) : (ws (sumL (lst s) (lst r) 8)).toArray = (R8.mk (ad s.a r.a) (ad s.b r.b) (ad s.c r.c) (ad s.d r.d) (ad s.e r.e) (ad s.f r.f) (ad s.g r.g) (ad s.h r.h)).vals := rfl
theorem rb_setCell {w : World} {g k t : Nat} {cur : List Value} {u : Value} (h : w.heap[g]? = some (.cells cur.toArray t (0, 0))) :
    (w.setCell ⟨g, k, none⟩ u).heap[g]? = some (.cells (cur.set k u).toArray t (0, 0)) := by
  have hlt := lt_of_block h
  have h' : w.heap[g] = .cells cur.toArray t (0, 0) := by simpa [Array.getElem?_eq_getElem hlt] using h
  show (w.heap.modify g _)[g]? = _
  rw [Array.getElem?_eq_getElem (by simpa using hlt), Array.getElem_modify_self, h']
  simp
/-- Where the last loop stands. -/
structure RefS (w w2 : World) (s : R8) (gv : Nat) (vl : List Int) : Prop where
  box : w2.heap[w.heap.size]? = some (.cells s.vals 66 (0, 0))
  res : w2.heap[w.heap.size + 1]? = some (.cells (ws (List.replicate 8 0)).toArray 66 (0, 0))
  vrow : w2.heap[gv]? = some (.cells (ws vl).toArray 66 (0, 0))
  bel : Below w.heap.size w w2
  hv : w.heap.size + 1 < gv
theorem RefS.set {w w2 : World} {s : R8} {gv i : Nat} {vl vl2 : List Int} {z : Int} (h : RefS w w2 s gv vl) (he : vl.set i z = vl2) : RefS w (w2.setCell ⟨gv, i, none⟩ (.int .u32 z)) s gv vl2 := by
  subst he
  have hv := h.hv
  refine ⟨(Below.heap_setCell _ _ _ _ (by show w.heap.size ≠ gv; omega)).trans h.box, (Below.heap_setCell _ _ _ _ (by show w.heap.size + 1 ≠ gv; omega)).trans h.res, ?_, h.bel.setCell (by show w.heap.size ≤ gv; omega) _, h.hv⟩
  have := rb_setCell (k := i) (u := .int .u32 z) h.vrow
  rw [this]; congr 2; simp [ws, List.map_set]
theorem RefS.drew {w w2 : World} {s : R8} {gv : Nat} {vl : List Int} (h : RefS w w2 s gv vl) : RefS w w2.drew s gv vl := ⟨h.box, h.res, h.vrow, h.bel.drew, h.hv⟩

set_option maxRecDepth 100000 in
set_option maxHeartbeats 2400000 in
theorem rblock_any (s : R8) (b o cap : Nat) (B : List Int) (w : World) (hs : s.ok) (h : Bytes64 w b o B) :
    Calls Tryd.prog 41 #[.agg s.vals, .slice (some ⟨b, o, none⟩) 64 cap] w fun e w' => e = .returned (.agg (mixF s B).vals) ∧ Below w.heap.size w w' := by
  have HB := hid_of h
  have hb : b < w.heap.size := h.lt
  have HS := hid_of hs
  have HST := hid_of (refw_start w s)
  clear h hs
  unfold R8.vals
  go_enter Tryd.func41, Tryd.ntmps41
  go_wp2
  go_loopw [6] (fun iv wr => ∃ k : Nat, k ≤ 16 ∧ iv = .int .i64 k ∧ Hid (RefW w wr s (ext0 B k))) (fun i _ => 16 - (intOf i).toNat)
  case atStart => exact ⟨0, by omega, rfl, HST⟩
  case round =>
    obtain ⟨k, hk, rfl, hrow⟩ := hrel
    by_cases hlt : k < 16
    · go_wp2
      obtain ⟨m0, hm0⟩ : ∃ m : Nat, m = 4 * k := ⟨_, rfl⟩
      obtain ⟨m1, hm1⟩ : ∃ m : Nat, m = m0 + 1 := ⟨_, rfl⟩
      obtain ⟨m2, hm2⟩ : ∃ m : Nat, m = m0 + 2 := ⟨_, rfl⟩
      obtain ⟨m3, hm3⟩ : ∃ m : Nat, m = m0 + 3 := ⟨_, rfl⟩
      obtain ⟨y0, e0, l0, u0, d0⟩ := HB.out m0 (by omega)
      have c0 := (hrow.out.bel.cell (p := ⟨b, o + m0, none⟩) hb).trans d0
      clear d0
      obtain ⟨y1, e1, l1, u1, d1⟩ := HB.out m1 (by omega)
      have c1 := (hrow.out.bel.cell (p := ⟨b, o + m1, none⟩) hb).trans d1
      clear d1
      obtain ⟨y2, e2, l2, u2, d2⟩ := HB.out m2 (by omega)
      have c2 := (hrow.out.bel.cell (p := ⟨b, o + m2, none⟩) hb).trans d2
      clear d2
      obtain ⟨y3, e3, l3, u3, d3⟩ := HB.out m3 (by omega)
      have c3 := (hrow.out.bel.cell (p := ⟨b, o + m3, none⟩) hb).trans d3
      clear d3
      have b0 : (m0 : Int) < 64 := by omega
      have b1 : (m1 : Int) < 64 := by omega
      have b2 : (m2 : Int) < 64 := by omega
      have b3 : (m3 : Int) < 64 := by omega
      have E0 := hid_of e0
      have E1 := hid_of e1
      have E2 := hid_of e2
      have E3 := hid_of e3
      have M0 := hid_of hm0
      have M1 := hid_of hm1
      have M2 := hid_of hm2
      have M3 := hid_of hm3
      have bk : (k : Int) < 64 := by omega
      have hnx := hrow.out.drew.row.next (by rw [ext0_length]; omega)
      rw [ext0_length] at hnx
      obtain ⟨hcell, hfree⟩ := hnx
      have hrow2 : Hid (RefW w wr.drew s (ext0 B k)) := hid_of hrow.out.drew
      have s0 : IntKind.i64.wrap (4 * (k : Int)) = (m0 : Int) := by rw [IntWalk.i64_in _ (by omega)]; omega
      have s1 : IntKind.i64.wrap ((m0 : Int) + 1) = (m1 : Int) := by rw [IntWalk.i64_in _ (by omega)]; omega
      have s2 : IntKind.i64.wrap ((m0 : Int) + 2) = (m2 : Int) := by rw [IntWalk.i64_in _ (by omega)]; omega
      have s3 : IntKind.i64.wrap ((m0 : Int) + 3) = (m3 : Int) := by rw [IntWalk.i64_in _ (by omega)]; omega
      clear e0 e1 e2 e3 hm0 hm1 hm2 hm3
      go_still_tail 35, (by kernel_rfl)
      clear s0 s1 s2 s3
      change wpList _ _ _ _ _ wr.drew
      generalize wr.drew = w2 at *
      go_wp2
      go_roundw
      case rel => exact ⟨k + 1, by omega, by go_num, hid_of (hrow2.out.set (ext0_length B k) (by omega) (bits_w32 _ _ _) (by rw [ext0_succ]; congr 2; exact (be32_at M0.out M1.out M2.out M3.out E0.out E1.out E2.out E3.out).symm))⟩
      case measure => simp [intOf]; omega
    · have hk16 : k = 16 := by omega
      rw [hk16] at hrow
      clear hk16
      go_wp2
      go_loopw [7] (fun iv wr => ∃ k : Nat, k ≤ 48 ∧ iv = .int .i64 ((16 + k : Nat) : Int) ∧ Hid (RefW w wr s (extN k (ext0 B 16)))) (fun i _ => 64 - (intOf i).toNat)
      case atStart => exact ⟨0, by omega, rfl, hrow⟩
      case round =>
        obtain ⟨k, hk, rfl, hrow⟩ := hrel
        obtain ⟨l, hl⟩ : ∃ l, l = extN k (ext0 B 16) := ⟨_, rfl⟩
        rw [← hl] at hrow
        have hll : l.length = 16 + k := by rw [hl, extN_length, ext0_length]
        obtain ⟨m, hm⟩ : ∃ m : Nat, m = 16 + k := ⟨_, rfl⟩
        rw [← hm]
        have HL := hid_of hl
        have HLL : Hid (l.length = m) := hid_of (by omega)
        have HM := hid_of hm
        have hm1 : 16 ≤ m := by omega
        have hm2 : m ≤ 64 := by omega
        clear hl hll hm
        by_cases hlt : m < 64
        · obtain ⟨p2, hp2⟩ : ∃ p : Nat, p = m - 2 := ⟨_, rfl⟩
          obtain ⟨p7, hp7⟩ : ∃ p : Nat, p = m - 7 := ⟨_, rfl⟩
          obtain ⟨p15, hp15⟩ : ∃ p : Nat, p = m - 15 := ⟨_, rfl⟩
          obtain ⟨p16, hp16⟩ : ∃ p : Nat, p = m - 16 := ⟨_, rfl⟩
          obtain ⟨c2, v2⟩ := hrow.out.row.cell (j := p2) (by rw [HLL.out]; omega)
          obtain ⟨c7, v7⟩ := hrow.out.row.cell (j := p7) (by rw [HLL.out]; omega)
          obtain ⟨c15, v15⟩ := hrow.out.row.cell (j := p15) (by rw [HLL.out]; omega)
          obtain ⟨c16, v16⟩ := hrow.out.row.cell (j := p16) (by rw [HLL.out]; omega)
          obtain ⟨x2, hx2⟩ : ∃ x, x = l.getD p2 0 := ⟨_, rfl⟩
          obtain ⟨x7, hx7⟩ : ∃ x, x = l.getD p7 0 := ⟨_, rfl⟩
          obtain ⟨x15, hx15⟩ : ∃ x, x = l.getD p15 0 := ⟨_, rfl⟩
          obtain ⟨x16, hx16⟩ : ∃ x, x = l.getD p16 0 := ⟨_, rfl⟩
          rw [← hx2] at c2 v2
          rw [← hx7] at c7 v7
          rw [← hx15] at c15 v15
          rw [← hx16] at c16 v16
          have P2 := hid_of hp2
          have P7 := hid_of hp7
          have P15 := hid_of hp15
          have P16 := hid_of hp16
          have X2 := hid_of hx2
          have X7 := hid_of hx7
          have X15 := hid_of hx15
          have X16 := hid_of hx16
          have V2 := hid_of v2
          have V15 := hid_of v15
          obtain ⟨v2a, v2b⟩ := v2
          obtain ⟨v7a, v7b⟩ := v7
          obtain ⟨v15a, v15b⟩ := v15
          obtain ⟨v16a, v16b⟩ := v16
          have b2 : (p2 : Int) < 64 := by omega
          have b7 : (p7 : Int) < 64 := by omega
          have b15 : (p15 : Int) < 64 := by omega
          have b16 : (p16 : Int) < 64 := by omega
          have bm : (m : Int) < 64 := by omega
          have s2 : IntKind.i64.wrap ((m : Int) - 2) = (p2 : Int) := by rw [IntWalk.i64_in _ (by omega)]; omega
          have s7 : IntKind.i64.wrap ((m : Int) - 7) = (p7 : Int) := by rw [IntWalk.i64_in _ (by omega)]; omega
          have s15 : IntKind.i64.wrap ((m : Int) - 15) = (p15 : Int) := by rw [IntWalk.i64_in _ (by omega)]; omega
          have s16 : IntKind.i64.wrap ((m : Int) - 16) = (p16 : Int) := by rw [IntWalk.i64_in _ (by omega)]; omega
          clear hp2 hp7 hp15 hp16 hx2 hx7 hx15 hx16
          have S7 := hid_of s7
          have S16 := hid_of s16
          go_wp2
          go_quiet (fail)
          clear s2 s15
          go_wp2_with (go_at_call 48; (first
            | ((with_reducible refine (rrot_at x15 7 7 _ V15.out rfl (by omega) (by omega)).mono ?_); (rintro e w' ⟨rfl, rfl⟩))
            | ((with_reducible refine (rrot_at x15 18 18 _ V15.out rfl (by omega) (by omega)).mono ?_); (rintro e w' ⟨rfl, rfl⟩))
            | ((with_reducible refine (rrot_at x2 17 17 _ V2.out rfl (by omega) (by omega)).mono ?_); (rintro e w' ⟨rfl, rfl⟩))
            | ((with_reducible refine (rrot_at x2 19 19 _ V2.out rfl (by omega) (by omega)).mono ?_); (rintro e w' ⟨rfl, rfl⟩))))
          have hrow2 : Hid (RefW w (wr.drewN nq) s l) := hid_of (hrow.out.drewN nq)
          clear c2 c7 c15 c16
          have E0 : bits BinOp.xor IntKind.u32 (bits BinOp.xor IntKind.u32 (rot x15 7) (rot x15 18)) (x15 / 8) = lo0 x15 := rfl
          have E1 : bits BinOp.xor IntKind.u32 (bits BinOp.xor IntKind.u32 (rot x2 17) (rot x2 19)) (x2 / 1024) = lo1 x2 := rfl
          rw [E0, E1]
          clear E0 E1
          have w0 := lo0_w x15
          have w1 := lo1_w x2
          generalize hz0 : lo0 x15 = z0 at *
          generalize hz1 : lo1 x2 = z1 at *
          have Z0 := hid_of hz0
          have Z1 := hid_of hz1
          clear hz0 hz1
          obtain ⟨w0a, w0b⟩ := w0
          obtain ⟨w1a, w1b⟩ := w1
          generalize wr.drewN nq = w3 at *
          have c7 := (hrow2.out.row.cell (j := p7) (by rw [HLL.out]; have := P7.out; omega)).1
          have c16 := (hrow2.out.row.cell (j := p16) (by rw [HLL.out]; have := P16.out; omega)).1
          rw [← X7.out] at c7
          rw [← X16.out] at c16
          have hnx := hrow2.out.drew.row.next (by rw [HLL.out]; exact hlt)
          rw [HLL.out] at hnx
          obtain ⟨hcell, hfree⟩ := hnx
          have hrow3 : Hid (RefW w w3.drew s l) := hid_of hrow2.out.drew
          have s7 := S7.out
          have s16 := S16.out
          go_still_tail 15, (by kernel_rfl)
          clear s7 s16
          change wpList _ _ _ _ _ w3.drew
          generalize w3.drew = w4 at *
          go_wp2
          go_roundw
          case rel =>
            refine ⟨k + 1, by have := HM.out; omega, by have := HM.out; subst this; go_num, ?_⟩
            refine hid_of (hrow3.out.set HLL.out hlt ?_ ?_)
            · exact ad_w _ _
            · rw [extN, ← HL.out, nextW, HLL.out, ← P2.out, ← P7.out, ← P15.out, ← P16.out, ← X2.out, ← X7.out, ← X15.out, ← X16.out, Z0.out, Z1.out]
              congr 2
              unfold ad
              omega
          case measure => simp [intOf]; omega
        · have hm64 : m = 64 := by omega
          have hdm : decide ((m : Int) < 64) = false := by simp; omega
          have HEQ : Hid (extW B = l) := hid_of (by
            have := HM.out
            obtain rfl : k = 48 := by omega
            exact HL.out.symm)
          clear hm64
          have HR := hid_of (show RefW w wr s (extW B) by rw [HEQ.out]; exact hrow.out)
          clear hlt hrow HLL HL
          obtain ⟨kon, hkon⟩ : ∃ kon, kon = (ws KON).toArray := ⟨_, rfl⟩
          have HKON := hid_of hkon
          have HKSZ : Hid (kon.size = 64) := hid_of (by rw [hkon]; rfl)
          have HKI : Hid ((Tryd.prog.info? 80).map (·.size) = some kon.size) := hid_of (by rw [HKSZ.out]; exact Tryd.info64)
          have HK1 : Hid (kon.all (·.oneCell') = true) := hid_of (by rw [hkon]; exact ws_one _)
          have HKC : Hid (∀ w, Calls Tryd.prog 49 #[] w fun e w' => e = .returned (.agg kon) ∧ Below w.heap.size w w') := hid_of (fun w => by rw [hkon]; exact rconst_any w)
          clear hkon
          go_wp2_with (first
            | (go_at_call 49; ((with_reducible refine (HKC.out wr).mono ?_); (rintro e w1 ⟨rfl, h1⟩; have HB1 := hid_of h1; clear h1)))
            | (refine wpList_store_fresh rfl 80 (.tmp 12) (.tmp 105) rfl _ kon rfl rfl rfl _ HKI.out (by rw [HKSZ.out]; rfl) HK1.out ?_; (have HK := hid_of (refk_start (kon := kon) HR.out HB1.out); (generalize w1.alloc (.cells kon 80) = w2 at *); obtain ⟨q0, q1, q2, q3, q4, q5, q6, q7⟩ := HK.out.base.boxes)))
          clear q0 q1 q2 q3 q4 q5 q6 q7
          have HV0 := hid_of (refv_start HK.out (Nat.lt_of_lt_of_le HR.out.sz HB1.out.size))
          go_loopw [14] (fun iv wr => ∃ (t : Nat) (r : R8), t ≤ 64 ∧ iv = .int .i64 t ∧ Hid (r = rnds (extW B) t s) ∧ Hid (RefV w wr s (extW B) w1.heap.size kon w2.heap.size r)) (fun iv _ => 64 - (intOf iv).toNat)
          case atStart => exact ⟨0, s, by omega, rfl, hid_of rfl, HV0⟩
          case round =>
            obtain ⟨t, r, ht, rfl, hr, hv⟩ := hrel
            have hok : r.ok := by rw [hr.out]; exact rnds_ok _ _ _ HS.out
            have HOK := hid_of hok
            obtain ⟨oa, ob, oc, od, oe, of, og, oh⟩ := id hok
            have OA := hid_of oa
            have OE := hid_of oe
            obtain ⟨oa0, oa1⟩ := oa
            obtain ⟨ob0, ob1⟩ := ob
            obtain ⟨oc0, oc1⟩ := oc
            obtain ⟨od0, od1⟩ := od
            obtain ⟨oe0, oe1⟩ := oe
            obtain ⟨of0, of1⟩ := of
            obtain ⟨og0, og1⟩ := og
            obtain ⟨oh0, oh1⟩ := oh
            clear hok
            by_cases hlt : t < 64
            · have kc := (show RefV w wr s (extW B) w1.heap.size (ws KON).toArray w2.heap.size r by rw [← HKON.out]; exact hv.out).kc hlt
              have kw := kon_w t
              obtain ⟨kv, hkv⟩ : ∃ kv, kv = KON.getD t 0 := ⟨_, rfl⟩
              rw [← hkv] at kc kw
              have wc := (hv.out.base.base.row.cell (j := t) (by rw [extW_length]; exact hlt)).1
              have ww := extW_w B t
              obtain ⟨wv, hwv⟩ : ∃ wv, wv = (extW B).getD t 0 := ⟨_, rfl⟩
              rw [← hwv] at wc ww
              have HKV := hid_of hkv
              have HWV := hid_of hwv
              have bt : (t : Int) < 64 := by omega
              obtain ⟨kw0, kw1⟩ := kw
              obtain ⟨ww0, ww1⟩ := ww
              obtain ⟨q0, q1, q2, q3, q4, q5, q6, q7⟩ := hv.out.vs
              have hsg : IntKind.u32.signed = false := rfl
              clear hkv hwv
              go_wp2
              go_quiet (fail)
              go_wp2_with (go_at_call 48; (first
                | ((with_reducible refine (rrot_at r.e 6 6 _ OE.out rfl (by omega) (by omega)).mono ?_); (rintro e w' ⟨rfl, rfl⟩))
                | ((with_reducible refine (rrot_at r.e 11 11 _ OE.out rfl (by omega) (by omega)).mono ?_); (rintro e w' ⟨rfl, rfl⟩))
                | ((with_reducible refine (rrot_at r.e 25 25 _ OE.out rfl (by omega) (by omega)).mono ?_); (rintro e w' ⟨rfl, rfl⟩))))
              have E1 : bits BinOp.xor IntKind.u32 (bits BinOp.xor IntKind.u32 (rot r.e 6) (rot r.e 11)) (rot r.e 25) = up1 r.e := rfl
              have E2 : bits BinOp.xor IntKind.u32 (bits BinOp.and IntKind.u32 r.e r.f) (bits BinOp.and IntKind.u32 (bits BinOp.xor IntKind.u32 IntKind.u32.max r.e) r.g) = cho r.e r.f r.g := rfl
              rw [E1, E2]
              clear E1 E2
              have hu := up1_w r.e
              have hc := cho_w r.e r.f r.g
              obtain ⟨U, hU⟩ : ∃ U, U = up1 r.e := ⟨_, rfl⟩
              obtain ⟨C, hC⟩ : ∃ C, C = cho r.e r.f r.g := ⟨_, rfl⟩
              rw [← hU] at hu ⊢
              rw [← hC] at hc ⊢
              have HU := hid_of hU
              have HC := hid_of hC
              clear hU hC
              obtain ⟨hu0, hu1⟩ := hu
              obtain ⟨hc0, hc1⟩ := hc
              clear hsg
              go_quiet (fail)
              go_wp2_with (first
                | (go_at_call 48; (first
                  | ((with_reducible refine (rrot_at r.a 2 2 _ OA.out rfl (by omega) (by omega)).mono ?_); (rintro e w' ⟨rfl, rfl⟩))
                  | ((with_reducible refine (rrot_at r.a 13 13 _ OA.out rfl (by omega) (by omega)).mono ?_); (rintro e w' ⟨rfl, rfl⟩))
                  | ((with_reducible refine (rrot_at r.a 22 22 _ OA.out rfl (by omega) (by omega)).mono ?_); (rintro e w' ⟨rfl, rfl⟩))))
                | (refine wpList_store_row rfl 66 (.tmp 13) (.tmp 189) rfl w2.heap.size _ rfl rfl 66 _ (hv.out.drewN _).vrow Tryd.info8 rfl (ok8 _ _ _ _ _ _ _ _) ?_))
              go_roundw
              case rel =>
                refine ⟨t + 1, rnd kv wv r, by omega, by go_num, hid_of (by rw [hr.out, HKV.out, HWV.out]; rfl), hid_of ((hv.out.drewN _).setRow ?_)⟩
                unfold R8.vals
                refine vals_eq ?_ rfl rfl rfl ?_ rfl rfl rfl
                · simp only [rnd, t1F, t2F]; rw [← HU.out, ← HC.out]; unfold ad up0 maj; omega
                · simp only [rnd, t1F]; rw [← HU.out, ← HC.out]; unfold ad; omega
              case measure => simp [intOf]; omega
            · have hdt : decide ((t : Int) < 64) = false := by simp; omega
              have HR64 : Hid (r = rnds (extW B) 64 s) := hid_of (by rw [hr.out, show t = 64 by omega])
              clear oa0 oa1 ob0 ob1 oc0 oc1 od0 od1 oe0 oe1 of0 of1 og0 og1 oh0 oh1
              have HV := hid_of (show RefS w wr s w2.heap.size (sumL (lst s) (lst r) 0) from ⟨hv.out.base.base.box, hv.out.base.base.res, by rw [sumL_zero, lst_vals]; exact hv.out.vrow, hv.out.base.base.bel, by have := hv.out.hk; have := hv.out.hv; omega⟩)
              go_wp2
              go_loopw [22] (fun iv wr => ∃ i : Nat, i ≤ 8 ∧ iv = .int .i64 i ∧ Hid (RefS w wr s w2.heap.size (sumL (lst s) (lst r) i))) (fun iv _ => 8 - (intOf iv).toNat)
              case atStart => exact ⟨0, by omega, rfl, HV⟩
              case round =>
                obtain ⟨i, hi, rfl, hs⟩ := hrel
                by_cases hil : i < 8
                · have c1 : wr.cell? ⟨w2.heap.size, i, none⟩ = some (.int .u32 ((lst r).getD i 0)) := by
                    rw [cell_of_row _ _ _ _ _ _ hs.out.vrow]
                    simp [ws, sumL_at _ _ hil]
                  have c2 : wr.cell? ⟨w.heap.size, i, none⟩ = some (.int .u32 ((lst s).getD i 0)) := by
                    rw [cell_of_row _ _ _ _ _ _ hs.out.box, ← lst_vals]
                    have : i < (lst s).length := hil
                    simp [ws, List.getD, this]
                  obtain ⟨x, hx⟩ : ∃ x, x = (lst r).getD i 0 := ⟨_, rfl⟩
                  obtain ⟨y, hy⟩ : ∃ y, y = (lst s).getD i 0 := ⟨_, rfl⟩
                  rw [← hx] at c1
                  rw [← hy] at c2
                  have HX := hid_of hx
                  have HY := hid_of hy
                  have f1 : wr.drew.frozen? ⟨w2.heap.size, i, none⟩ = false := frozen_of_row _ _ _ _ _ hs.out.drew.vrow
                  have c3 : wr.drew.cell? ⟨w2.heap.size, i, none⟩ = some (.int .u32 x) := c1
                  have b1 : (i : Int) < 8 := by omega
                  have HS2 := hid_of hs.out.drew
                  clear hx hy
                  go_wp2
                  go_still_tail 8, (by kernel_rfl)
                  change wpList _ _ _ _ _ wr.drew
                  generalize wr.drew = w4 at *
                  have HF : Hid (RefS w (w4.setCell ⟨w2.heap.size, i, none⟩ (.int .u32 ((x + y) % 4294967296))) s w2.heap.size (sumL (lst s) (lst r) (i + 1))) := hid_of (HS2.out.set (by
                    rw [← sumL_set _ _ hil, ← HX.out, ← HY.out, show (x + y) % 4294967296 = ad y x by unfold ad; omega]))
                  go_wp2
                  go_roundw
                  case rel =>
                    exact ⟨i + 1, by omega, by go_num, HF⟩
                  case measure => simp [intOf]; omega
                · obtain rfl : i = 8 := by omega
                  have HFIN : Hid ((ws (sumL (lst s) (lst r) 8)).toArray = (mixF s B).vals) := hid_of (by
                    rw [sumL_all]; unfold mixF; rw [← HR64.out])
                  have HROW := hid_of hs.out.vrow
                  have HRES := hid_of hs.out.res
                  have HBEL := hid_of hs.out.bel
                  obtain ⟨arr, harr⟩ : ∃ arr, arr = (ws (sumL (lst s) (lst r) 8)).toArray := ⟨_, rfl⟩
                  have HSZ : Hid (arr.size = 8) := hid_of (by rw [harr]; simp [ws, sumL])
                  have HI : Hid ((Tryd.prog.info? 66).map (·.size) = some arr.size) := hid_of (by rw [HSZ.out]; exact Tryd.info8)
                  have H1 : Hid (arr.all (·.oneCell') = true) := hid_of (by rw [harr]; exact ws_one _)
                  rw [← harr] at HFIN HROW
                  clear harr hs
                  go_wp2_with (first
                    | (refine wpList_load_row rfl 66 (.tmp 13) rfl w2.heap.size rfl 66 arr (0, 0) _ HROW.out Tryd.underlying66 rfl HI.out ?_)
                    | (refine wpList_store_row rfl 66 (.tmp 4) (.tmp 202) rfl (w.heap.size + 1) arr rfl rfl 66 _ HRES.out HI.out (by rw [HSZ.out]; rfl) H1.out ?_))
                  refine bodyPost_ret (results_cell_row rfl _ _ (w.heap.size + 1) 66 arr (0, 0) _ rfl (setRow_heap _ _ _ _ _ _ HRES.out) Tryd.underlying66 rfl HI.out) rfl ⟨?_, ?_⟩
                  · rw [HFIN.out]; rfl
                  · exact below_setRow HBEL.out (Nat.le_succ _) arr
end Go.Proofs.YtogfgcihhnblkaaDoor
