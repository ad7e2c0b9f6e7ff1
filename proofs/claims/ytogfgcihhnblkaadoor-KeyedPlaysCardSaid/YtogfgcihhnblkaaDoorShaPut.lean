/- putWord, New. Bounds on the sizes. -/
import Derived.Test.YtogfgcihhnblkaaDoorShaWriteW
namespace Go.Proofs.YtogfgcihhnblkaaDoor
open Go.RowKit

/-- The row behind a word at place o. -/
def put4 (D : List Int) (o : Nat) (x : Int) : List Int := D.take o ++ (wordBytes x ++ D.drop (o + 4))
theorem put4_length {D : List Int} {o : Nat} {x : Int} (h : o + 4 ≤ D.length) : (put4 D o x).length = D.length := by
  unfold put4 wordBytes; simp; omega
theorem set4 {D : List Int} {o : Nat} {x : Int} (h : o + 4 ≤ D.length) :
    ((((D.set o (x / 16777216 % 256)).set (o + 1) (x / 65536 % 256)).set (o + 2) (x / 256 % 256)).set (o + 3) (x % 256)) = put4 D o x := by
  have e : D = D.take o ++ D.drop o := (List.take_append_drop o D).symm
  obtain ⟨a0, a1, a2, a3, R, hR⟩ : ∃ a0 a1 a2 a3 R, D.drop o = a0 :: a1 :: a2 :: a3 :: R := by
    match hd : D.drop o with
    | [] => have := congrArg List.length hd; simp at this; omega
    | [_] => have := congrArg List.length hd; simp at this; omega
    | [_, _] => have := congrArg List.length hd; simp at this; omega
    | [_, _, _] => have := congrArg List.length hd; simp at this; omega
    | a0 :: a1 :: a2 :: a3 :: R => exact ⟨a0, a1, a2, a3, R, rfl⟩
  have hlen : (D.take o).length = o := by rw [List.length_take]; omega
  have hd4 : D.drop (o + 4) = R := by rw [← List.drop_drop, hR]; rfl
  unfold put4
  rw [hd4]
  conv => lhs; rw [e, hR]
  rw [List.set_append_right _ _ (by omega), List.set_append_right _ _ (by omega), List.set_append_right _ _ (by omega), List.set_append_right _ _ (by omega)]
  simp [hlen, wordBytes]

/-- A whole block of bytes. -/
def Brow (w : World) (g t : Nat) (D : List Int) : Prop := w.heap[g]? = some (.cells (bs D).toArray t (0, 0))
theorem Brow.cell {w : World} {g t : Nat} {D : List Int} (h : Brow w g t D) {j : Nat} (hj : j < D.length) : w.cell? ⟨g, j, none⟩ = some (.int .u8 (D.getD j 0)) := by
  rw [cell_of_row _ _ _ _ _ _ h]; simp [bs, List.getD, hj]
theorem Brow.free {w : World} {g t : Nat} {D : List Int} (h : Brow w g t D) (j : Nat) : w.frozen? ⟨g, j, none⟩ = false := frozen_of_row _ _ _ _ _ h
theorem Brow.set {w : World} {g t : Nat} {D : List Int} (h : Brow w g t D) (j : Nat) (x : Int) : Brow (w.setCell ⟨g, j, none⟩ (.int .u8 x)) g t (D.set j x) := by
  unfold Brow
  refine (heap_setCell_same _ _ _ _ _ _ h).trans (congrArg (fun x => some (Obj.cells x t (0, 0))) ?_)
  apply Array.ext'
  simp [bs, List.map_set]
theorem Brow.later {w w' : World} {g t : Nat} {D : List Int} (h : Brow w g t D) (hb : w'.heap[g]? = w.heap[g]?) : Brow w' g t D := hb.trans h
theorem Brow.lt {w : World} {g t : Nat} {D : List Int} (h : Brow w g t D) : g < w.heap.size := lt_of_block h

set_option maxHeartbeats 800000 in
theorem putWord_any (g t o n cap : Nat) (D : List Int) (x : Int) (w : World) (h : Brow w g t D) (ho : o + 4 ≤ D.length) (hn : 4 ≤ n) (hn2 : n ≤ 1000) (hx : W32 x) :
    Calls Tryd.prog 47 #[.slice (some ⟨g, o, none⟩) n cap, .int .u32 x] w fun e w' => e = .returned (.tuple #[]) ∧ Brow w' g t (put4 D o x) ∧ Kept (fun k => k = g) w w' := by
  obtain ⟨x0, x1⟩ := hx
  have c0 := h.cell (j := o) (by omega)
  have c1 := h.cell (j := o + 1) (by omega)
  have c2 := h.cell (j := o + 2) (by omega)
  have c3 := h.cell (j := o + 3) (by omega)
  have f0 := h.free o
  have f1 := h.free (o + 1)
  have f2 := h.free (o + 2)
  have f3 := h.free (o + 3)
  obtain ⟨y0, hy0⟩ : ∃ y, y = D.getD o 0 := ⟨_, rfl⟩
  obtain ⟨y1, hy1⟩ : ∃ y, y = D.getD (o + 1) 0 := ⟨_, rfl⟩
  obtain ⟨y2, hy2⟩ : ∃ y, y = D.getD (o + 2) 0 := ⟨_, rfl⟩
  obtain ⟨y3, hy3⟩ : ∃ y, y = D.getD (o + 3) 0 := ⟨_, rfl⟩
  rw [← hy0] at c0
  rw [← hy1] at c1
  rw [← hy2] at c2
  rw [← hy3] at c3
  have HB := hid_of h
  have HO := hid_of ho
  have n0 : (0 : Int) < (n : Int) := by omega
  have n1 : (1 : Int) < (n : Int) := by omega
  have n2 : (2 : Int) < (n : Int) := by omega
  have n3 : (3 : Int) < (n : Int) := by omega
  clear h hy0 hy1 hy2 hy3 ho hn hn2
  go_enter Tryd.func47, Tryd.ntmps47
  go_wp2
  go_end0
  have k0 := Kept.refl (fun k => k = g) w
  have k1 := Kept.set1 (b := g) (j := o) k0 (.int .u8 (x / 16777216))
  have k2 := Kept.set1 (b := g) (j := o + 1) k1 (.int .u8 (x / 65536 % 256))
  have k3 := Kept.set1 (b := g) (j := o + 2) k2 (.int .u8 (x / 256 % 256))
  have k4 := Kept.set1 (b := g) (j := o + 3) k3 (.int .u8 (x % 256))
  have h1 := HB.out.set o (x / 16777216)
  have h2 := h1.set (o + 1) (x / 65536 % 256)
  have h3 := h2.set (o + 2) (x / 256 % 256)
  have h4 := h3.set (o + 3) (x % 256)
  have e : put4 D o x = ((((D.set o (x / 16777216)).set (o + 1) (x / 65536 % 256)).set (o + 2) (x / 256 % 256)).set (o + 3) (x % 256)) := by
    rw [← set4 HO.out, show x / 16777216 % 256 = x / 16777216 by omega]
  rw [e]
  exact ⟨rfl, h4, k4⟩

/-- The cells of the zero State. -/
def zeroSt : Array Value := (rowSt ⟨0, 0, 0, 0, 0, 0, 0, 0⟩ (List.replicate 64 0) 0).toArray
theorem zeroSt_size : zeroSt.size = 73 := by decide
theorem Tryd.zero48 : (Tryd.prog.info? 75).map (fun i => (i.zero, i.size)) = some (some (.agg zeroSt), 73) := by kernel_rfl
theorem new_row : (((((((zeroSt.setIfInBounds 0 (.int .u32 1779033703)).setIfInBounds 1 (.int .u32 3144134277)).setIfInBounds 2 (.int .u32 1013904242)).setIfInBounds 3 (.int .u32 2773480762)).setIfInBounds 4 (.int .u32 1359893119)).setIfInBounds 5 (.int .u32 2600822924)).setIfInBounds 6 (.int .u32 528734635)).setIfInBounds 7 (.int .u32 1541459225) = (rowSt INI8 (List.replicate 64 0) 0).toArray := by kernel_rfl
set_option maxRecDepth 100000 in
set_option maxHeartbeats 800000 in
theorem new_any (w : World) (hG : Glob w) :
    Calls Tryd.prog 37 #[] w fun e w' => e = .returned (.pointer (some ⟨w.heap.size, 0, none⟩)) ∧ Sst w' w.heap.size [] ∧ Below w.heap.size w w' := by
  have c0 : w.cell? ⟨0, 0, none⟩ = some (.int .u32 1779033703) := hG.1 0 _ rfl
  have c1 : w.cell? ⟨0, 1, none⟩ = some (.int .u32 3144134277) := hG.1 1 _ rfl
  have c2 : w.cell? ⟨0, 2, none⟩ = some (.int .u32 1013904242) := hG.1 2 _ rfl
  have c3 : w.cell? ⟨0, 3, none⟩ = some (.int .u32 2773480762) := hG.1 3 _ rfl
  have c4 : w.cell? ⟨0, 4, none⟩ = some (.int .u32 1359893119) := hG.1 4 _ rfl
  have c5 : w.cell? ⟨0, 5, none⟩ = some (.int .u32 2600822924) := hG.1 5 _ rfl
  have c6 : w.cell? ⟨0, 6, none⟩ = some (.int .u32 528734635) := hG.1 6 _ rfl
  have c7 : w.cell? ⟨0, 7, none⟩ = some (.int .u32 1541459225) := hG.1 7 _ rfl
  have hz := (zero_of_info Tryd.zero48).1
  have hzs := zeroSt_size
  have hrow := new_row
  go_enter Tryd.func37, Tryd.ntmps37
  go_wp2
  go_ret
  refine ⟨rfl, ⟨List.replicate 64 0, ⟨by simp, by simp, ?_⟩, rfl⟩, (Below.refl _ _).alloc (Nat.le_refl _) _⟩
  exact heap_alloc_new _ _

theorem Tryd.infoSt : (Tryd.prog.info? 75).map (·.size) = some 73 := by kernel_rfl
theorem rowSt_one (s : R8) (B : List Int) (n : Nat) : (rowSt s B n).toArray.all (·.oneCell') = true := by
  rw [Array.all_eq_true_iff_forall_mem]
  intro v hv
  simp only [List.mem_toArray, rowSt, R8.vals, bs, List.mem_append, List.mem_map] at hv
  rcases hv with hv | ⟨x, _, rfl⟩ | hv
  · simp at hv
    rcases hv with rfl | rfl | rfl | rfl | rfl | rfl | rfl | rfl <;> rfl
  · rfl
  · simp at hv; subst hv; rfl

end Go.Proofs.YtogfgcihhnblkaaDoor
