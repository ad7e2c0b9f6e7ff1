/- The closure of Tag: a block combined with a byte. Bounds on the bytes. -/
import Derived.Test.YtogfgcihhnblkaaDoorKeyDig
namespace Go.Proofs.YtogfgcihhnblkaaDoor
open Go.RowKit

/-- A row combined with a byte. -/
def xr (x : Int) (l : List Int) : List Int := l.map fun y => bits .xor .u8 y x
theorem xr_length (x : Int) (l : List Int) : (xr x l).length = l.length := by simp [xr]
theorem xor_rng (y x : Int) (hy : 0 ≤ y ∧ y ≤ 255) (hx : 0 ≤ x ∧ x ≤ 255) : 0 ≤ bits .xor .u8 y x ∧ bits .xor .u8 y x ≤ 255 := by
  rw [u8_xor y x hy.1 (by omega) hx.1 (by omega)]
  have := Nat.xor_lt_two_pow (n := 8) (x := y.toNat) (y := x.toNat) (by omega) (by omega)
  omega
theorem xr_rng (x : Int) (l : List Int) (hx : 0 ≤ x ∧ x ≤ 255) (hl : ∀ y ∈ l, 0 ≤ y ∧ y ≤ 255) : ∀ y ∈ xr x l, 0 ≤ y ∧ y ≤ 255 := by
  intro y hy
  simp only [xr, List.mem_map] at hy
  obtain ⟨z, hz, rfl⟩ := hy
  exact xor_rng z x (hl z hz) hx
/-- Behind i rounds. -/
def xmid (x : Int) (l : List Int) (i : Nat) : List Int := xr x (l.take i) ++ l.drop i
theorem xmid_length (x : Int) (l : List Int) (i : Nat) : (xmid x l i).length = l.length := by simp [xmid, xr]; omega
theorem xmid_zero (x : Int) (l : List Int) : xmid x l 0 = l := by simp [xmid, xr]
theorem xmid_full (x : Int) (l : List Int) (i : Nat) (h : l.length ≤ i) : xmid x l i = xr x l := by simp [xmid, List.take_of_length_le h, List.drop_of_length_le h]
theorem xmid_at (x : Int) (l : List Int) (i : Nat) (h : i < l.length) : (xmid x l i)[i]? = some l[i] := by
  have h1 : (xr x (l.take i)).length = i := by simp [xr]; omega
  unfold xmid
  rw [List.getElem?_append_right (by omega), h1, Nat.sub_self, List.getElem?_drop, Nat.add_zero, List.getElem?_eq_getElem h]
theorem xmid_step (x : Int) (l : List Int) (i : Nat) (h : i < l.length) : (xmid x l i).set i (bits .xor .u8 l[i] x) = xmid x l (i + 1) := by
  have h1 : (xr x (l.take i)).length = i := by simp [xr]; omega
  have e : l.drop i = l[i] :: l.drop (i + 1) := List.drop_eq_getElem_cons h
  unfold xmid
  rw [List.set_append_right (h := by omega), h1, Nat.sub_self, e, List.set_cons_zero, List.take_succ_eq_append_getElem h]
  unfold xr
  rw [List.map_append, List.append_assoc]
  rfl
def zero64 : Array Value := (bs (List.replicate 64 0)).toArray
theorem Tryd.zero64 : (Tryd.prog.info? 46).map (fun i => (i.zero, i.size)) = some (some (.agg zero64), 64) := by kernel_rfl
theorem Tryd.infoB : (Tryd.prog.info? 46).map (·.size) = some 64 := by kernel_rfl
theorem bs_oneCell (l : List Int) : (bs l).toArray.all (·.oneCell') = true := by
  rw [Array.all_eq_true_iff_forall_mem]
  intro v hv
  simp only [List.mem_toArray, bs, List.mem_map] at hv
  obtain ⟨y, _, rfl⟩ := hv
  rfl
theorem brow_cell {w : World} {g t j : Nat} {D : List Int} {y : Int} (h : Brow w g t D) (hj : D[j]? = some y) : w.cell? ⟨g, j, none⟩ = some (.int .u8 y) := by
  rw [cell_of_row _ _ _ _ _ _ h]
  simp [bs, hj]
theorem brow_set {w : World} {g t j : Nat} {D D' : List Int} {y : Int} (h : Brow w g t D) (hD : D.set j y = D') : Brow (w.setCell ⟨g, j, none⟩ (.int .u8 y)) g t D' := by
  subst hD
  exact h.set j y

set_option maxRecDepth 100000 in
set_option maxHeartbeats 800000 in
theorem ktag1_any (g : Nat) (arr : Array Value) (blk : List Int) (x : Int) (w : World) (h : w.heap[g]? = some (.cells arr 46 (0, 0))) (harr : arr = (bs blk).toArray) (h64 : blk.length = 64) (hb : ∀ y ∈ blk, 0 ≤ y ∧ y ≤ 255) (hx : 0 ≤ x ∧ x ≤ 255) :
    Calls Tryd.prog 26 #[.int .u8 x, .pointer (some ⟨g, 0, none⟩)] w fun e w' => e = .returned (.agg (bs (xr x blk)).toArray) ∧ Below w.heap.size w w' := by
  obtain ⟨out, hout⟩ : ∃ out, out = (bs (xr x blk)).toArray := ⟨_, rfl⟩
  rw [← hout]
  have HOUT := hid_of hout
  have HARR := hid_of harr
  have HOS : Hid (out.size = 64) := hid_of (by rw [hout]; simpa [bs, xr] using h64)
  have HSZ : Hid (arr.size = 64) := hid_of (by rw [harr]; simpa [bs] using h64)
  have HI : Hid ((Tryd.prog.info? 46).map (·.size) = some arr.size) := hid_of (by rw [HSZ.out]; exact Tryd.infoB)
  have HIO : Hid ((Tryd.prog.info? 46).map (·.size) = some out.size) := hid_of (by rw [HOS.out]; exact Tryd.infoB)
  have H1 : Hid (arr.all (·.oneCell') = true) := hid_of (by rw [harr]; exact bs_oneCell _)
  have H1O : Hid (out.all (·.oneCell') = true) := hid_of (by rw [hout]; exact bs_oneCell _)
  have HLT := hid_of (lt_of_block h)
  have HBLK0 := hid_of h
  have H64 := hid_of h64
  have HBR := hid_of hb
  have HX := hid_of hx
  have HBLK : Hid ((w.alloc (.cells zero64 46)).heap[g]? = some (.cells arr 46 (0, 0))) := hid_of ((Below.heap_alloc _ _ _ HLT.out).trans h)
  clear hout h harr h64 hb hx
  have hz := (zero_of_info Tryd.zero64).1
  go_enter Tryd.func26, Tryd.ntmps26
  go_wp2_with (first
    | (refine wpList_load_row rfl 46 (.tmp 1) rfl g rfl 46 arr (0, 0) _ HBLK.out Tryd.underlying46 rfl HI.out ?_)
    | (refine wpList_store_fresh rfl 46 (.tmp 4) (.tmp 6) rfl _ arr rfl rfl (by simp) _ HI.out (by rw [HSZ.out]; rfl) H1.out ?_))
  have HR0 : Hid (Brow ((w.alloc (.cells zero64 46)).alloc (.cells arr 46)) (w.heap.size + 1) 46 (xmid x blk 0)) := hid_of (by rw [xmid_zero, HARR.out]; have := heap_alloc_new (w.alloc (.cells zero64 46)) (.cells (bs blk).toArray 46); simpa [Brow] using this)
  have HO0 : Hid (((w.alloc (.cells zero64 46)).alloc (.cells arr 46)).heap[w.heap.size]? = some (.cells zero64 46 (0, 0))) := hid_of (by rw [Below.heap_alloc _ _ _ (by simp)]; exact heap_alloc_new _ _)
  have HB0 : Hid (Below w.heap.size w ((w.alloc (.cells zero64 46)).alloc (.cells arr 46))) := hid_of (((Below.refl w.heap.size w).alloc (Nat.le_refl _) _).alloc (by simp) _)
  go_loopw [7] (fun iv wr => ∃ i : Nat, i ≤ 64 ∧ iv = .int .i64 i ∧ Hid (Brow wr (w.heap.size + 1) 46 (xmid x blk i)) ∧ Hid (wr.heap[w.heap.size]? = some (.cells zero64 46 (0, 0))) ∧ Hid (Below w.heap.size w wr)) (fun iv _ => 64 - (intOf iv).toNat)
  case atStart => exact ⟨0, by omega, rfl, HR0, HO0, HB0⟩
  case round =>
    obtain ⟨i, hi, rfl, hrow, hz0, hbel⟩ := hrel
    by_cases hlt : i < 64
    · have hlt2 : i < blk.length := by rw [H64.out]; exact hlt
      obtain ⟨y, hy⟩ : ∃ y, y = blk[i] := ⟨_, rfl⟩
      have c1 : wr.cell? ⟨w.heap.size + 1, i, none⟩ = some (.int .u8 y) := brow_cell hrow.out (by rw [xmid_at x blk i hlt2, hy])
      have f1 : wr.frozen? ⟨w.heap.size + 1, i, none⟩ = false := hrow.out.free i
      have HS : Hid ((xmid x blk i).set i (bits .xor .u8 y x) = xmid x blk (i + 1)) := hid_of (by rw [hy]; exact xmid_step x blk i hlt2)
      clear hy hlt2
      have hd : decide (i < 64) = true := by simp; exact hlt
      go_wp2
      go_roundw
      case rel => exact ⟨i + 1, by omega, by go_num, hid_of (brow_set hrow.out HS.out), hid_of ((Below.heap_setCell _ _ _ _ (by show w.heap.size ≠ w.heap.size + 1; omega)).trans hz0.out), hid_of (hbel.out.setCell (by show w.heap.size ≤ w.heap.size + 1; omega) _)⟩
      case measure => simp [intOf]; omega
    · obtain rfl : i = 64 := by omega
      have HROW : Hid (wr.heap[w.heap.size + 1]? = some (.cells out 46 (0, 0))) := hid_of (by rw [HOUT.out, ← xmid_full x blk 64 (by rw [H64.out]; omega)]; exact hrow.out)
      go_wp2_with (first
        | (refine wpList_load_row rfl 46 (.tmp 4) rfl (w.heap.size + 1) rfl 46 out (0, 0) _ HROW.out Tryd.underlying46 rfl HIO.out ?_)
        | (refine wpList_store_row rfl 46 (.tmp 3) (.tmp 17) rfl w.heap.size out rfl rfl 46 _ hz0.out HIO.out (by rw [HOS.out]; rfl) H1O.out ?_))
      refine bodyPost_ret (results_cell_row rfl _ _ w.heap.size 46 out (0, 0) _ rfl (setRow_heap _ _ _ _ _ _ hz0.out) Tryd.underlying46 rfl HIO.out) rfl ⟨rfl, below_setRow hbel.out (Nat.le_refl _) out⟩
end Go.Proofs.YtogfgcihhnblkaaDoor
