/- extend: the 64 words of a block. No condition but bounds. -/
import Derived.Test.YtogfgcihhnblkaaDoorShaWords
import Derived.Laws.Rows
import Derived.Deep.WholeRow
import Derived.BigRegion
import Derived.BigQuiet
import Derived.Deep.QuietTactic
import Derived.Deep.RegionHeld3
import Derived.Deep.RegionLaw
import Derived.StillTailTactics
import Derived.Below
import Derived.Laws.CopyOwn
namespace Go.Proofs.YtogfgcihhnblkaaDoor
open Go.RowKit

theorem hid_of {p : Prop} (h : p) : Hid p := h

/-- The cells of a list of words. -/
def ws (l : List Int) : List Value := l.map (Value.int .u32)
/-- The bytes B lie in block b from o on. -/
def Bytes64 (w : World) (b o : Nat) (B : List Int) : Prop := ∀ j, j < 64 → ∃ y : Int, B[j]? = some y ∧ 0 ≤ y ∧ y ≤ 255 ∧ w.cell? ⟨b, o + j, none⟩ = some (.int .u8 y)

def be4 (y0 y1 y2 y3 : Int) : Int :=
  bits .or .u32 (bits .or .u32 (bits .or .u32 (y0 * 16777216) (y1 * 65536)) (y2 * 256)) y3
def be32 (B : List Int) (t : Nat) : Int := be4 (B.getD (4 * t) 0) (B.getD (4 * t + 1) 0) (B.getD (4 * t + 2) 0) (B.getD (4 * t + 3) 0)
theorem be32_at {B : List Int} {t m0 m1 m2 m3 : Nat} {y0 y1 y2 y3 : Int} (h0 : m0 = 4 * t) (h1 : m1 = m0 + 1) (h2 : m2 = m0 + 2) (h3 : m3 = m0 + 3) (e0 : B[m0]? = some y0) (e1 : B[m1]? = some y1) (e2 : B[m2]? = some y2) (e3 : B[m3]? = some y3) : be4 y0 y1 y2 y3 = be32 B t := by
  subst h1 h2 h3 h0
  unfold be32
  simp [List.getD, e0, e1, e2, e3]
theorem be32_w (B : List Int) (t : Nat) : W32 (be32 B t) := by unfold be32 be4; exact bits_w32 _ _ _
/-- The words after k steps. -/
def ext0 (B : List Int) (k : Nat) : List Int := (List.range k).map (be32 B)
def nextW (l : List Int) : Int := ad (ad (ad (lo1 (l.getD (l.length - 2) 0)) (l.getD (l.length - 7) 0)) (lo0 (l.getD (l.length - 15) 0))) (l.getD (l.length - 16) 0)
def extN : Nat → List Int → List Int
  | 0, l => l
  | k + 1, l => extN k l ++ [nextW (extN k l)]
def extW (B : List Int) : List Int := extN 48 (ext0 B 16)
theorem ext0_length (B : List Int) (k : Nat) : (ext0 B k).length = k := by simp [ext0]
theorem extN_length : ∀ k l, (extN k l).length = l.length + k := by
  intro k; induction k with
  | zero => intro l; rfl
  | succ k ih => intro l; simp [extN, ih]; omega

/-- Block g holds the words l, and zeros up to 64. -/
def Wrow (w : World) (g : Nat) (l : List Int) : Prop := l.length ≤ 64 ∧ (∀ y ∈ l, W32 y) ∧ w.heap[g]? = some (.cells (ws (l ++ List.replicate (64 - l.length) 0)).toArray 80 (0, 0))

theorem Wrow.len {w : World} {g : Nat} {l : List Int} (h : Wrow w g l) : l.length ≤ 64 := h.1
theorem Wrow.set {w : World} {g k : Nat} {l l' : List Int} {z : Int} (h : Wrow w g l) (hk : l.length = k) (hk2 : k < 64) (hz : W32 z) (hl' : l' = l ++ [z]) : Wrow (w.setCell ⟨g, k, none⟩ (.int .u32 z)) g l' := by
  subst hl' hk
  refine ⟨by simp; omega, fun y hy => ?_, ?_⟩
  · rcases List.mem_append.1 hy with hy | hy
    · exact h.2.1 y hy
    · simp at hy; subst hy; exact hz
  · rw [heap_setCell_same _ _ _ _ _ _ h.2.2]
    congr 2
    obtain ⟨m, hm⟩ : ∃ m, 64 - l.length = m + 1 := ⟨63 - l.length, by omega⟩
    have hm2 : 64 - (l ++ [z]).length = m := by simp; omega
    rw [hm, hm2]
    apply Array.ext'
    simp [ws, List.replicate_succ]
theorem Wrow.cell {w : World} {g j : Nat} {l : List Int} (h : Wrow w g l) (hj : j < l.length) : w.cell? ⟨g, j, none⟩ = some (.int .u32 (l.getD j 0)) ∧ W32 (l.getD j 0) := by
  refine ⟨(cell_of_row _ _ _ _ _ _ h.2.2).trans (by simp [ws, List.getElem?_append, hj, List.getD]), ?_⟩
  have e : l.getD j 0 = l[j] := by simp [List.getD, hj]
  rw [e]; exact h.2.1 _ (List.getElem_mem hj)
theorem Wrow.next {w : World} {g : Nat} {l : List Int} (h : Wrow w g l) (hj : l.length < 64) : w.cell? ⟨g, l.length, none⟩ = some (.int .u32 0) ∧ w.frozen? ⟨g, l.length, none⟩ = false :=
  have e : (l ++ List.replicate (64 - l.length) 0)[l.length]? = some 0 := by
    rw [List.getElem?_append_right (Nat.le_refl _), Nat.sub_self, List.getElem?_replicate, if_pos (by omega)]
  ⟨(cell_of_row _ _ _ _ _ _ h.2.2).trans (by simp only [List.getElem?_toArray, ws, List.getElem?_map, e]; rfl), frozen_of_row _ _ _ _ _ h.2.2⟩
theorem Wrow.other {w : World} {g g' j : Nat} {l : List Int} {v : Value} (h : Wrow w g l) (hne : g ≠ g') : Wrow (w.setCell ⟨g', j, none⟩ v) g l := ⟨h.1, h.2.1, (Below.heap_setCell _ _ _ _ hne).trans h.2.2⟩
theorem Wrow.full {w : World} {g : Nat} {l : List Int} (h : Wrow w g l) (hl : l.length = 64) : w.heap[g]? = some (.cells (ws l).toArray 80 (0, 0)) := by
  have := h.2.2
  rw [hl] at this
  simpa using this
theorem ws_one (l : List Int) : (ws l).toArray.all (·.oneCell') = true := by
  rw [Array.all_eq_true_iff_forall_mem]
  intro v hv
  simp [ws] at hv
  obtain ⟨x, _, rfl⟩ := hv
  rfl
theorem Tryd.info64 : (Tryd.prog.info? 80).map (·.size) = some 64 := by kernel_rfl
theorem Wrow.drew {w : World} {g : Nat} {l : List Int} (h : Wrow w g l) : Wrow w.drew g l := h
theorem still_of {P : Program} {f : FuncId} {args : Array Value} {w : World} {v : Value} (h : Calls P f args w fun e w' => e = .returned v ∧ w = w') : Calls P f args w fun e w'' => e = .returned v ∧ w'' = w :=
  h.mono fun _ _ ⟨he, hw⟩ => ⟨he, hw.symm⟩
theorem ext0_succ (B : List Int) (k : Nat) : ext0 B (k + 1) = ext0 B k ++ [be32 B k] := by simp [ext0, List.range_succ]

set_option maxRecDepth 100000 in
set_option maxHeartbeats 1600000 in
theorem extend_any (b o : Nat) (B : List Int) (w : World) (h : Bytes64 w b o B) :
    Calls Tryd.prog 50 #[.pointer (some ⟨b, o, none⟩)] w fun e w' => e = .returned (.agg (ws (extW B)).toArray) ∧ Below w.heap.size w w' := by
  have HB := hid_of h
  have hb : b < w.heap.size := by obtain ⟨_, _, _, _, hc⟩ := h 0 (by omega); exact World.block_lt_of_cell? w _ hc
  clear h
  go_enter Tryd.func50, Tryd.ntmps50
  go_wp2
  go_loopw [4, 6] (fun _ iv wr => ∃ k : Nat, k ≤ 16 ∧ iv = .int .i64 k ∧ Hid (Wrow wr (w.heap.size + 1) (ext0 B k)) ∧ Below w.heap.size w wr ∧ w.heap.size + 1 < wr.heap.size ∧ Hid (Wrow wr w.heap.size [])) (fun _ i _ => 16 - (intOf i).toNat)
  case atStart =>
    refine ⟨0, by omega, rfl, hid_of ⟨by simp [ext0], by simp [ext0], ?_⟩, ((Below.refl _ _).alloc (Nat.le_refl _) _).alloc (by simp) _, by simp, hid_of ⟨by simp, by simp, ?_⟩⟩
    · rw [heap_alloc2_new]; rfl
    · rw [heap_alloc2_old]; rfl
  case round =>
    obtain ⟨k, hk, rfl, hrow, hbel, hsz, hz⟩ := hrel
    by_cases hlt : k < 16
    · go_wp2
      obtain ⟨m0, hm0⟩ : ∃ m : Nat, m = 4 * k := ⟨_, rfl⟩
      obtain ⟨m1, hm1⟩ : ∃ m : Nat, m = m0 + 1 := ⟨_, rfl⟩
      obtain ⟨m2, hm2⟩ : ∃ m : Nat, m = m0 + 2 := ⟨_, rfl⟩
      obtain ⟨m3, hm3⟩ : ∃ m : Nat, m = m0 + 3 := ⟨_, rfl⟩
      obtain ⟨y0, e0, l0, u0, d0⟩ := HB.out m0 (by omega)
      have c0 := (hbel.cell (p := ⟨b, o + m0, none⟩) hb).trans d0
      clear d0
      obtain ⟨y1, e1, l1, u1, d1⟩ := HB.out m1 (by omega)
      have c1 := (hbel.cell (p := ⟨b, o + m1, none⟩) hb).trans d1
      clear d1
      obtain ⟨y2, e2, l2, u2, d2⟩ := HB.out m2 (by omega)
      have c2 := (hbel.cell (p := ⟨b, o + m2, none⟩) hb).trans d2
      clear d2
      obtain ⟨y3, e3, l3, u3, d3⟩ := HB.out m3 (by omega)
      have c3 := (hbel.cell (p := ⟨b, o + m3, none⟩) hb).trans d3
      clear d3
      have b0 : (m0 : Int) < 64 := by omega
      have b1 : (m1 : Int) < 64 := by omega
      have b2 : (m2 : Int) < 64 := by omega
      have b3 : (m3 : Int) < 64 := by omega
      have E0 := hid_of e0
      have E1 := hid_of e1
      have E2 := hid_of e2
      have E3 := hid_of e3
      have M0 := hid_of hm0
      have M1 := hid_of hm1
      have M2 := hid_of hm2
      have M3 := hid_of hm3
      have bk : (k : Int) < 64 := by omega
      have hnx := hrow.out.drew.next (by rw [ext0_length]; omega)
      rw [ext0_length] at hnx
      obtain ⟨hcell, hfree⟩ := hnx
      have hrow2 : Hid (Wrow wr.drew (w.heap.size + 1) (ext0 B k)) := hrow
      have hbel2 := hid_of hbel.drew
      have hsz2 : w.heap.size + 1 < wr.drew.heap.size := hsz
      have hz2 : Hid (Wrow wr.drew w.heap.size []) := hz
      have s0 : IntKind.i64.wrap (4 * (k : Int)) = (m0 : Int) := by rw [IntWalk.i64_in _ (by omega)]; omega
      have s1 : IntKind.i64.wrap ((m0 : Int) + 1) = (m1 : Int) := by rw [IntWalk.i64_in _ (by omega)]; omega
      have s2 : IntKind.i64.wrap ((m0 : Int) + 2) = (m2 : Int) := by rw [IntWalk.i64_in _ (by omega)]; omega
      have s3 : IntKind.i64.wrap ((m0 : Int) + 3) = (m3 : Int) := by rw [IntWalk.i64_in _ (by omega)]; omega
      clear e0 e1 e2 e3 hm0 hm1 hm2 hm3
      go_still_tail 39, (by kernel_rfl)
      clear s0 s1 s2 s3
      change wpList _ _ _ _ _ wr.drew
      generalize wr.drew = w2 at *
      go_wp2
      go_roundw
      case rel =>
        refine ⟨k + 1, by omega, by go_num, ?_, hbel2.out.setCell (Nat.le_succ _) _, ?_, hid_of (hz2.out.other (by omega))⟩
        · exact hid_of (hrow2.out.set (ext0_length B k) (by omega) (bits_w32 _ _ _) (by rw [ext0_succ]; congr 2; exact (be32_at M0.out M1.out M2.out M3.out E0.out E1.out E2.out E3.out).symm))
        · show _ < (w2.heap.modify _ _).size; rw [Array.size_modify]; exact hsz2
      case measure => simp [intOf]; omega
    · have hk16 : k = 16 := by omega
      rw [hk16] at hrow
      clear hk16
      go_wp2
      go_loopw [5] (fun iv wr => ∃ k : Nat, k ≤ 48 ∧ iv = .int .i64 ((16 + k : Nat) : Int) ∧ Hid (Wrow wr (w.heap.size + 1) (extN k (ext0 B 16))) ∧ Below w.heap.size w wr ∧ w.heap.size + 1 < wr.heap.size ∧ Hid (Wrow wr w.heap.size [])) (fun i _ => 64 - (intOf i).toNat)
      case atStart => exact ⟨0, by omega, rfl, hrow, hbel, hsz, hz⟩
      case round =>
        obtain ⟨k, hk, rfl, hrow, hbel, hsz, hz⟩ := hrel
        obtain ⟨l, hl⟩ : ∃ l, l = extN k (ext0 B 16) := ⟨_, rfl⟩
        rw [← hl] at hrow
        have hll : l.length = 16 + k := by rw [hl, extN_length, ext0_length]
        obtain ⟨m, hm⟩ : ∃ m : Nat, m = 16 + k := ⟨_, rfl⟩
        rw [← hm]
        have HL := hid_of hl
        have HLL : Hid (l.length = m) := hid_of (by omega)
        have HM := hid_of hm
        have hm1 : 16 ≤ m := by omega
        have hm2 : m ≤ 64 := by omega
        clear hl hll hm
        by_cases hlt : m < 64
        · obtain ⟨p2, hp2⟩ : ∃ p : Nat, p = m - 2 := ⟨_, rfl⟩
          obtain ⟨p7, hp7⟩ : ∃ p : Nat, p = m - 7 := ⟨_, rfl⟩
          obtain ⟨p15, hp15⟩ : ∃ p : Nat, p = m - 15 := ⟨_, rfl⟩
          obtain ⟨p16, hp16⟩ : ∃ p : Nat, p = m - 16 := ⟨_, rfl⟩
          obtain ⟨c2, v2⟩ := hrow.out.cell (j := p2) (by rw [HLL.out]; omega)
          obtain ⟨c7, v7⟩ := hrow.out.cell (j := p7) (by rw [HLL.out]; omega)
          obtain ⟨c15, v15⟩ := hrow.out.cell (j := p15) (by rw [HLL.out]; omega)
          obtain ⟨c16, v16⟩ := hrow.out.cell (j := p16) (by rw [HLL.out]; omega)
          obtain ⟨x2, hx2⟩ : ∃ x, x = l.getD p2 0 := ⟨_, rfl⟩
          obtain ⟨x7, hx7⟩ : ∃ x, x = l.getD p7 0 := ⟨_, rfl⟩
          obtain ⟨x15, hx15⟩ : ∃ x, x = l.getD p15 0 := ⟨_, rfl⟩
          obtain ⟨x16, hx16⟩ : ∃ x, x = l.getD p16 0 := ⟨_, rfl⟩
          rw [← hx2] at c2 v2
          rw [← hx7] at c7 v7
          rw [← hx15] at c15 v15
          rw [← hx16] at c16 v16
          have P2 := hid_of hp2
          have P7 := hid_of hp7
          have P15 := hid_of hp15
          have P16 := hid_of hp16
          have X2 := hid_of hx2
          have X7 := hid_of hx7
          have X15 := hid_of hx15
          have X16 := hid_of hx16
          have b2 : (p2 : Int) < 64 := by omega
          have b7 : (p7 : Int) < 64 := by omega
          have b15 : (p15 : Int) < 64 := by omega
          have b16 : (p16 : Int) < 64 := by omega
          have bm : (m : Int) < 64 := by omega
          have hnx := hrow.out.drew.next (by rw [HLL.out]; exact hlt)
          rw [HLL.out] at hnx
          obtain ⟨hcell, hfree⟩ := hnx
          have hrow2 : Hid (Wrow wr.drew (w.heap.size + 1) l) := hrow
          have hbel2 := hid_of hbel.drew
          have hsz2 : w.heap.size + 1 < wr.drew.heap.size := hsz
          have hz2 : Hid (Wrow wr.drew w.heap.size []) := hz
          go_wp2
          have s2 : IntKind.i64.wrap ((m : Int) - 2) = (p2 : Int) := by rw [IntWalk.i64_in _ (by omega)]; omega
          have s7 : IntKind.i64.wrap ((m : Int) - 7) = (p7 : Int) := by rw [IntWalk.i64_in _ (by omega)]; omega
          have s15 : IntKind.i64.wrap ((m : Int) - 15) = (p15 : Int) := by rw [IntWalk.i64_in _ (by omega)]; omega
          have s16 : IntKind.i64.wrap ((m : Int) - 16) = (p16 : Int) := by rw [IntWalk.i64_in _ (by omega)]; omega
          clear hp2 hp7 hp15 hp16 hx2 hx7 hx15 hx16
          refine wp_region_still_tail 23 (by kernel_rfl) (by kernel_rfl) ?_
          simp only [List.take_succ_cons, List.take_zero, List.drop_succ_cons, List.drop_zero]
          repeat still_step
          refine wpStill_step (fun K hK => ?_)
          go_simp
          refine ⟨_, still_of (lower1_any x2 _ v2), hK _ ?_⟩
          clear hK K
          repeat still_step
          refine wpStill_step (fun K hK => ?_)
          go_simp
          refine ⟨_, still_of (lower0_any x15 _ v15), hK _ ?_⟩
          clear hK K
          repeat still_step
          refine wpStill_nil ?_
          clear s2 s7 s15 s16
          change wpList _ _ _ _ _ wr.drew
          generalize wr.drew = w2 at *
          go_wp2
          go_roundw
          case rel =>
            refine ⟨k + 1, by have := HM.out; omega, by have := HM.out; subst this; go_num, ?_, hbel2.out.setCell (Nat.le_succ _) _, ?_, hid_of (hz2.out.other (by omega))⟩
            · refine hid_of (hrow2.out.set HLL.out hlt ?_ ?_)
              · exact ad_w _ _
              · rw [extN, ← HL.out, nextW, HLL.out, ← P2.out, ← P7.out, ← P15.out, ← P16.out, ← X2.out, ← X7.out, ← X15.out, ← X16.out]
                congr 2
                unfold ad
                omega
            · show _ < (w2.heap.modify _ _).size; rw [Array.size_modify]; exact hsz2
          case measure => simp [intOf]; omega
        · obtain rfl : m = 64 := by omega
          have hg := hrow.out.full HLL.out
          have hg0 := hz.out.2.2
          have HEQ : Hid (extW B = l) := hid_of (by
            have := HM.out
            obtain rfl : k = 48 := by omega
            exact HL.out.symm)
          have HG := hid_of hg
          have HG0 := hid_of hg0
          have HSZ : Hid ((ws l).toArray.size = 64) := hid_of (by simp [ws]; exact HLL.out)
          clear hg hg0 hlt
          have HI : Hid ((Tryd.prog.info? 80).map (·.size) = some (ws l).toArray.size) := hid_of (by rw [HSZ.out]; exact Tryd.info64)
          have H1 : Hid ((ws l).toArray.all (·.oneCell') = true) := hid_of (ws_one l)
          have H0 : Hid ((ws ([] ++ List.replicate (64 - ([] : List Int).length) 0)).toArray.size = (ws l).toArray.size) := hid_of (by rw [HSZ.out]; simp [ws])
          have HB5 := hid_of hbel
          obtain ⟨arr, harr⟩ : ∃ arr, arr = (ws l).toArray := ⟨_, rfl⟩
          rw [← harr] at HG HI H1 H0 HSZ
          have HARR := hid_of harr
          clear harr hbel hrow hz hsz
          go_wp2_with (first
            | (refine wpList_load_row rfl 80 (.tmp 3) rfl (w.heap.size + 1) rfl 80 arr (0, 0) _ HG.out Tryd.underlying80 rfl HI.out ?_)
            | (refine wpList_store_row rfl 80 (.tmp 2) (.tmp 76) rfl w.heap.size arr rfl rfl 80 _ HG0.out HI.out H0.out H1.out ?_))
          refine bodyPost_ret (results_cell_row rfl _ _ w.heap.size 80 arr (0, 0) _ rfl (setRow_heap _ _ _ _ _ _ HG0.out) Tryd.underlying80 rfl HI.out) rfl ⟨?_, ?_⟩
          · rw [HEQ.out, HARR.out]
          · exact below_setRow HB5.out (Nat.le_refl _) arr
end Go.Proofs.YtogfgcihhnblkaaDoor
