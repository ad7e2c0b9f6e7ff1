/- Texts in one: ShaExtend, ShaMix, ShaHash, ShaWrite, ShaWriteW, ShaPut, ShaSum, ShaDig, ShaDgr, ShaGen, CkEnc, CkBod, CkEq, CkLd, CkSt. -/
import Derived.Test.YtlffiebnieakjaaDoorMgEB
import Derived.Laws.Rows
import Derived.Deep.WholeRow
import Derived.BigRegion
import Derived.BigQuiet
import Derived.Deep.QuietTactic
import Derived.Deep.RegionHeld3
import Derived.Deep.RegionLaw
import Derived.StillTailTactics
import Derived.Below
import Derived.Laws.CopyOwn
import Derived.Deep.MidRow
import Derived.Deep.Draws
import Derived.Deep.RegionWith
import Derived.Laws.BytesArg
import Derived.Laws.IdiomStrings
import Derived.Lib.BufferWrite
import Derived.Lib.SliceRun
set_option linter.unusedVariables false
set_option linter.unusedSimpArgs false
/- extend: the 64 words of a block. No condition but bounds. -/
namespace Go.Proofs.YtlffiebnieakjaaDoor.Sh
open Go.RowKit

theorem hid_of {p : Prop} (h : p) : Hid p := h

/-- The cells of a list of words. -/
def ws (l : List Int) : List Value := l.map (Value.int .u32)
/-- The bytes B lie in block b from o on. -/
def Bytes64 (w : World) (b o : Nat) (B : List Int) : Prop := ∀ j, j < 64 → ∃ y : Int, B[j]? = some y ∧ 0 ≤ y ∧ y ≤ 255 ∧ w.cell? ⟨b, o + j, none⟩ = some (.int .u8 y)

def be4 (y0 y1 y2 y3 : Int) : Int :=
  bits .or .u32 (bits .or .u32 (bits .or .u32 (y0 * 16777216) (y1 * 65536)) (y2 * 256)) y3
def be32 (B : List Int) (t : Nat) : Int := be4 (B.getD (4 * t) 0) (B.getD (4 * t + 1) 0) (B.getD (4 * t + 2) 0) (B.getD (4 * t + 3) 0)
theorem be32_at {B : List Int} {t m0 m1 m2 m3 : Nat} {y0 y1 y2 y3 : Int} (h0 : m0 = 4 * t) (h1 : m1 = m0 + 1) (h2 : m2 = m0 + 2) (h3 : m3 = m0 + 3) (e0 : B[m0]? = some y0) (e1 : B[m1]? = some y1) (e2 : B[m2]? = some y2) (e3 : B[m3]? = some y3) : be4 y0 y1 y2 y3 = be32 B t := by
  subst h1 h2 h3 h0
  unfold be32
  simp [List.getD, e0, e1, e2, e3]
theorem be32_w (B : List Int) (t : Nat) : W32 (be32 B t) := by unfold be32 be4; exact bits_w32 _ _ _
/-- The words after k steps. -/
def ext0 (B : List Int) (k : Nat) : List Int := (List.range k).map (be32 B)
def nextW (l : List Int) : Int := ad (ad (ad (lo1 (l.getD (l.length - 2) 0)) (l.getD (l.length - 7) 0)) (lo0 (l.getD (l.length - 15) 0))) (l.getD (l.length - 16) 0)
def extN : Nat → List Int → List Int
  | 0, l => l
  | k + 1, l => extN k l ++ [nextW (extN k l)]
def extW (B : List Int) : List Int := extN 48 (ext0 B 16)
theorem ext0_length (B : List Int) (k : Nat) : (ext0 B k).length = k := by simp [ext0]
theorem extN_length : ∀ k l, (extN k l).length = l.length + k := by
  intro k; induction k with
  | zero => intro l; rfl
  | succ k ih => intro l; simp [extN, ih]; omega

/-- Block g holds the words l, and zeros up to 64. -/
def Wrow (w : World) (g : Nat) (l : List Int) : Prop := l.length ≤ 64 ∧ (∀ y ∈ l, W32 y) ∧ w.heap[g]? = some (.cells (ws (l ++ List.replicate (64 - l.length) 0)).toArray 102 (0, 0))

theorem Wrow.len {w : World} {g : Nat} {l : List Int} (h : Wrow w g l) : l.length ≤ 64 := h.1
theorem Wrow.set {w : World} {g k : Nat} {l l' : List Int} {z : Int} (h : Wrow w g l) (hk : l.length = k) (hk2 : k < 64) (hz : W32 z) (hl' : l' = l ++ [z]) : Wrow (w.setCell ⟨g, k, none⟩ (.int .u32 z)) g l' := by
  subst hl' hk
  refine ⟨by simp; omega, fun y hy => ?_, ?_⟩
  · rcases List.mem_append.1 hy with hy | hy
    · exact h.2.1 y hy
    · simp at hy; subst hy; exact hz
  · rw [heap_setCell_same _ _ _ _ _ _ h.2.2]
    congr 2
    obtain ⟨m, hm⟩ : ∃ m, 64 - l.length = m + 1 := ⟨63 - l.length, by omega⟩
    have hm2 : 64 - (l ++ [z]).length = m := by simp; omega
    rw [hm, hm2]
    apply Array.ext'
    simp [ws, List.replicate_succ]
theorem Wrow.cell {w : World} {g j : Nat} {l : List Int} (h : Wrow w g l) (hj : j < l.length) : w.cell? ⟨g, j, none⟩ = some (.int .u32 (l.getD j 0)) ∧ W32 (l.getD j 0) := by
  refine ⟨(cell_of_row _ _ _ _ _ _ h.2.2).trans (by simp [ws, List.getElem?_append, hj, List.getD]), ?_⟩
  have e : l.getD j 0 = l[j] := by simp [List.getD, hj]
  rw [e]; exact h.2.1 _ (List.getElem_mem hj)
theorem Wrow.next {w : World} {g : Nat} {l : List Int} (h : Wrow w g l) (hj : l.length < 64) : w.cell? ⟨g, l.length, none⟩ = some (.int .u32 0) ∧ w.frozen? ⟨g, l.length, none⟩ = false :=
  have e : (l ++ List.replicate (64 - l.length) 0)[l.length]? = some 0 := by
    rw [List.getElem?_append_right (Nat.le_refl _), Nat.sub_self, List.getElem?_replicate, if_pos (by omega)]
  ⟨(cell_of_row _ _ _ _ _ _ h.2.2).trans (by simp only [List.getElem?_toArray, ws, List.getElem?_map, e]; rfl), frozen_of_row _ _ _ _ _ h.2.2⟩
theorem Wrow.other {w : World} {g g' j : Nat} {l : List Int} {v : Value} (h : Wrow w g l) (hne : g ≠ g') : Wrow (w.setCell ⟨g', j, none⟩ v) g l := ⟨h.1, h.2.1, (Below.heap_setCell _ _ _ _ hne).trans h.2.2⟩
theorem Wrow.full {w : World} {g : Nat} {l : List Int} (h : Wrow w g l) (hl : l.length = 64) : w.heap[g]? = some (.cells (ws l).toArray 102 (0, 0)) := by
  have := h.2.2
  rw [hl] at this
  simpa using this
theorem ws_one (l : List Int) : (ws l).toArray.all (·.oneCell') = true := by
  rw [Array.all_eq_true_iff_forall_mem]
  intro v hv
  simp [ws] at hv
  obtain ⟨x, _, rfl⟩ := hv
  rfl
theorem Tryd.info64 : (Tryd.prog.info? 102).map (·.size) = some 64 := by kernel_rfl
theorem Wrow.drew {w : World} {g : Nat} {l : List Int} (h : Wrow w g l) : Wrow w.drew g l := h
theorem still_of {P : Program} {f : FuncId} {args : Array Value} {w : World} {v : Value} (h : Calls P f args w fun e w' => e = .returned v ∧ w = w') : Calls P f args w fun e w'' => e = .returned v ∧ w'' = w :=
  h.mono fun _ _ ⟨he, hw⟩ => ⟨he, hw.symm⟩
theorem ext0_succ (B : List Int) (k : Nat) : ext0 B (k + 1) = ext0 B k ++ [be32 B k] := by simp [ext0, List.range_succ]

set_option maxRecDepth 100000 in
set_option maxHeartbeats 1600000 in
theorem extend_any (b o : Nat) (B : List Int) (w : World) (h : Bytes64 w b o B) :
    Calls Tryd.prog 66 #[.pointer (some ⟨b, o, none⟩)] w fun e w' => e = .returned (.agg (ws (extW B)).toArray) ∧ Below w.heap.size w w' := by
  have HB := hid_of h
  have hb : b < w.heap.size := by obtain ⟨_, _, _, _, hc⟩ := h 0 (by omega); exact World.block_lt_of_cell? w _ hc
  clear h
  go_enter Tryd.func66, Tryd.ntmps66
  go_wp2
  go_loopw [4, 6] (fun _ iv wr => ∃ k : Nat, k ≤ 16 ∧ iv = .int .i64 k ∧ Hid (Wrow wr (w.heap.size + 1) (ext0 B k)) ∧ Below w.heap.size w wr ∧ w.heap.size + 1 < wr.heap.size ∧ Hid (Wrow wr w.heap.size [])) (fun _ i _ => 16 - (intOf i).toNat)
  case atStart =>
    refine ⟨0, by omega, rfl, hid_of ⟨by simp [ext0], by simp [ext0], ?_⟩, ((Below.refl _ _).alloc (Nat.le_refl _) _).alloc (by simp) _, by simp, hid_of ⟨by simp, by simp, ?_⟩⟩
    · rw [heap_alloc2_new]; rfl
    · rw [heap_alloc2_old]; rfl
  case round =>
    obtain ⟨k, hk, rfl, hrow, hbel, hsz, hz⟩ := hrel
    by_cases hlt : k < 16
    · go_wp2
      obtain ⟨m0, hm0⟩ : ∃ m : Nat, m = 4 * k := ⟨_, rfl⟩
      obtain ⟨m1, hm1⟩ : ∃ m : Nat, m = m0 + 1 := ⟨_, rfl⟩
      obtain ⟨m2, hm2⟩ : ∃ m : Nat, m = m0 + 2 := ⟨_, rfl⟩
      obtain ⟨m3, hm3⟩ : ∃ m : Nat, m = m0 + 3 := ⟨_, rfl⟩
      obtain ⟨y0, e0, l0, u0, d0⟩ := HB.out m0 (by omega)
      have c0 := (hbel.cell (p := ⟨b, o + m0, none⟩) hb).trans d0
      clear d0
      obtain ⟨y1, e1, l1, u1, d1⟩ := HB.out m1 (by omega)
      have c1 := (hbel.cell (p := ⟨b, o + m1, none⟩) hb).trans d1
      clear d1
      obtain ⟨y2, e2, l2, u2, d2⟩ := HB.out m2 (by omega)
      have c2 := (hbel.cell (p := ⟨b, o + m2, none⟩) hb).trans d2
      clear d2
      obtain ⟨y3, e3, l3, u3, d3⟩ := HB.out m3 (by omega)
      have c3 := (hbel.cell (p := ⟨b, o + m3, none⟩) hb).trans d3
      clear d3
      have b0 : (m0 : Int) < 64 := by omega
      have b1 : (m1 : Int) < 64 := by omega
      have b2 : (m2 : Int) < 64 := by omega
      have b3 : (m3 : Int) < 64 := by omega
      have E0 := hid_of e0
      have E1 := hid_of e1
      have E2 := hid_of e2
      have E3 := hid_of e3
      have M0 := hid_of hm0
      have M1 := hid_of hm1
      have M2 := hid_of hm2
      have M3 := hid_of hm3
      have bk : (k : Int) < 64 := by omega
      have hnx := hrow.out.drew.next (by rw [ext0_length]; omega)
      rw [ext0_length] at hnx
      obtain ⟨hcell, hfree⟩ := hnx
      have hrow2 : Hid (Wrow wr.drew (w.heap.size + 1) (ext0 B k)) := hrow
      have hbel2 := hid_of hbel.drew
      have hsz2 : w.heap.size + 1 < wr.drew.heap.size := hsz
      have hz2 : Hid (Wrow wr.drew w.heap.size []) := hz
      have s0 : IntKind.i64.wrap (4 * (k : Int)) = (m0 : Int) := by rw [IntWalk.i64_in _ (by omega)]; omega
      have s1 : IntKind.i64.wrap ((m0 : Int) + 1) = (m1 : Int) := by rw [IntWalk.i64_in _ (by omega)]; omega
      have s2 : IntKind.i64.wrap ((m0 : Int) + 2) = (m2 : Int) := by rw [IntWalk.i64_in _ (by omega)]; omega
      have s3 : IntKind.i64.wrap ((m0 : Int) + 3) = (m3 : Int) := by rw [IntWalk.i64_in _ (by omega)]; omega
      clear e0 e1 e2 e3 hm0 hm1 hm2 hm3
      go_still_tail 39, (by kernel_rfl)
      clear s0 s1 s2 s3
      change wpList _ _ _ _ _ wr.drew
      generalize wr.drew = w2 at *
      go_wp2
      go_roundw
      case rel =>
        refine ⟨k + 1, by omega, by go_num, ?_, hbel2.out.setCell (Nat.le_succ _) _, ?_, hid_of (hz2.out.other (by omega))⟩
        · exact hid_of (hrow2.out.set (ext0_length B k) (by omega) (bits_w32 _ _ _) (by rw [ext0_succ]; congr 2; exact (be32_at M0.out M1.out M2.out M3.out E0.out E1.out E2.out E3.out).symm))
        · show _ < (w2.heap.modify _ _).size; rw [Array.size_modify]; exact hsz2
      case measure => simp [intOf]; omega
    · have hk16 : k = 16 := by omega
      rw [hk16] at hrow
      clear hk16
      go_wp2
      go_loopw [5] (fun iv wr => ∃ k : Nat, k ≤ 48 ∧ iv = .int .i64 ((16 + k : Nat) : Int) ∧ Hid (Wrow wr (w.heap.size + 1) (extN k (ext0 B 16))) ∧ Below w.heap.size w wr ∧ w.heap.size + 1 < wr.heap.size ∧ Hid (Wrow wr w.heap.size [])) (fun i _ => 64 - (intOf i).toNat)
      case atStart => exact ⟨0, by omega, rfl, hrow, hbel, hsz, hz⟩
      case round =>
        obtain ⟨k, hk, rfl, hrow, hbel, hsz, hz⟩ := hrel
        obtain ⟨l, hl⟩ : ∃ l, l = extN k (ext0 B 16) := ⟨_, rfl⟩
        rw [← hl] at hrow
        have hll : l.length = 16 + k := by rw [hl, extN_length, ext0_length]
        obtain ⟨m, hm⟩ : ∃ m : Nat, m = 16 + k := ⟨_, rfl⟩
        rw [← hm]
        have HL := hid_of hl
        have HLL : Hid (l.length = m) := hid_of (by omega)
        have HM := hid_of hm
        have hm1 : 16 ≤ m := by omega
        have hm2 : m ≤ 64 := by omega
        clear hl hll hm
        by_cases hlt : m < 64
        · obtain ⟨p2, hp2⟩ : ∃ p : Nat, p = m - 2 := ⟨_, rfl⟩
          obtain ⟨p7, hp7⟩ : ∃ p : Nat, p = m - 7 := ⟨_, rfl⟩
          obtain ⟨p15, hp15⟩ : ∃ p : Nat, p = m - 15 := ⟨_, rfl⟩
          obtain ⟨p16, hp16⟩ : ∃ p : Nat, p = m - 16 := ⟨_, rfl⟩
          obtain ⟨c2, v2⟩ := hrow.out.cell (j := p2) (by rw [HLL.out]; omega)
          obtain ⟨c7, v7⟩ := hrow.out.cell (j := p7) (by rw [HLL.out]; omega)
          obtain ⟨c15, v15⟩ := hrow.out.cell (j := p15) (by rw [HLL.out]; omega)
          obtain ⟨c16, v16⟩ := hrow.out.cell (j := p16) (by rw [HLL.out]; omega)
          obtain ⟨x2, hx2⟩ : ∃ x, x = l.getD p2 0 := ⟨_, rfl⟩
          obtain ⟨x7, hx7⟩ : ∃ x, x = l.getD p7 0 := ⟨_, rfl⟩
          obtain ⟨x15, hx15⟩ : ∃ x, x = l.getD p15 0 := ⟨_, rfl⟩
          obtain ⟨x16, hx16⟩ : ∃ x, x = l.getD p16 0 := ⟨_, rfl⟩
          rw [← hx2] at c2 v2
          rw [← hx7] at c7 v7
          rw [← hx15] at c15 v15
          rw [← hx16] at c16 v16
          have P2 := hid_of hp2
          have P7 := hid_of hp7
          have P15 := hid_of hp15
          have P16 := hid_of hp16
          have X2 := hid_of hx2
          have X7 := hid_of hx7
          have X15 := hid_of hx15
          have X16 := hid_of hx16
          have b2 : (p2 : Int) < 64 := by omega
          have b7 : (p7 : Int) < 64 := by omega
          have b15 : (p15 : Int) < 64 := by omega
          have b16 : (p16 : Int) < 64 := by omega
          have bm : (m : Int) < 64 := by omega
          have hnx := hrow.out.drew.next (by rw [HLL.out]; exact hlt)
          rw [HLL.out] at hnx
          obtain ⟨hcell, hfree⟩ := hnx
          have hrow2 : Hid (Wrow wr.drew (w.heap.size + 1) l) := hrow
          have hbel2 := hid_of hbel.drew
          have hsz2 : w.heap.size + 1 < wr.drew.heap.size := hsz
          have hz2 : Hid (Wrow wr.drew w.heap.size []) := hz
          go_wp2
          have s2 : IntKind.i64.wrap ((m : Int) - 2) = (p2 : Int) := by rw [IntWalk.i64_in _ (by omega)]; omega
          have s7 : IntKind.i64.wrap ((m : Int) - 7) = (p7 : Int) := by rw [IntWalk.i64_in _ (by omega)]; omega
          have s15 : IntKind.i64.wrap ((m : Int) - 15) = (p15 : Int) := by rw [IntWalk.i64_in _ (by omega)]; omega
          have s16 : IntKind.i64.wrap ((m : Int) - 16) = (p16 : Int) := by rw [IntWalk.i64_in _ (by omega)]; omega
          clear hp2 hp7 hp15 hp16 hx2 hx7 hx15 hx16
          refine wp_region_still_tail 23 (by kernel_rfl) (by kernel_rfl) ?_
          simp only [List.take_succ_cons, List.take_zero, List.drop_succ_cons, List.drop_zero]
          repeat still_step
          refine wpStill_step (fun K hK => ?_)
          go_simp
          refine ⟨_, still_of (lower1_any x2 _ v2), hK _ ?_⟩
          clear hK K
          repeat still_step
          refine wpStill_step (fun K hK => ?_)
          go_simp
          refine ⟨_, still_of (lower0_any x15 _ v15), hK _ ?_⟩
          clear hK K
          repeat still_step
          refine wpStill_nil ?_
          clear s2 s7 s15 s16
          change wpList _ _ _ _ _ wr.drew
          generalize wr.drew = w2 at *
          go_wp2
          go_roundw
          case rel =>
            refine ⟨k + 1, by have := HM.out; omega, by have := HM.out; subst this; go_num, ?_, hbel2.out.setCell (Nat.le_succ _) _, ?_, hid_of (hz2.out.other (by omega))⟩
            · refine hid_of (hrow2.out.set HLL.out hlt ?_ ?_)
              · exact ad_w _ _
              · rw [extN, ← HL.out, nextW, HLL.out, ← P2.out, ← P7.out, ← P15.out, ← P16.out, ← X2.out, ← X7.out, ← X15.out, ← X16.out]
                congr 2
                unfold ad
                omega
            · show _ < (w2.heap.modify _ _).size; rw [Array.size_modify]; exact hsz2
          case measure => simp [intOf]; omega
        · obtain rfl : m = 64 := by omega
          have hg := hrow.out.full HLL.out
          have hg0 := hz.out.2.2
          have HEQ : Hid (extW B = l) := hid_of (by
            have := HM.out
            obtain rfl : k = 48 := by omega
            exact HL.out.symm)
          have HG := hid_of hg
          have HG0 := hid_of hg0
          have HSZ : Hid ((ws l).toArray.size = 64) := hid_of (by simp [ws]; exact HLL.out)
          clear hg hg0 hlt
          have HI : Hid ((Tryd.prog.info? 102).map (·.size) = some (ws l).toArray.size) := hid_of (by rw [HSZ.out]; exact Tryd.info64)
          have H1 : Hid ((ws l).toArray.all (·.oneCell') = true) := hid_of (ws_one l)
          have H0 : Hid ((ws ([] ++ List.replicate (64 - ([] : List Int).length) 0)).toArray.size = (ws l).toArray.size) := hid_of (by rw [HSZ.out]; simp [ws])
          have HB5 := hid_of hbel
          obtain ⟨arr, harr⟩ : ∃ arr, arr = (ws l).toArray := ⟨_, rfl⟩
          rw [← harr] at HG HI H1 H0 HSZ
          have HARR := hid_of harr
          clear harr hbel hrow hz hsz
          go_wp2_with (first
            | (refine wpList_load_row rfl 102 (.tmp 3) rfl (w.heap.size + 1) rfl 102 arr (0, 0) _ HG.out Tryd.underlying102 rfl HI.out ?_)
            | (refine wpList_store_row rfl 102 (.tmp 2) (.tmp 76) rfl w.heap.size arr rfl rfl 102 _ HG0.out HI.out H0.out H1.out ?_))
          refine bodyPost_ret (results_cell_row rfl _ _ w.heap.size 102 arr (0, 0) _ rfl (setRow_heap _ _ _ _ _ _ HG0.out) Tryd.underlying102 rfl HI.out) rfl ⟨?_, ?_⟩
          · rw [HEQ.out, HARR.out]
          · exact below_setRow HB5.out (Nat.le_refl _) arr
end Go.Proofs.YtlffiebnieakjaaDoor.Sh

/- mix: the state that a block makes of the state before it. Bounds on the words; the package's constants lie where they were laid. -/
namespace Go.Proofs.YtlffiebnieakjaaDoor.Sh
open Go.RowKit

/-- The constants of the definition. -/
def KON : List Int := [1116352408, 1899447441, 3049323471, 3921009573, 961987163, 1508970993, 2453635748, 2870763221, 3624381080, 310598401, 607225278, 1426881987, 1925078388, 2162078206, 2614888103, 3248222580, 3835390401, 4022224774, 264347078, 604807628, 770255983, 1249150122, 1555081692, 1996064986, 2554220882, 2821834349, 2952996808, 3210313671, 3336571891, 3584528711, 113926993, 338241895, 666307205, 773529912, 1294757372, 1396182291, 1695183700, 1986661051, 2177026350, 2456956037, 2730485921, 2820302411, 3259730800, 3345764771, 3516065817, 3600352804, 4094571909, 275423344, 430227734, 506948616, 659060556, 883997877, 958139571, 1322822218, 1537002063, 1747873779, 1955562222, 2024104815, 2227730452, 2361852424, 2428436474, 2756734187, 3204031479, 3329325298]
def INI : List Int := [1779033703, 3144134277, 1013904242, 2773480762, 1359893119, 2600822924, 528734635, 1541459225]

/-- The package's two variables are as they were laid. -/
def Glob (w : World) : Prop := w.rangeAt 0 0 (ws INI) ∧ w.rangeAt 1 0 (ws KON)
theorem Glob.bel {w w' : World} {B : Nat} (h : Glob w) (hb : Below B w w') (hB : 2 ≤ B) : Glob w' :=
  ⟨fun j v hv => (hb.cell (p := ⟨0, 0 + j, none⟩) (by show 0 < B; omega)).trans (h.1 j v hv), fun j v hv => (hb.cell (p := ⟨1, 0 + j, none⟩) (by show 1 < B; omega)).trans (h.2 j v hv)⟩
theorem Glob.two {w : World} (h : Glob w) : 2 ≤ w.heap.size := by
  have := World.block_lt_of_cell? w _ (h.2 0 _ rfl)
  simp at this
  omega
theorem Glob.kon {w : World} (h : Glob w) {t : Nat} (ht : t < 64) : w.cell? ⟨1, t, none⟩ = some (.int .u32 (KON.getD t 0)) := by
  have hl : KON.length = 64 := rfl
  have := h.2 t (.int .u32 (KON.getD t 0)) (by simp [ws, List.getD, List.getElem?_eq_getElem (show t < KON.length by omega)])
  rwa [Nat.zero_add] at this
theorem kon_w : ∀ t, W32 (KON.getD t 0) := by
  intro t
  by_cases ht : t < 64
  · have : ∀ x ∈ KON, W32 x := by
      have h : KON.all (fun x => decide (0 ≤ x) && decide (x ≤ 4294967295)) = true := by decide
      intro x hx
      have := List.all_eq_true.1 h x hx
      simp at this
      exact this
    have hl : KON.length = 64 := rfl
    have hlt : t < KON.length := by omega
    have e : KON.getD t 0 = KON[t] := by rw [List.getD_eq_getElem?_getD, List.getElem?_eq_getElem hlt]; rfl
    rw [e]; exact this _ (List.getElem_mem _)
  · have hl : KON.length = 64 := rfl
    have e : KON.getD t 0 = 0 := by simp [List.getD, List.getElem?_eq_none (show KON.length ≤ t by omega)]
    rw [e]; unfold W32; omega

structure R8 where
  a : Int
  b : Int
  c : Int
  d : Int
  e : Int
  f : Int
  g : Int
  h : Int
def R8.ok (s : R8) : Prop := W32 s.a ∧ W32 s.b ∧ W32 s.c ∧ W32 s.d ∧ W32 s.e ∧ W32 s.f ∧ W32 s.g ∧ W32 s.h
def t1F (K W : Int) (s : R8) : Int := ad (ad (ad (ad s.h (up1 s.e)) (cho s.e s.f s.g)) K) W
def t2F (s : R8) : Int := ad (up0 s.a) (maj s.a s.b s.c)
def rnd (K W : Int) (s : R8) : R8 := ⟨ad (t1F K W s) (t2F s), s.a, s.b, s.c, ad s.d (t1F K W s), s.e, s.f, s.g⟩
def rnds (W : List Int) : Nat → R8 → R8
  | 0, s => s
  | t + 1, s => rnd (KON.getD t 0) (W.getD t 0) (rnds W t s)
theorem rnds_ok (W : List Int) : ∀ t s, s.ok → (rnds W t s).ok := by
  intro t; induction t with
  | zero => intro s h; exact h
  | succ t ih =>
    intro s h
    obtain ⟨h1, h2, h3, h4, h5, h6, h7, h8⟩ := ih s h
    exact ⟨ad_w _ _, h1, h2, h3, ad_w _ _, h5, h6, h7⟩
def mixF (s : R8) (B : List Int) : R8 :=
  let r := rnds (extW B) 64 s
  ⟨ad s.a r.a, ad s.b r.b, ad s.c r.c, ad s.d r.d, ad s.e r.e, ad s.f r.f, ad s.g r.g, ad s.h r.h⟩
def R8.vals (s : R8) : Array Value := #[.int .u32 s.a, .int .u32 s.b, .int .u32 s.c, .int .u32 s.d, .int .u32 s.e, .int .u32 s.f, .int .u32 s.g, .int .u32 s.h]

theorem extN_w : ∀ k l, (∀ y ∈ l, W32 y) → ∀ y ∈ extN k l, W32 y := by
  intro k; induction k with
  | zero => intro l h; exact h
  | succ k ih =>
    intro l h y hy
    rw [extN] at hy
    rcases List.mem_append.1 hy with hy | hy
    · exact ih l h y hy
    · simp at hy; subst hy; exact ad_w _ _
theorem extW_w (B : List Int) (t : Nat) : W32 ((extW B).getD t 0) := by
  have h0 : ∀ y ∈ extW B, W32 y := extN_w 48 _ (by
    intro y hy
    simp only [ext0, List.mem_map] at hy
    obtain ⟨j, _, rfl⟩ := hy
    exact be32_w B j)
  by_cases ht : t < (extW B).length
  · have e : (extW B).getD t 0 = (extW B)[t] := by simp [List.getD, ht]
    rw [e]; exact h0 _ (List.getElem_mem _)
  · have e : (extW B).getD t 0 = 0 := by simp [List.getD, List.getElem?_eq_none (show (extW B).length ≤ t by omega)]
    rw [e]; unfold W32; omega
theorem extW_length (B : List Int) : (extW B).length = 64 := by simp [extW, extN_length, ext0_length]

section
variable {P : Program}
/-- A whole array into a block that was made last. -/
theorem wpList_store_fresh {ops : Array Oper} {rest : List Oper} {o : Oper} {a : Act} {w : World} {Q : Exit → Act → World → Prop} (hgd : o.guard = none) (ty : TypeId) (x y : Operand) (ho : o.op = .store ty x y)
    (g : Nat) (cells : Array Value) (hx : a.eval x = .pointer (some ⟨g, 0, none⟩)) (hy : a.eval y = .agg cells) (hg0 : g = w.heap.size)
    (old : Array Value) (hi : (P.info? ty).map (·.size) = some cells.size) (hold : old.size = cells.size) (h1 : cells.all (·.oneCell') = true)
    (h : wpList P ops Q rest (a.put o.dst undef) (w.alloc (.cells cells ty))) : wpList P ops Q (o :: rest) a (w.alloc (.cells old ty)) := by
  subst hg0
  refine wpList_store_row hgd ty x y ho w.heap.size cells hx hy ty old (heap_alloc_new _ _) hi hold h1 ?_
  rw [World.setRow_alloc_new]
  exact h
end

theorem Bytes64.lt {w : World} {b o : Nat} {B : List Int} (h : Bytes64 w b o B) : b < w.heap.size := by
  obtain ⟨_, _, _, _, hc⟩ := h 0 (by omega); exact World.block_lt_of_cell? w _ hc
theorem Bytes64.later {w w' : World} {b o : Nat} {B : List Int} (h : Bytes64 w b o B) (hb : Below w.heap.size w w') : Bytes64 w' b o B := fun j hj => by
  obtain ⟨y, h1, h2, h3, h4⟩ := h j hj
  exact ⟨y, h1, h2, h3, (hb.cell (p := ⟨b, o + j, none⟩) h.lt).trans h4⟩
theorem bel_two {w : World} (o1 o2 : Obj) : Below w.heap.size w ((w.alloc o1).alloc o2) := ((Below.refl _ _).alloc (Nat.le_refl _) _).alloc (by simp) _
/-- Where mix stands behind the words: the box of the state, the result's block, the words. -/
structure MixW (w w2 : World) (s : R8) (arr : Array Value) (g : Nat) : Prop where
  box : w2.heap[w.heap.size]? = some (.cells s.vals 94 (0, 0))
  res : w2.heap[w.heap.size + 1]? = some (.cells (ws (List.replicate 8 0)).toArray 94 (0, 0))
  row : w2.heap[g]? = some (.cells arr 102 (0, 0))
  glob : Glob w2
  bel : Below w.heap.size w w2
theorem MixW.drewN {w w2 : World} {s : R8} {arr : Array Value} {g : Nat} (h : MixW w w2 s arr g) (n : Nat) : MixW w (w2.drewN n) s arr g :=
  ⟨h.box, h.res, h.row, h.glob, ⟨h.bel.os, h.bel.tape, h.bel.output, h.bel.size, h.bel.block⟩⟩
theorem mixw_start {w w1 : World} {s : R8} {arr : Array Value} (hG : Glob w) (h : Below (((w.alloc (.cells s.vals 94)).alloc (.cells (ws (List.replicate 8 0)).toArray 94))).heap.size ((w.alloc (.cells s.vals 94)).alloc (.cells (ws (List.replicate 8 0)).toArray 94)) w1) :
    MixW w (w1.alloc (.cells arr 102)) s arr w1.heap.size := by
  have hs : w.heap.size + 2 ≤ w1.heap.size := by have := h.size; simp at this; omega
  have hb : Below w.heap.size w w1 := (bel_two _ _).trans (h.mono (by simp; omega))
  refine ⟨?_, ?_, heap_alloc_new _ _, hG.bel (hb.alloc hb.size _) hG.two, hb.alloc hb.size _⟩
  · rw [Below.heap_alloc _ _ _ (by omega), h.block _ (by simp; omega), heap_alloc2_old]
  · rw [Below.heap_alloc _ _ _ (by omega), h.block _ (by simp), heap_alloc2_new]
theorem quiet_left {P : Program} {f : FuncId} {args : Array Value} {w : World} {n : Nat} {v : Value}
    (h : Calls P f args (w.drewN n) fun e w' => e = .returned v ∧ w.drewN n = w') : Calls P f args (w.drewN n) fun e w'' => e = .returned v ∧ ∃ m, w'' = w.drewN m :=
  h.mono fun _ _ ⟨he, hw⟩ => ⟨he, n, hw.symm⟩
theorem Tryd.info8 : (Tryd.prog.info? 94).map (·.size) = some 8 := by kernel_rfl
theorem ok8 (a b c d e f g h : Int) : (#[.int .u32 a, .int .u32 b, .int .u32 c, .int .u32 d, .int .u32 e, .int .u32 f, .int .u32 g, .int .u32 h] : Array Value).all (·.oneCell') = true := ws_one [a, b, c, d, e, f, g, h]
theorem u32_eq {a b : Int} (h : a = b) : Value.int .u32 a = Value.int .u32 b := by rw [h]
theorem extend_arr (b o : Nat) (B : List Int) (arr : Array Value) (w : World) (harr : arr = (ws (extW B)).toArray) (h : Bytes64 w b o B) :
    Calls Tryd.prog 66 #[.pointer (some ⟨b, o, none⟩)] w fun e w' => e = .returned (.agg arr) ∧ Below w.heap.size w w' := by
  subst harr; exact extend_any b o B w h

set_option maxRecDepth 100000 in
set_option maxHeartbeats 1600000 in
theorem mix_any (s : R8) (b o : Nat) (B : List Int) (w : World) (hs : s.ok) (h : Bytes64 w b o B) (hG : Glob w) :
    Calls Tryd.prog 63 #[.agg s.vals, .pointer (some ⟨b, o, none⟩)] w fun e w' => e = .returned (.agg (mixF s B).vals) ∧ Below w.heap.size w w' := by
  have HB := hid_of h
  have HG := hid_of hG
  have HS := hid_of hs
  obtain ⟨⟨a0, a1⟩, ⟨b0, b1⟩, ⟨c0, c1⟩, ⟨d0, d1⟩, ⟨e0, e1⟩, ⟨f0, f1⟩, ⟨g0, g1⟩, ⟨h0, h1⟩⟩ := hs
  clear h hG
  obtain ⟨arr, harr⟩ : ∃ arr, arr = (ws (extW B)).toArray := ⟨_, rfl⟩
  have HARR := hid_of harr
  have HSZ : Hid (arr.size = 64) := hid_of (by rw [harr]; simp [ws]; exact extW_length B)
  have HI : Hid ((Tryd.prog.info? 102).map (·.size) = some arr.size) := hid_of (by rw [HSZ.out]; exact Tryd.info64)
  have H1 : Hid (arr.all (·.oneCell') = true) := hid_of (by rw [harr]; exact ws_one _)
  clear harr
  unfold R8.vals
  go_enter Tryd.func63, Tryd.ntmps63
  go_wp2_with (first
    | (go_at_call 66; refine (extend_arr b o B arr _ HARR.out (HB.out.later (bel_two _ _))).mono ?_; rintro e w1 ⟨rfl, h1⟩; have HB1 := hid_of h1; have hz1 : w.heap.size + 2 ≤ w1.heap.size := (by have := h1.size; simp at this; omega); clear h1)
    | (refine wpList_store_fresh rfl 102 (.tmp 5) (.tmp 18) rfl _ arr rfl rfl rfl _ HI.out (by rw [HSZ.out]; rfl) H1.out ?_))
  have hM := mixw_start (s := s) (arr := arr) HG.out HB1.out
  generalize w1.alloc (.cells arr 102) = w2 at *
  have q0 := cell_of_row _ _ 0 _ _ _ hM.box
  have q1 := cell_of_row _ _ 1 _ _ _ hM.box
  have q2 := cell_of_row _ _ 2 _ _ _ hM.box
  have q3 := cell_of_row _ _ 3 _ _ _ hM.box
  have q4 := cell_of_row _ _ 4 _ _ _ hM.box
  have q5 := cell_of_row _ _ 5 _ _ _ hM.box
  have q6 := cell_of_row _ _ 6 _ _ _ hM.box
  have q7 := cell_of_row _ _ 7 _ _ _ hM.box
  simp only [R8.vals] at q0 q1 q2 q3 q4 q5 q6 q7
  have HM := hid_of hM
  clear hM
  go_quiet (fail)
  go_wp2
  go_quiet (fail)
  go_wp2
  clear q0 q1 q2 q3 q4 q5 q6 q7
  go_loopw [6, 7, 8, 9, 10, 11, 12, 13, 35] (fun va vb vc vd ve vf vg vh iv wr => ∃ (t : Nat) (r : R8), t ≤ 64 ∧ iv = .int .i64 t ∧ va = .int .u32 r.a ∧ vb = .int .u32 r.b ∧ vc = .int .u32 r.c ∧ vd = .int .u32 r.d ∧ ve = .int .u32 r.e ∧ vf = .int .u32 r.f ∧ vg = .int .u32 r.g ∧ vh = .int .u32 r.h ∧
      Hid (r = rnds (extW B) t s) ∧ Hid (MixW w wr s arr w1.heap.size)) (fun _ _ _ _ _ _ _ _ iv _ => 64 - (intOf iv).toNat)
  case atStart => exact ⟨0, s, by omega, rfl, rfl, rfl, rfl, rfl, rfl, rfl, rfl, rfl, hid_of rfl, hid_of ((HM.out.drewN _).drewN _)⟩
  case round =>
    obtain ⟨t, r, ht, rfl, rfl, rfl, rfl, rfl, rfl, rfl, rfl, rfl, hr, hm⟩ := hrel
    have hok : r.ok := by rw [hr.out]; exact rnds_ok _ _ _ HS.out
    obtain ⟨oa, ob, oc, od, oe, of, og, oh⟩ := id hok
    by_cases hlt : t < 64
    · have kc := hm.out.glob.kon hlt
      have kw := kon_w t
      obtain ⟨kv, hkv⟩ : ∃ kv, kv = KON.getD t 0 := ⟨_, rfl⟩
      rw [← hkv] at kc kw
      have wc : wr.cell? ⟨w1.heap.size, t, none⟩ = some (.int .u32 ((extW B).getD t 0)) := by
        rw [cell_of_row _ _ _ _ _ _ hm.out.row, HARR.out]
        have := extW_length B
        simp [ws, List.getD, show t < (extW B).length by omega]
      have ww := extW_w B t
      obtain ⟨wv, hwv⟩ : ∃ wv, wv = (extW B).getD t 0 := ⟨_, rfl⟩
      rw [← hwv] at wc ww
      have HKV := hid_of hkv
      have HWV := hid_of hwv
      have bt : (t : Int) < 64 := by omega
      obtain ⟨kw0, kw1⟩ := kw
      obtain ⟨ww0, ww1⟩ := ww
      clear hkv hwv hok
      go_wp2
      go_quiet ((first
        | (go_at_call 67; exact quiet_left (upper1_any r.e _ oe))
        | (go_at_call 68; exact quiet_left (choose_any r.e r.f r.g _ oe of og))))
      go_wp2_with (first
        | (go_at_call 69; refine (upper0_any r.a _ oa).mono ?_; rintro e w' ⟨rfl, rfl⟩)
        | (go_at_call 70; refine (majority_any r.a r.b r.c _ oa ob oc).mono ?_; rintro e w' ⟨rfl, rfl⟩))
      go_roundw
      case rel =>
        refine ⟨t + 1, rnd kv wv r, by omega, by go_num, ?_, rfl, rfl, rfl, ?_, rfl, rfl, rfl, ?_, hid_of (hm.out.drewN _)⟩
        · exact u32_eq (by simp only [rnd, t1F, t2F]; unfold ad; omega)
        · exact u32_eq (by simp only [rnd, t1F]; unfold ad; omega)
        · exact hid_of (by rw [hr.out, HKV.out, HWV.out]; rfl)
      case measure => simp [intOf]; omega
    · obtain rfl : t = 64 := by omega
      have q0 := cell_of_row _ _ 0 _ _ _ hm.out.box
      have q1 := cell_of_row _ _ 1 _ _ _ hm.out.box
      have q2 := cell_of_row _ _ 2 _ _ _ hm.out.box
      have q3 := cell_of_row _ _ 3 _ _ _ hm.out.box
      have q4 := cell_of_row _ _ 4 _ _ _ hm.out.box
      have q5 := cell_of_row _ _ 5 _ _ _ hm.out.box
      have q6 := cell_of_row _ _ 6 _ _ _ hm.out.box
      have q7 := cell_of_row _ _ 7 _ _ _ hm.out.box
      simp only [R8.vals] at q0 q1 q2 q3 q4 q5 q6 q7
      obtain ⟨oa0, oa1⟩ := oa
      obtain ⟨ob0, ob1⟩ := ob
      obtain ⟨oc0, oc1⟩ := oc
      obtain ⟨od0, od1⟩ := od
      obtain ⟨oe0, oe1⟩ := oe
      obtain ⟨of0, of1⟩ := of
      obtain ⟨og0, og1⟩ := og
      obtain ⟨oh0, oh1⟩ := oh
      clear hok
      go_wp2_with (refine wpList_store_row rfl 94 (.tmp 4) (.tmp 107) rfl (w.heap.size + 1) #[.int .u32 ((s.a + r.a) % 4294967296), .int .u32 ((s.b + r.b) % 4294967296), .int .u32 ((s.c + r.c) % 4294967296), .int .u32 ((s.d + r.d) % 4294967296), .int .u32 ((s.e + r.e) % 4294967296), .int .u32 ((s.f + r.f) % 4294967296), .int .u32 ((s.g + r.g) % 4294967296), .int .u32 ((s.h + r.h) % 4294967296)] rfl rfl 94 _ hm.out.res Tryd.info8 rfl (ok8 _ _ _ _ _ _ _ _) ?_)
      have hfin : #[.int .u32 ((s.a + r.a) % 4294967296), .int .u32 ((s.b + r.b) % 4294967296), .int .u32 ((s.c + r.c) % 4294967296), .int .u32 ((s.d + r.d) % 4294967296), .int .u32 ((s.e + r.e) % 4294967296), .int .u32 ((s.f + r.f) % 4294967296), .int .u32 ((s.g + r.g) % 4294967296), .int .u32 ((s.h + r.h) % 4294967296)] = (mixF s B).vals := by
        unfold mixF
        rw [← hr.out]
        rfl
      rw [hfin]
      refine bodyPost_ret (results_cell_row rfl _ _ (w.heap.size + 1) 94 _ (0, 0) _ rfl (setRow_heap _ _ _ _ _ _ hm.out.res) Tryd.underlying94 rfl Tryd.info8) rfl ⟨rfl, ?_⟩
      exact below_setRow hm.out.bel (Nat.le_succ _) _
end Go.Proofs.YtlffiebnieakjaaDoor.Sh

/- The hash of a message, block by block: plain lists. No condition. -/
namespace Go.Proofs.YtlffiebnieakjaaDoor.Sh
open Go.RowKit

def INI8 : R8 := ⟨1779033703, 3144134277, 1013904242, 2773480762, 1359893119, 2600822924, 528734635, 1541459225⟩
theorem ini8_ok : INI8.ok := by unfold R8.ok W32 INI8; decide
/-- The state behind k whole blocks. -/
def hashN (m : List Int) : Nat → R8
  | 0 => INI8
  | k + 1 => mixF (hashN m k) ((m.drop (64 * k)).take 64)
def HB (m : List Int) : R8 := hashN m (m.length / 64)

theorem mixF_ok (s : R8) (B : List Int) : (mixF s B).ok := by
  unfold mixF R8.ok
  exact ⟨ad_w _ _, ad_w _ _, ad_w _ _, ad_w _ _, ad_w _ _, ad_w _ _, ad_w _ _, ad_w _ _⟩
theorem hashN_ok (m : List Int) : ∀ k, (hashN m k).ok := by
  intro k; cases k with
  | zero => exact ini8_ok
  | succ k => exact mixF_ok _ _
theorem HB_ok (m : List Int) : (HB m).ok := hashN_ok m _
theorem hashN_append (m l : List Int) : ∀ k, 64 * k ≤ m.length → hashN (m ++ l) k = hashN m k := by
  intro k; induction k with
  | zero => intro _; rfl
  | succ k ih =>
    intro h
    rw [hashN, hashN, ih (by omega)]
    congr 1
    rw [List.drop_append_of_le_length (by omega), List.take_append_of_le_length (by rw [List.length_drop]; omega)]

/-- The bytes behind the last whole block. -/
def tailOf (m : List Int) : List Int := m.drop (64 * (m.length / 64))
theorem tailOf_length (m : List Int) : (tailOf m).length = m.length % 64 := by
  unfold tailOf; rw [List.length_drop]; omega

theorem HB_short {m l : List Int} (h : m.length % 64 + l.length < 64) : HB (m ++ l) = HB m := by
  unfold HB
  have e : (m ++ l).length / 64 = m.length / 64 := by rw [List.length_append]; omega
  rw [e, hashN_append _ _ _ (by omega)]
theorem tail_short {m l : List Int} (h : m.length % 64 + l.length < 64) : tailOf (m ++ l) = tailOf m ++ l := by
  unfold tailOf
  have e : (m ++ l).length / 64 = m.length / 64 := by rw [List.length_append]; omega
  rw [e, List.drop_append_of_le_length (by omega)]
theorem HB_full {m l : List Int} (h : m.length % 64 + l.length = 64) : HB (m ++ l) = mixF (HB m) (tailOf m ++ l) := by
  unfold HB
  have e : (m ++ l).length / 64 = m.length / 64 + 1 := by rw [List.length_append]; omega
  rw [e, hashN, hashN_append _ _ _ (by omega)]
  congr 1
  unfold tailOf
  rw [List.drop_append_of_le_length (by omega), List.take_of_length_le (by rw [List.length_append, List.length_drop]; omega)]
theorem tail_full {m l : List Int} (h : m.length % 64 + l.length = 64) : tailOf (m ++ l) = [] := by
  have := tailOf_length (m ++ l)
  rw [List.length_append] at this
  exact List.eq_nil_of_length_eq_zero (by omega)

/-- The block behind a copy of X to place r. -/
def blk (B : List Int) (r : Nat) (X : List Int) : List Int := B.take r ++ (X ++ B.drop (r + X.length))
theorem blk_length {B X : List Int} {r : Nat} (hB : B.length = 64) (h : r + X.length ≤ 64) : (blk B r X).length = 64 := by
  unfold blk; simp; omega
theorem blk_take {B X : List Int} {r : Nat} (hB : B.length = 64) (h : r + X.length ≤ 64) : (blk B r X).take (r + X.length) = B.take r ++ X := by
  unfold blk
  rw [← List.append_assoc, List.take_append_of_le_length (by simp; omega), List.take_of_length_le (by simp; omega)]
theorem blk_full {B X : List Int} {r : Nat} (hB : B.length = 64) (h : r + X.length = 64) : blk B r X = B.take r ++ X := by
  unfold blk
  rw [List.drop_of_length_le (by omega), List.append_nil]

/-- The padding of a message of n bytes. -/
def zerosOf (n : Nat) : Nat := (119 - n % 64) % 64
def be8 (n : Nat) : List Int := [((n / 16777216 % 256 : Nat) : Int), ((n / 65536 % 256 : Nat) : Int), ((n / 256 % 256 : Nat) : Int), ((n % 256 : Nat) : Int)]
def padOf (n : Nat) : List Int := 128 :: (List.replicate (zerosOf n) 0 ++ (be8 (n * 8 / 4294967296) ++ be8 (n * 8 % 4294967296)))
theorem padOf_length (n : Nat) : (padOf n).length = 9 + zerosOf n := by unfold padOf be8; simp; omega
theorem pad_whole (n : Nat) : (n + (padOf n).length) % 64 = 0 := by rw [padOf_length]; unfold zerosOf; omega
def wordBytes (x : Int) : List Int := [x / 16777216 % 256, x / 65536 % 256, x / 256 % 256, x % 256]
def digestOf (s : R8) : List Int := wordBytes s.a ++ (wordBytes s.b ++ (wordBytes s.c ++ (wordBytes s.d ++ (wordBytes s.e ++ (wordBytes s.f ++ (wordBytes s.g ++ wordBytes s.h))))))
/-- The digest of a message. -/
def digest (m : List Int) : List Int := digestOf (HB (m ++ padOf m.length))

end Go.Proofs.YtlffiebnieakjaaDoor.Sh

/- Write: the state of a message, and what is written to it. Bounds on the sizes. -/
namespace Go.Proofs.YtlffiebnieakjaaDoor.Sh
open Go.RowKit

/-- The cells of a list of bytes. -/
def bs (l : List Int) : List Value := l.map (Value.int .u8)
theorem bs_length (l : List Int) : (bs l).length = l.length := by simp [bs]
theorem bs_one (l : List Int) : ∀ v ∈ bs l, v.oneCell' = true := by
  intro v hv; simp [bs] at hv; obtain ⟨x, _, rfl⟩ := hv; rfl
theorem bs_append (a b : List Int) : bs (a ++ b) = bs a ++ bs b := by simp [bs]
theorem bs_take (a : List Int) (n : Nat) : bs (a.take n) = (bs a).take n := by simp [bs]
theorem bs_drop (a : List Int) (n : Nat) : bs (a.drop n) = (bs a).drop n := by simp [bs]
theorem Tryd.sizeU8 : (Tryd.prog.info? 5).map (·.size) = some 1 := by kernel_rfl

/-- Between w and w' nothing has turned but the blocks of S and new ones. -/
structure Kept (S : Nat → Prop) (w w' : World) : Prop where
  os : w'.os = w.os
  tape : w'.tape = w.tape
  output : w'.output = w.output
  size : w.heap.size ≤ w'.heap.size
  block : ∀ k, k < w.heap.size → ¬ S k → w'.heap[k]? = w.heap[k]?
theorem Kept.below {S : Nat → Prop} {w w' : World} {B : Nat} (h : Kept S w w') (hB : B ≤ w.heap.size) (hS : ∀ k, S k → B ≤ k) : Below B w w' :=
  ⟨h.os, h.tape, h.output, h.size, fun k hk => h.block k (by omega) (fun hs => by have := hS k hs; omega)⟩
theorem Kept.refl (S : Nat → Prop) (w : World) : Kept S w w := ⟨rfl, rfl, rfl, Nat.le_refl _, fun _ _ _ => rfl⟩
theorem Kept.trans {S : Nat → Prop} {a b c : World} (h : Kept S a b) (k : Kept S b c) : Kept S a c :=
  ⟨k.os.trans h.os, k.tape.trans h.tape, k.output.trans h.output, Nat.le_trans h.size k.size, fun q hq hS => (k.block q (Nat.lt_of_lt_of_le hq h.size) hS).trans (h.block q hq hS)⟩
theorem Kept.ofBelow {S : Nat → Prop} {a b : World} (h : Below a.heap.size a b) : Kept S a b := ⟨h.os, h.tape, h.output, h.size, fun q hq _ => h.block q hq⟩
theorem Kept.setCell {S : Nat → Prop} {a b : World} (h : Kept S a b) {p : Addr} (hp : S p.block) (u : Value) : Kept S a (b.setCell p u) :=
  h.trans ⟨rfl, rfl, rfl, by show _ ≤ (b.heap.modify _ _).size; rw [Array.size_modify]; exact Nat.le_refl _, fun q hq hS => Below.heap_setCell _ _ _ _ (fun e => hS (by rw [e]; exact hp))⟩
theorem Kept.setRow {S : Nat → Prop} {a b : World} {g : Nat} (h : Kept S a b) (hg : S g) (cs : Array Value) : Kept S a (b.setRow g cs) :=
  h.trans ⟨rfl, rfl, rfl, by simp [World.setRow], fun q hq hS => setRow_other _ _ _ _ (fun e => hS (by rw [e]; exact hg))⟩
theorem Kept.drew {S : Nat → Prop} {a b : World} (h : Kept S a b) : Kept S a b.drew := ⟨h.os, h.tape, h.output, h.size, h.block⟩
theorem Kept.drewN {S : Nat → Prop} {a b : World} (h : Kept S a b) (n : Nat) : Kept S a (b.drewN n) := ⟨h.os, h.tape, h.output, h.size, h.block⟩

theorem Kept.set1 {b j : Nat} {a w : World} (h : Kept (fun k => k = b) a w) (u : Value) : Kept (fun k => k = b) a (w.setCell ⟨b, j, none⟩ u) := h.setCell (p := ⟨b, j, none⟩) (show b = b from rfl) u

/-- The cells of a State: the words, the block, the length. -/
def rowSt (s : R8) (B : List Int) (n : Nat) : List Value := s.vals.toList ++ (bs B ++ [.int .i64 n])
theorem rowSt_length (s : R8) (B : List Int) (n : Nat) (h : B.length = 64) : (rowSt s B n).length = 73 := by simp [rowSt, bs, R8.vals, h]
/-- The State in block b. -/
structure SB (w : World) (b : Nat) (s : R8) (B : List Int) (n : Nat) : Prop where
  len : B.length = 64
  rng : ∀ y ∈ B, 0 ≤ y ∧ y ≤ 255
  blk : w.heap[b]? = some (.cells (rowSt s B n).toArray 107 (0, 0))
theorem SB.lt {w : World} {b : Nat} {s : R8} {B : List Int} {n : Nat} (h : SB w b s B n) : b < w.heap.size := lt_of_block h.blk
theorem SB.cell {w : World} {b : Nat} {s : R8} {B : List Int} {n : Nat} (h : SB w b s B n) (j : Nat) : w.cell? ⟨b, j, none⟩ = (rowSt s B n)[j]? := by
  rw [cell_of_row _ _ _ _ _ _ h.blk]; simp
theorem SB.free {w : World} {b : Nat} {s : R8} {B : List Int} {n : Nat} (h : SB w b s B n) (j : Nat) : w.frozen? ⟨b, j, none⟩ = false := frozen_of_row _ _ _ _ _ h.blk
theorem SB.word {w : World} {b : Nat} {s : R8} {B : List Int} {n : Nat} (h : SB w b s B n) :
    w.cell? ⟨b, 0, none⟩ = some (.int .u32 s.a) ∧ w.cell? ⟨b, 1, none⟩ = some (.int .u32 s.b) ∧ w.cell? ⟨b, 2, none⟩ = some (.int .u32 s.c) ∧ w.cell? ⟨b, 3, none⟩ = some (.int .u32 s.d) ∧
    w.cell? ⟨b, 4, none⟩ = some (.int .u32 s.e) ∧ w.cell? ⟨b, 5, none⟩ = some (.int .u32 s.f) ∧ w.cell? ⟨b, 6, none⟩ = some (.int .u32 s.g) ∧ w.cell? ⟨b, 7, none⟩ = some (.int .u32 s.h) :=
  ⟨h.cell 0, h.cell 1, h.cell 2, h.cell 3, h.cell 4, h.cell 5, h.cell 6, h.cell 7⟩
theorem SB.length {w : World} {b : Nat} {s : R8} {B : List Int} {n : Nat} (h : SB w b s B n) : w.cell? ⟨b, 72, none⟩ = some (.int .i64 n) := by
  rw [h.cell]
  have e : (rowSt s B n) = (s.vals.toList ++ bs B) ++ [.int .i64 n] := by simp [rowSt]
  have hl : (s.vals.toList ++ bs B).length = 72 := by simp [bs, R8.vals, h.len]
  rw [e, List.getElem?_append_right (by omega), hl]
  rfl
theorem SB.bytes {w : World} {b : Nat} {s : R8} {B : List Int} {n : Nat} (h : SB w b s B n) : Bytes64 w b 8 B := fun j hj => by
  have hj2 : j < B.length := by rw [h.len]; exact hj
  refine ⟨B[j], List.getElem?_eq_getElem hj2, (h.rng _ (List.getElem_mem hj2)).1, (h.rng _ (List.getElem_mem hj2)).2, ?_⟩
  rw [h.cell]
  have hl : s.vals.toList.length = 8 := by simp [R8.vals]
  unfold rowSt
  rw [List.getElem?_append_right (by omega), hl, show 8 + j - 8 = j by omega, List.getElem?_append_left (by rw [bs_length]; exact hj2)]
  simp [bs, hj2]
theorem SB.later {w w' : World} {b : Nat} {s : R8} {B : List Int} {n : Nat} (h : SB w b s B n) (hb : w'.heap[b]? = w.heap[b]?) : SB w' b s B n := ⟨h.len, h.rng, hb.trans h.blk⟩
theorem SB.setLen {w : World} {b : Nat} {s : R8} {B : List Int} {n : Nat} (h : SB w b s B n) (n' : Nat) : SB (w.setCell ⟨b, 72, none⟩ (.int .i64 n')) b s B n' := by
  refine ⟨h.len, h.rng, ?_⟩
  rw [heap_setCell_same _ _ _ _ _ _ h.blk]
  congr 2
  apply Array.ext'
  have hl : (s.vals.toList ++ bs B).length = 72 := by simp [bs, R8.vals, h.len]
  have e : ∀ n : Nat, (rowSt s B n) = (s.vals.toList ++ bs B) ++ [.int .i64 n] := fun n => by simp [rowSt]
  rw [e, e]
  simp only [Array.toList_setIfInBounds]
  rw [List.set_append_right _ _ (by omega), hl]
  rfl
theorem SB.setWords {w : World} {b : Nat} {s : R8} {B : List Int} {n : Nat} (h : SB w b s B n) (q : R8) :
    SB ((((((((w.setCell ⟨b, 0, none⟩ (.int .u32 q.a)).setCell ⟨b, 1, none⟩ (.int .u32 q.b)).setCell ⟨b, 2, none⟩ (.int .u32 q.c)).setCell ⟨b, 3, none⟩ (.int .u32 q.d)).setCell ⟨b, 4, none⟩ (.int .u32 q.e)).setCell ⟨b, 5, none⟩ (.int .u32 q.f)).setCell ⟨b, 6, none⟩ (.int .u32 q.g)).setCell ⟨b, 7, none⟩ (.int .u32 q.h)) b q B n := by
  refine ⟨h.len, h.rng, ?_⟩
  have h1 := heap_setCell_same _ _ 0 _ _ (.int .u32 q.a) h.blk
  have h2 := heap_setCell_same _ _ 1 _ _ (.int .u32 q.b) h1
  have h3 := heap_setCell_same _ _ 2 _ _ (.int .u32 q.c) h2
  have h4 := heap_setCell_same _ _ 3 _ _ (.int .u32 q.d) h3
  have h5 := heap_setCell_same _ _ 4 _ _ (.int .u32 q.e) h4
  have h6 := heap_setCell_same _ _ 5 _ _ (.int .u32 q.f) h5
  have h7 := heap_setCell_same _ _ 6 _ _ (.int .u32 q.g) h6
  have h8 := heap_setCell_same _ _ 7 _ _ (.int .u32 q.h) h7
  refine h8.trans (congrArg (fun x => some (Obj.cells x 107 (0, 0))) ?_)
  apply Array.ext'
  simp [rowSt, R8.vals]
theorem setWords_kept {w : World} {b : Nat} (q : R8) : Kept (fun k => k = b) w
    ((((((((w.setCell ⟨b, 0, none⟩ (.int .u32 q.a)).setCell ⟨b, 1, none⟩ (.int .u32 q.b)).setCell ⟨b, 2, none⟩ (.int .u32 q.c)).setCell ⟨b, 3, none⟩ (.int .u32 q.d)).setCell ⟨b, 4, none⟩ (.int .u32 q.e)).setCell ⟨b, 5, none⟩ (.int .u32 q.f)).setCell ⟨b, 6, none⟩ (.int .u32 q.g)).setCell ⟨b, 7, none⟩ (.int .u32 q.h)) := by
  have h0 := Kept.refl (fun k => k = b) w
  have h1 := Kept.set1 (b := b) (j := 0) h0 (.int .u32 q.a)
  have h2 := Kept.set1 (b := b) (j := 1) h1 (.int .u32 q.b)
  have h3 := Kept.set1 (b := b) (j := 2) h2 (.int .u32 q.c)
  have h4 := Kept.set1 (b := b) (j := 3) h3 (.int .u32 q.d)
  have h5 := Kept.set1 (b := b) (j := 4) h4 (.int .u32 q.e)
  have h6 := Kept.set1 (b := b) (j := 5) h5 (.int .u32 q.f)
  have h7 := Kept.set1 (b := b) (j := 6) h6 (.int .u32 q.g)
  have h8 := Kept.set1 (b := b) (j := 7) h7 (.int .u32 q.h)
  exact h8
theorem SB.copy {w : World} {b r : Nat} {s : R8} {B X : List Int} {n : Nat} (h : SB w b s B n) (hr : r + X.length ≤ 64) (hX : ∀ y ∈ X, 0 ≤ y ∧ y ≤ 255) :
    SB (w.setRow b ((rowSt s B n).toArray.toList.take (8 + r) ++ (bs X ++ (rowSt s B n).toArray.toList.drop (8 + r + (bs X).length))).toArray) b s (_root_.Go.Proofs.YtlffiebnieakjaaDoor.Sh.blk B r X) n := by
  refine ⟨blk_length h.len hr, ?_, ?_⟩
  · intro y hy
    unfold _root_.Go.Proofs.YtlffiebnieakjaaDoor.Sh.blk at hy
    simp only [List.mem_append] at hy
    rcases hy with hy | hy | hy
    · exact h.rng y (List.mem_of_mem_take hy)
    · exact hX y hy
    · exact h.rng y (List.mem_of_mem_drop hy)
  · rw [setRow_heap _ _ _ _ _ _ h.blk]
    congr 2
    apply Array.ext'
    have hl : s.vals.toList.length = 8 := by simp [R8.vals]
    have hb : (bs B).length = 64 := by rw [bs_length, h.len]
    simp only [rowSt, _root_.Go.Proofs.YtlffiebnieakjaaDoor.Sh.blk, bs_append, bs_take, bs_drop]
    rw [List.take_append, hl, List.take_of_length_le (l := s.vals.toList) (by omega), show 8 + r - 8 = r by omega, List.take_append_of_le_length (by omega), bs_length,
      List.drop_append, hl, List.drop_of_length_le (l := s.vals.toList) (by omega), show 8 + r + X.length - 8 = r + X.length by omega, List.drop_append_of_le_length (by omega)]
    simp

/-- The State in block b has been written m. -/
def Sst (w : World) (b : Nat) (m : List Int) : Prop := ∃ B, SB w b (HB m) B m.length ∧ B.take (m.length % 64) = tailOf m
theorem Sst.later {w w' : World} {b : Nat} {m : List Int} (h : Sst w b m) (hb : w'.heap[b]? = w.heap[b]?) : Sst w' b m := by
  obtain ⟨B, h1, h2⟩ := h; exact ⟨B, h1.later hb, h2⟩
theorem Sst.lt {w : World} {b : Nat} {m : List Int} (h : Sst w b m) : b < w.heap.size := by
  obtain ⟨B, h1, _⟩ := h; exact h1.lt
theorem Sst.short {w : World} {b : Nat} {m X B : List Int} (hr : m.length % 64 + X.length < 64) (hB : B.length = 64) (ht : B.take (m.length % 64) = tailOf m)
    (h : SB w b (HB m) (blk B (m.length % 64) X) (m ++ X).length) : Sst w b (m ++ X) := by
  refine ⟨_, by rw [HB_short hr]; exact h, ?_⟩
  rw [tail_short hr, ← ht, ← blk_take hB (by omega)]
  congr 1
  rw [List.length_append]; omega
theorem Sst.full {w : World} {b : Nat} {m X B : List Int} (hr : m.length % 64 + X.length = 64) (hB : B.length = 64) (ht : B.take (m.length % 64) = tailOf m)
    (h : SB w b (mixF (HB m) (blk B (m.length % 64) X)) (blk B (m.length % 64) X) (m ++ X).length) : Sst w b (m ++ X) := by
  refine ⟨_, by rw [HB_full hr, ← ht, ← blk_full hB hr]; exact h, ?_⟩
  rw [tail_full hr]
  have e : (m ++ X).length % 64 = 0 := by rw [List.length_append]; omega
  rw [e]; rfl

end Go.Proofs.YtlffiebnieakjaaDoor.Sh

/- Write: its walk. Bounds on the sizes. -/
namespace Go.Proofs.YtlffiebnieakjaaDoor.Sh
open Go.RowKit

def lenOf : Value → Nat
  | .slice _ n _ => n
  | _ => 0

/-- What is still to be written: the slice v reads as l, and lies outside of block b. -/
def Rest (w : World) (b : Nat) (v : Value) (l : List Int) : Prop :=
  ∃ ao cap, v = .slice ao l.length cap ∧ l.length ≤ cap ∧ cap ≤ 9223372036854775807 ∧ (0 < l.length → ∃ g o, ao = some ⟨g, o, none⟩ ∧ g ≠ b ∧ g < w.heap.size ∧ ∀ j u, (bs l)[j]? = some u → w.cell? ⟨g, o + j, none⟩ = some u)
theorem Rest.kept {w w' : World} {b : Nat} {v : Value} {l : List Int} (h : Rest w b v l) (hk : Kept (fun k => k = b) w w') : Rest w' b v l := by
  obtain ⟨ao, cap, h1, h2, h3, h4⟩ := h
  refine ⟨ao, cap, h1, h2, h3, fun h0 => ?_⟩
  obtain ⟨g, o, q1, q2, q3, q4⟩ := h4 h0
  exact ⟨g, o, q1, q2, Nat.lt_of_lt_of_le q3 hk.size, fun j u hu => (World.cell?_of_block (a := ⟨g, o + j, none⟩) (hk.block g q3 q2)).trans (q4 j u hu)⟩

theorem Rest.next {w w' : World} {b k q c g o cap : Nat} {l : List Int} (hk : Kept (fun k => k = b) w w') (hl : (l.drop k).length = q) (hc : c ≤ q) (hcap : q ≤ cap) (hcap2 : cap ≤ 9223372036854775807) (hgb : g ≠ b) (hgl : g < w.heap.size)
    (hcells : ∀ j u, (bs (l.drop k))[j]? = some u → w.cell? ⟨g, o + j, none⟩ = some u) : Rest w' b (.slice (some ⟨g, o + c, none⟩) (q - c) (cap - c)) (l.drop (k + c)) := by
  have e : (l.drop (k + c)).length = q - c := by rw [← hl, List.length_drop, List.length_drop]; omega
  refine ⟨_, _, by rw [e], by omega, by omega, fun _ => ⟨g, o + c, rfl, hgb, Nat.lt_of_lt_of_le hgl hk.size, fun j u hu => ?_⟩⟩
  refine (World.cell?_of_block (a := ⟨g, o + c + j, none⟩) (hk.block g hgl hgb)).trans ?_
  rw [Nat.add_assoc]
  refine hcells (c + j) u ?_
  rw [← List.drop_drop, bs_drop, List.getElem?_drop] at hu
  exact hu
theorem Rest.last {w' : World} {b k q c : Nat} {l : List Int} {ao : Option Addr} (hl : (l.drop k).length = q) (hc : q = c) : Rest w' b (.slice ao (q - c) 0) (l.drop (k + c)) := by
  have e : (l.drop (k + c)).length = q - c := by rw [← hl, List.length_drop, List.length_drop]; omega
  exact ⟨_, _, by rw [e], by omega, by omega, fun h => by omega⟩
theorem take_step {m l M X : List Int} {k c : Nat} (hM : M = m ++ l.take k) (hX : X = (l.drop k).take c) : m ++ l.take (k + c) = M ++ X := by
  rw [hM, hX, List.append_assoc, List.take_add]
theorem SB.setLen' {w : World} {b : Nat} {s : R8} {B : List Int} {n n' : Nat} {z : Int} (h : SB w b s B n) (hz : z = n') : SB (w.setCell ⟨b, 72, none⟩ (.int .i64 z)) b s B n' := by
  subst hz; exact h.setLen n'
theorem mix_q (s q : R8) (b o : Nat) (B : List Int) (w : World) (hq : q = mixF s B) (hs : s.ok) (h : Bytes64 w b o B) (hG : Glob w) :
    Calls Tryd.prog 63 #[.agg #[.int .u32 s.a, .int .u32 s.b, .int .u32 s.c, .int .u32 s.d, .int .u32 s.e, .int .u32 s.f, .int .u32 s.g, .int .u32 s.h], .pointer (some ⟨b, o, none⟩)] w fun e w' =>
      e = .returned (.agg #[.int .u32 q.a, .int .u32 q.b, .int .u32 q.c, .int .u32 q.d, .int .u32 q.e, .int .u32 q.f, .int .u32 q.g, .int .u32 q.h]) ∧ Below w.heap.size w w' := by
  subst hq; exact mix_any s b o B w hs h hG
theorem Glob.kept {w w' : World} {b : Nat} (h : Glob w) (hb : 2 ≤ b) (hk : Kept (fun k => k = b) w w') : Glob w' :=
  h.bel (hk.below h.two (fun k hk => by omega)) (Nat.le_refl _)

set_option maxRecDepth 100000 in
set_option maxHeartbeats 3200000 in
theorem write_any (b : Nat) (m l : List Int) (v : Value) (w : World) (h : Sst w b m) (hR : Rest w b v l) (hl : ∀ y ∈ l, 0 ≤ y ∧ y ≤ 255) (hG : Glob w) (hb : 2 ≤ b) (hn : m.length + l.length ≤ 1000000000000) :
    Calls Tryd.prog 59 #[.pointer (some ⟨b, 0, none⟩), v] w fun e w' => e = .returned (.tuple #[]) ∧ Sst w' b (m ++ l) ∧ Kept (fun k => k = b) w w' := by
  have H := hid_of h
  have HR := hid_of hR
  have HL := hid_of hl
  have HG := hid_of hG
  clear h hR hl hG
  go_enter Tryd.func59, Tryd.ntmps59
  go_wp2
  go_loopw [1] (fun q wr => ∃ k : Nat, k ≤ l.length ∧ Hid (Rest wr b q (l.drop k)) ∧ Hid (Sst wr b (m ++ l.take k)) ∧ Hid (Kept (fun k => k = b) w wr)) (fun q _ => lenOf q)
  case atStart => exact ⟨0, Nat.zero_le _, hid_of (by simpa using HR.out), hid_of (by simpa using H.out), hid_of (Kept.refl _ _)⟩
  case round =>
    obtain ⟨k, hk, hrest, hst, hkept⟩ := hrel
    obtain ⟨ao, cap, rfl, hcap, hcap2, hsrc⟩ := hrest.out
    obtain ⟨q, hq⟩ : ∃ q, q = (l.drop k).length := ⟨_, rfl⟩
    rw [← hq] at hcap hsrc ⊢
    have HQ := hid_of hq
    have hqk : q = l.length - k := by rw [hq, List.length_drop]
    have HQK := hid_of hqk
    have hq1 : q ≤ 1000000000000 := by omega
    clear hq
    by_cases h0 : 0 < q
    · obtain ⟨g, o, rfl, hgb, hgl, hcells⟩ := hsrc h0
      obtain ⟨B, hsb, htail⟩ := hst.out
      obtain ⟨M, hM⟩ : ∃ M, M = m ++ l.take k := ⟨_, rfl⟩
      rw [← hM] at hsb htail
      have hML : M.length = m.length + k := by rw [hM, List.length_append, List.length_take]; omega
      have hM1 : M.length ≤ 1000000000000 := by omega
      have HM := hid_of hM
      have cl := hsb.length
      have HSB := hid_of hsb
      have HT := hid_of htail
      have HC := hid_of hcells
      clear hM hML hsb htail hcells hqk
      obtain ⟨r, hr⟩ : ∃ r, r = M.length % 64 := ⟨_, rfl⟩
      have hr64 : r < 64 := by omega
      have hrI : ((M.length : Int) % 64) = (r : Int) := by omega
      have HRR := hid_of hr
      have hrT : (M.length : Int).tmod 64 = (r : Int) := by rw [Int.tmod_eq_emod_of_nonneg (by omega)]; omega
      have hrW : IntKind.i64.wrap (r : Int) = (r : Int) := IntWalk.i64_in _ (by omega)
      have hr1 : (r : Int) ≤ 64 := by omega
      have hr2 : ¬ (64 = r) := by omega
      clear hr
      obtain ⟨c, hc⟩ : ∃ c, c = Nat.min q (64 - r) := ⟨_, rfl⟩
      have hcq : c ≤ q := by rw [hc]; exact Nat.min_le_left _ _
      have hcr : r + c ≤ 64 := by have : c ≤ 64 - r := by { rw [hc]; exact Nat.min_le_right _ _ }
                                  omega
      have hc0 : 0 < c := by rw [hc]; show 0 < min q (64 - r); omega
      have HC0 := hid_of hc
      clear hc
      obtain ⟨X, hX⟩ : ∃ X, X = (l.drop k).take c := ⟨_, rfl⟩
      have HX := hid_of hX
      have HXL : Hid (X.length = c) := hid_of (by rw [hX, List.length_take, List.length_drop]; have := HQK.out; omega)
      have HXR : Hid (∀ y ∈ X, 0 ≤ y ∧ y ≤ 255) := hid_of (by rw [hX]; exact fun y hy => HL.out y (List.mem_of_mem_drop (List.mem_of_mem_take hy)))
      clear hX
      obtain ⟨s, hs⟩ : ∃ s, s = HB M := ⟨_, rfl⟩
      rw [← hs] at HSB
      have HS := hid_of hs
      clear hs
      go_wp2
      go_still_tail 10, (by kernel_rfl)
      clear hrT hrW hr1 hr2 cl
      change wpList _ _ _ _ _ wr.drew
      have HSB2 : Hid (SB wr.drew b s B M.length) := hid_of ⟨HSB.out.len, HSB.out.rng, HSB.out.blk⟩
      have HW2 : Hid (Kept (fun k => k = b) wr wr.drew) := hid_of (Kept.refl _ _).drew
      have HK2 : Hid (Kept (fun k => k = b) w wr.drew) := hid_of hkept.out.drew
      have HC2 : Hid (∀ j u, (bs (l.drop k))[j]? = some u → wr.drew.cell? ⟨g, o + j, none⟩ = some u) := HC
      generalize wr.drew = w2 at *
      refine wpList_copy_own rfl (.tmp 16) (.tmp 17) 32 32 rfl 5 Tryd.underlying32 Tryd.sizeU8 b (8 + r) (64 - r) (64 - r) ⟨g, o, none⟩ q cap rfl rfl (rowSt s B M.length).toArray 107 HSB2.out.blk (bs X) (by rw [bs_length, HXL.out]; exact HC0.out) ?_ ?_ (bs_one X) ?_
      · intro j u hu
        rw [Addr.add_mid]
        refine HC2.out j u ?_
        rw [HX.out, bs_take, List.getElem?_take] at hu
        split at hu
        · exact hu
        · cases hu
      · have := rowSt_length s B M.length HSB2.out.len
        simp only [List.size_toArray, bs_length, HXL.out]
        omega
      have HSB3 := hid_of (HSB2.out.copy (X := X) (r := r) (by rw [HXL.out]; exact hcr) HXR.out)
      have HK3 := hid_of (HK2.out.setRow (g := b) rfl ((rowSt s B M.length).toArray.toList.take (8 + r) ++ (bs X ++ (rowSt s B M.length).toArray.toList.drop (8 + r + (bs X).length))).toArray)
      have HW3 := hid_of (HW2.out.setRow (g := b) rfl ((rowSt s B M.length).toArray.toList.take (8 + r) ++ (bs X ++ (rowSt s B M.length).toArray.toList.drop (8 + r + (bs X).length))).toArray)
      generalize w2.setRow b ((rowSt s B M.length).toArray.toList.take (8 + r) ++ (bs X ++ (rowSt s B M.length).toArray.toList.drop (8 + r + (bs X).length))).toArray = w3 at *
      rw [bs_length, HXL.out]
      obtain ⟨B1, hB1⟩ : ∃ B1, B1 = blk B r X := ⟨_, rfl⟩
      rw [← hB1] at HSB3
      have HB1 := hid_of hB1
      clear hB1
      have cl := HSB3.out.length
      have fl := HSB3.out.free 72
      have hml : M.length ≤ 1000000000000 := hM1
      have HSB4 : Hid (SB (w3.setCell ⟨b, 72, none⟩ (.int .i64 ((M.length : Int) + (c : Int)))) b s B1 (M.length + c)) := hid_of (HSB3.out.setLen' (by push_cast; rfl))
      have HK4 := hid_of (HK3.out.set1 (j := 72) (.int .i64 ((M.length : Int) + (c : Int))))
      have HW4 := hid_of (HW3.out.set1 (j := 72) (.int .i64 ((M.length : Int) + (c : Int))))
      have HXM : Hid (m ++ l.take (k + c) = M ++ X) := hid_of (take_step HM.out HX.out)
      have HMX : Hid ((M ++ X).length = M.length + c) := hid_of (by rw [List.length_append, HXL.out])
      by_cases hfull : r + c = 64
      · by_cases hcc : cap = c
        all_goals
          go_wp2
          generalize w3.setCell ⟨b, 72, none⟩ (.int .i64 ((M.length : Int) + (c : Int))) = w4 at *
          have HSB4D : Hid (SB w4.drew b s B1 (M.length + c)) := hid_of ⟨HSB4.out.len, HSB4.out.rng, HSB4.out.blk⟩
          have HG4 : Hid (Glob w4.drew) := hid_of (HG.out.kept hb HK4.out.drew)
          obtain ⟨x0, x1, x2, x3, x4, x5, x6, x7⟩ := HSB4D.out.word
          obtain ⟨mq, hmq⟩ : ∃ mq, mq = mixF s B1 := ⟨_, rfl⟩
          have HMQ := hid_of hmq
          clear hmq
          go_region_with ((go_at_call 63; refine (mix_q s mq b 8 B1 w4.drew HMQ.out (by rw [HS.out]; exact HB_ok M) HSB4D.out.bytes HG4.out).mono ?_; rintro e w5 ⟨rfl, h5⟩; have HSB5 := hid_of (HSB4D.out.later (h5.block b HSB4D.out.lt)); have HB5 := hid_of h5; clear h5; obtain ⟨z0, z1, z2, z3, z4, z5, z6, z7⟩ := HSB5.out.word; have f0 := HSB5.out.free 0; have f1 := HSB5.out.free 1; have f2 := HSB5.out.free 2; have f3 := HSB5.out.free 3; have f4 := HSB5.out.free 4; have f5 := HSB5.out.free 5; have f6 := HSB5.out.free 6; have f7 := HSB5.out.free 7))
          go_wp2
          go_roundw
          case rel =>
            have HK6 := (HK4.out.drew.trans (Kept.ofBelow HB5.out)).trans (setWords_kept mq)
            have HW6 := (HW4.out.drew.trans (Kept.ofBelow HB5.out)).trans (setWords_kept mq)
            refine ⟨k + c, by have := HQK.out; omega, ?_, hid_of ?_, hid_of HK6⟩
            · first
              | exact hid_of (Rest.next HW6 HQ.out.symm hcq hcap hcap2 hgb hgl HC.out)
              | exact hid_of (Rest.last HQ.out.symm (by omega))
            · rw [HXM.out]
              refine Sst.full (by rw [← HRR.out, HXL.out]; exact hfull) HSB2.out.len HT.out ?_
              rw [← HRR.out, ← HB1.out, HMX.out, ← HS.out, ← HMQ.out]
              exact HSB5.out.setWords mq
          case measure => simp only [lenOf]; omega
      · by_cases hcc : cap = c
        all_goals
          go_wp2
          go_roundw
          case rel =>
            refine ⟨k + c, by have := HQK.out; omega, ?_, hid_of ?_, HK4⟩
            · first
              | exact hid_of (Rest.next HW4.out HQ.out.symm hcq hcap hcap2 hgb hgl HC.out)
              | exact hid_of (Rest.last HQ.out.symm (by omega))
            · rw [HXM.out]
              refine Sst.short (by rw [← HRR.out, HXL.out]; omega) HSB2.out.len HT.out ?_
              rw [← HRR.out, ← HB1.out, HMX.out, ← HS.out]
              exact HSB4.out
          case measure => simp only [lenOf]; omega
    · have hkl : k = l.length := by have := HQK.out; omega
      go_wp2
      go_end0
      refine ⟨rfl, ?_, hkept.out⟩
      have := hst.out
      rw [hkl, List.take_length] at this
      exact this
end Go.Proofs.YtlffiebnieakjaaDoor.Sh

/- putWord, New. Bounds on the sizes. -/
namespace Go.Proofs.YtlffiebnieakjaaDoor.Sh
open Go.RowKit

/-- The row behind a word at place o. -/
def put4 (D : List Int) (o : Nat) (x : Int) : List Int := D.take o ++ (wordBytes x ++ D.drop (o + 4))
theorem put4_length {D : List Int} {o : Nat} {x : Int} (h : o + 4 ≤ D.length) : (put4 D o x).length = D.length := by
  unfold put4 wordBytes; simp; omega
theorem set4 {D : List Int} {o : Nat} {x : Int} (h : o + 4 ≤ D.length) :
    ((((D.set o (x / 16777216 % 256)).set (o + 1) (x / 65536 % 256)).set (o + 2) (x / 256 % 256)).set (o + 3) (x % 256)) = put4 D o x := by
  have e : D = D.take o ++ D.drop o := (List.take_append_drop o D).symm
  obtain ⟨a0, a1, a2, a3, R, hR⟩ : ∃ a0 a1 a2 a3 R, D.drop o = a0 :: a1 :: a2 :: a3 :: R := by
    match hd : D.drop o with
    | [] => have := congrArg List.length hd; simp at this; omega
    | [_] => have := congrArg List.length hd; simp at this; omega
    | [_, _] => have := congrArg List.length hd; simp at this; omega
    | [_, _, _] => have := congrArg List.length hd; simp at this; omega
    | a0 :: a1 :: a2 :: a3 :: R => exact ⟨a0, a1, a2, a3, R, rfl⟩
  have hlen : (D.take o).length = o := by rw [List.length_take]; omega
  have hd4 : D.drop (o + 4) = R := by rw [← List.drop_drop, hR]; rfl
  unfold put4
  rw [hd4]
  conv => lhs; rw [e, hR]
  rw [List.set_append_right _ _ (by omega), List.set_append_right _ _ (by omega), List.set_append_right _ _ (by omega), List.set_append_right _ _ (by omega)]
  simp [hlen, wordBytes]

/-- A whole block of bytes. -/
def Brow (w : World) (g t : Nat) (D : List Int) : Prop := w.heap[g]? = some (.cells (bs D).toArray t (0, 0))
theorem Brow.cell {w : World} {g t : Nat} {D : List Int} (h : Brow w g t D) {j : Nat} (hj : j < D.length) : w.cell? ⟨g, j, none⟩ = some (.int .u8 (D.getD j 0)) := by
  rw [cell_of_row _ _ _ _ _ _ h]; simp [bs, List.getD, hj]
theorem Brow.free {w : World} {g t : Nat} {D : List Int} (h : Brow w g t D) (j : Nat) : w.frozen? ⟨g, j, none⟩ = false := frozen_of_row _ _ _ _ _ h
theorem Brow.set {w : World} {g t : Nat} {D : List Int} (h : Brow w g t D) (j : Nat) (x : Int) : Brow (w.setCell ⟨g, j, none⟩ (.int .u8 x)) g t (D.set j x) := by
  unfold Brow
  refine (heap_setCell_same _ _ _ _ _ _ h).trans (congrArg (fun x => some (Obj.cells x t (0, 0))) ?_)
  apply Array.ext'
  simp [bs, List.map_set]
theorem Brow.later {w w' : World} {g t : Nat} {D : List Int} (h : Brow w g t D) (hb : w'.heap[g]? = w.heap[g]?) : Brow w' g t D := hb.trans h
theorem Brow.lt {w : World} {g t : Nat} {D : List Int} (h : Brow w g t D) : g < w.heap.size := lt_of_block h

set_option maxHeartbeats 800000 in
theorem putWord_any (g t o n cap : Nat) (D : List Int) (x : Int) (w : World) (h : Brow w g t D) (ho : o + 4 ≤ D.length) (hn : 4 ≤ n) (hn2 : n ≤ 1000) (hx : W32 x) :
    Calls Tryd.prog 65 #[.slice (some ⟨g, o, none⟩) n cap, .int .u32 x] w fun e w' => e = .returned (.tuple #[]) ∧ Brow w' g t (put4 D o x) ∧ Kept (fun k => k = g) w w' := by
  obtain ⟨x0, x1⟩ := hx
  have c0 := h.cell (j := o) (by omega)
  have c1 := h.cell (j := o + 1) (by omega)
  have c2 := h.cell (j := o + 2) (by omega)
  have c3 := h.cell (j := o + 3) (by omega)
  have f0 := h.free o
  have f1 := h.free (o + 1)
  have f2 := h.free (o + 2)
  have f3 := h.free (o + 3)
  obtain ⟨y0, hy0⟩ : ∃ y, y = D.getD o 0 := ⟨_, rfl⟩
  obtain ⟨y1, hy1⟩ : ∃ y, y = D.getD (o + 1) 0 := ⟨_, rfl⟩
  obtain ⟨y2, hy2⟩ : ∃ y, y = D.getD (o + 2) 0 := ⟨_, rfl⟩
  obtain ⟨y3, hy3⟩ : ∃ y, y = D.getD (o + 3) 0 := ⟨_, rfl⟩
  rw [← hy0] at c0
  rw [← hy1] at c1
  rw [← hy2] at c2
  rw [← hy3] at c3
  have HB := hid_of h
  have HO := hid_of ho
  have n0 : (0 : Int) < (n : Int) := by omega
  have n1 : (1 : Int) < (n : Int) := by omega
  have n2 : (2 : Int) < (n : Int) := by omega
  have n3 : (3 : Int) < (n : Int) := by omega
  clear h hy0 hy1 hy2 hy3 ho hn hn2
  go_enter Tryd.func65, Tryd.ntmps65
  go_wp2
  go_end0
  have k0 := Kept.refl (fun k => k = g) w
  have k1 := Kept.set1 (b := g) (j := o) k0 (.int .u8 (x / 16777216))
  have k2 := Kept.set1 (b := g) (j := o + 1) k1 (.int .u8 (x / 65536 % 256))
  have k3 := Kept.set1 (b := g) (j := o + 2) k2 (.int .u8 (x / 256 % 256))
  have k4 := Kept.set1 (b := g) (j := o + 3) k3 (.int .u8 (x % 256))
  have h1 := HB.out.set o (x / 16777216)
  have h2 := h1.set (o + 1) (x / 65536 % 256)
  have h3 := h2.set (o + 2) (x / 256 % 256)
  have h4 := h3.set (o + 3) (x % 256)
  have e : put4 D o x = ((((D.set o (x / 16777216)).set (o + 1) (x / 65536 % 256)).set (o + 2) (x / 256 % 256)).set (o + 3) (x % 256)) := by
    rw [← set4 HO.out, show x / 16777216 % 256 = x / 16777216 by omega]
  rw [e]
  exact ⟨rfl, h4, k4⟩

/-- The cells of the zero State. -/
def zeroSt : Array Value := (rowSt ⟨0, 0, 0, 0, 0, 0, 0, 0⟩ (List.replicate 64 0) 0).toArray
theorem zeroSt_size : zeroSt.size = 73 := by decide
theorem Tryd.zero48 : (Tryd.prog.info? 107).map (fun i => (i.zero, i.size)) = some (some (.agg zeroSt), 73) := by kernel_rfl
theorem new_row : (((((((zeroSt.setIfInBounds 0 (.int .u32 1779033703)).setIfInBounds 1 (.int .u32 3144134277)).setIfInBounds 2 (.int .u32 1013904242)).setIfInBounds 3 (.int .u32 2773480762)).setIfInBounds 4 (.int .u32 1359893119)).setIfInBounds 5 (.int .u32 2600822924)).setIfInBounds 6 (.int .u32 528734635)).setIfInBounds 7 (.int .u32 1541459225) = (rowSt INI8 (List.replicate 64 0) 0).toArray := by kernel_rfl
set_option maxRecDepth 100000 in
set_option maxHeartbeats 800000 in
theorem new_any (w : World) (hG : Glob w) :
    Calls Tryd.prog 58 #[] w fun e w' => e = .returned (.pointer (some ⟨w.heap.size, 0, none⟩)) ∧ Sst w' w.heap.size [] ∧ Below w.heap.size w w' := by
  have c0 : w.cell? ⟨0, 0, none⟩ = some (.int .u32 1779033703) := hG.1 0 _ rfl
  have c1 : w.cell? ⟨0, 1, none⟩ = some (.int .u32 3144134277) := hG.1 1 _ rfl
  have c2 : w.cell? ⟨0, 2, none⟩ = some (.int .u32 1013904242) := hG.1 2 _ rfl
  have c3 : w.cell? ⟨0, 3, none⟩ = some (.int .u32 2773480762) := hG.1 3 _ rfl
  have c4 : w.cell? ⟨0, 4, none⟩ = some (.int .u32 1359893119) := hG.1 4 _ rfl
  have c5 : w.cell? ⟨0, 5, none⟩ = some (.int .u32 2600822924) := hG.1 5 _ rfl
  have c6 : w.cell? ⟨0, 6, none⟩ = some (.int .u32 528734635) := hG.1 6 _ rfl
  have c7 : w.cell? ⟨0, 7, none⟩ = some (.int .u32 1541459225) := hG.1 7 _ rfl
  have hz := (zero_of_info Tryd.zero48).1
  have hzs := zeroSt_size
  have hrow := new_row
  go_enter Tryd.func58, Tryd.ntmps58
  go_wp2
  go_ret
  refine ⟨rfl, ⟨List.replicate 64 0, ⟨by simp, by simp, ?_⟩, rfl⟩, (Below.refl _ _).alloc (Nat.le_refl _) _⟩
  exact heap_alloc_new _ _

theorem Tryd.infoSt : (Tryd.prog.info? 107).map (·.size) = some 73 := by kernel_rfl
theorem rowSt_one (s : R8) (B : List Int) (n : Nat) : (rowSt s B n).toArray.all (·.oneCell') = true := by
  rw [Array.all_eq_true_iff_forall_mem]
  intro v hv
  simp only [List.mem_toArray, rowSt, R8.vals, bs, List.mem_append, List.mem_map] at hv
  rcases hv with hv | ⟨x, _, rfl⟩ | hv
  · simp at hv
    rcases hv with rfl | rfl | rfl | rfl | rfl | rfl | rfl | rfl <;> rfl
  · rfl
  · simp at hv; subst hv; rfl

end Go.Proofs.YtlffiebnieakjaaDoor.Sh

/- pad and Sum. Bounds on the sizes. -/
namespace Go.Proofs.YtlffiebnieakjaaDoor.Sh
open Go.RowKit

theorem wordBytes_nat (n : Nat) : wordBytes (n : Int) = be8 n := by
  unfold wordBytes be8
  rw [show (n : Int) / 16777216 % 256 = ((n / 16777216 % 256 : Nat) : Int) by omega, show (n : Int) / 65536 % 256 = ((n / 65536 % 256 : Nat) : Int) by omega, show (n : Int) / 256 % 256 = ((n / 256 % 256 : Nat) : Int) by omega, show (n : Int) % 256 = ((n % 256 : Nat) : Int) by omega]
def T0 : List Int := 128 :: List.replicate 71 0
/-- The tail of the padding. -/
theorem tail_row (z : Nat) (hi lo : Int) (hz : z ≤ 63) : (put4 (put4 T0 (1 + z) hi) (1 + z + 4) lo).take (1 + z + 8) = 128 :: (List.replicate z 0 ++ (wordBytes hi ++ wordBytes lo)) := by
  have e1 : T0 = (128 :: List.replicate z 0) ++ List.replicate (71 - z) 0 := by
    unfold T0
    rw [List.cons_append, List.replicate_append_replicate]
    congr 2; omega
  have l1 : (128 :: List.replicate z (0 : Int)).length = 1 + z := by simp; omega
  have e2 : put4 T0 (1 + z) hi = (128 :: List.replicate z 0) ++ (wordBytes hi ++ List.replicate (67 - z) 0) := by
    unfold put4
    rw [e1, List.take_left' l1, List.drop_append, l1, List.drop_of_length_le (l := 128 :: List.replicate z 0) (by omega)]
    simp only [List.nil_append, List.drop_replicate]
    congr 3
    omega
  have l2 : ((128 :: List.replicate z (0 : Int)) ++ wordBytes hi).length = 1 + z + 4 := by rw [List.length_append, l1]; rfl
  have e3 : put4 (put4 T0 (1 + z) hi) (1 + z + 4) lo = ((128 :: List.replicate z 0) ++ wordBytes hi) ++ (wordBytes lo ++ List.replicate (63 - z) 0) := by
    rw [e2, ← List.append_assoc]
    generalize (128 :: List.replicate z 0) ++ wordBytes hi = A at *
    unfold put4
    rw [List.take_left' l2, List.drop_append, l2, List.drop_of_length_le (l := A) (by omega)]
    simp only [List.nil_append, List.drop_replicate]
    congr 3
    omega
  rw [e3, ← List.append_assoc, List.take_left' (by rw [List.length_append, l2]; rfl)]
  simp

def zero72 : Array Value := (bs (List.replicate 72 0)).toArray
theorem Tryd.zero72 : (Tryd.prog.info? 115).map (fun i => (i.zero, i.size)) = some (some (.agg zero72), 72) := by kernel_rfl

theorem zero72_0 : zero72[0]? = some (.int .u8 0) := by kernel_rfl
theorem zero72_T0 : zero72.setIfInBounds 0 (.int .u8 128) = (bs T0).toArray := by kernel_rfl
theorem padOf_rng (n : Nat) : ∀ y ∈ padOf n, 0 ≤ y ∧ y ≤ 255 := by
  intro y hy
  unfold padOf be8 at hy
  simp only [List.mem_cons, List.mem_append, List.mem_replicate, List.not_mem_nil, or_false] at hy
  omega
theorem pad_tail (n z : Nat) (hz : z = zerosOf n) (hn : n ≤ 100000000000) (x y : Int) (hx : x = ((n * 8 / 4294967296 : Nat) : Int)) (hy : y = ((n * 8 % 4294967296 : Nat) : Int)) :
    (put4 (put4 T0 (1 + z) x) (1 + z + 4) y).take (1 + z + 8) = padOf n := by
  have h63 : z ≤ 63 := by rw [hz]; unfold zerosOf; omega
  rw [tail_row z x y h63, hx, hy, wordBytes_nat, wordBytes_nat]
  unfold padOf
  rw [hz]
theorem rest_row {w : World} {b g t z3 cap : Nat} {D l : List Int} (h : Brow w g t D) (hl : D.take z3 = l) (hz : z3 = l.length) (hc : z3 ≤ cap) (hc2 : cap ≤ 1000) (hgb : g ≠ b) : Rest w b (.slice (some ⟨g, 0, none⟩) z3 cap) l := by
  subst hz
  refine ⟨_, _, rfl, hc, by omega, fun _ => ⟨g, 0, rfl, hgb, h.lt, fun j u hu => ?_⟩⟩
  have hj : j < l.length := by have := (List.getElem?_eq_some_iff.1 hu).1; simpa [bs] using this
  rw [Nat.zero_add, cell_of_row _ _ _ _ _ _ h]
  have h1 : (bs l)[j]? = (bs D)[j]? := by
    have e : l = D.take l.length := hl.symm
    rw [e, bs_take, List.getElem?_take, if_pos hj]
  rw [h1] at hu
  simpa using hu

theorem bel_new {w w2 : World} {o : Obj} (h : Kept (fun k => k = w.heap.size) (w.alloc o) w2) : Below w.heap.size w w2 :=
  ((Below.refl _ _).alloc (Nat.le_refl _) o).trans (h.below (by simp) (fun k hk => by omega))

set_option maxRecDepth 100000 in
set_option maxHeartbeats 1600000 in
theorem pad_any (b : Nat) (m : List Int) (w : World) (h : Sst w b m) (hG : Glob w) (hb : 2 ≤ b) (hn : m.length ≤ 100000000000) :
    Calls Tryd.prog 64 #[.pointer (some ⟨b, 0, none⟩)] w fun e w' => e = .returned (.tuple #[]) ∧ Sst w' b (m ++ padOf m.length) ∧ Kept (fun k => k = b) w w' := by
  obtain ⟨n, hnn⟩ : ∃ n, n = m.length := ⟨_, rfl⟩
  have HN := hid_of hnn
  have hbl := h.lt
  have cl : w.cell? ⟨b, 72, none⟩ = some (.int .i64 n) := by obtain ⟨B, hB, _⟩ := h; rw [hnn]; exact hB.length
  have hn1 : n ≤ 100000000000 := by omega
  rw [← hnn]
  obtain ⟨z, hz⟩ : ∃ z, z = zerosOf n := ⟨_, rfl⟩
  have hz63 : z ≤ 63 := by rw [hz]; unfold zerosOf; omega
  have HZ := hid_of hz
  have hzI : (119 - (n : Int) % 64) % 64 = (z : Int) := by rw [hz]; unfold zerosOf; omega
  have H := hid_of h
  have HG := hid_of hG
  clear h hG hz hnn hn
  have hz72 := (zero_of_info Tryd.zero72).1
  have hz0 := zero72_0
  have hzT := zero72_T0
  obtain ⟨z1, hz1⟩ : ∃ z1, z1 = 1 + z := ⟨_, rfl⟩
  obtain ⟨z2, hz2⟩ : ∃ z2, z2 = z1 + 4 := ⟨_, rfl⟩
  obtain ⟨z3, hz3⟩ : ∃ z3, z3 = z1 + 8 := ⟨_, rfl⟩
  have s1 : 1 + (z : Int) = (z1 : Int) := by omega
  have s2 : (z1 : Int) + 4 = (z2 : Int) := by omega
  have s3 : (z1 : Int) + 8 = (z3 : Int) := by omega
  have b1 : z1 ≤ 64 := by omega
  have b2 : z2 ≤ 68 := by omega
  have b3 : z3 ≤ 72 := by omega
  have i1 : (z1 : Int) ≤ 72 := by omega
  have i2 : (z2 : Int) ≤ 72 := by omega
  have i3 : (z3 : Int) ≤ 72 := by omega
  have n1 : ¬ (72 = z1) := by omega
  have n2 : ¬ (72 = z2) := by omega
  have HZ1 := hid_of hz1
  have HZ2 := hid_of hz2
  have HZ3 := hid_of hz3
  clear hz1 hz2 hz3
  have HT0 : Hid (T0.length = 72) := hid_of (by unfold T0; simp)
  have hl1 : (put4 T0 z1 ((n : Int) * 8 / 4294967296)).length = 72 := by rw [put4_length (by rw [HT0.out]; omega), HT0.out]
  have w1' : W32 ((n : Int) * 8 / 4294967296) := by unfold W32; omega
  have w2' : W32 ((n : Int) * 8 % 4294967296) := by unfold W32; omega
  have HP1 := hid_of (putWord_any w.heap.size 115 z1 (72 - z1) (72 - z1) T0 ((n : Int) * 8 / 4294967296) (w.alloc (.cells (bs T0).toArray 115)) (heap_alloc_new _ _) (by rw [HT0.out]; omega) (by omega) (by omega) w1')
  have HP2 := hid_of (fun W (h : Brow W w.heap.size 115 (put4 T0 z1 ((n : Int) * 8 / 4294967296))) => putWord_any w.heap.size 115 z2 (72 - z2) (72 - z2) (put4 T0 z1 ((n : Int) * 8 / 4294967296)) ((n : Int) * 8 % 4294967296) W h (by rw [hl1]; omega) (by omega) (by omega) w2')
  have HTAIL : Hid ((put4 (put4 T0 z1 ((n : Int) * 8 / 4294967296)) z2 ((n : Int) * 8 % 4294967296)).take z3 = padOf n) := hid_of (by
    rw [HZ3.out, HZ2.out, HZ1.out]
    exact pad_tail n z HZ.out hn1 _ _ (by omega) (by omega))
  have HPL : Hid (z3 = (padOf n).length) := hid_of (by rw [padOf_length, HZ3.out, HZ1.out, ← HZ.out]; omega)
  have HMN : Hid (m.length + (padOf n).length ≤ 1000000000000) := hid_of (by rw [← HPL.out, ← HN.out]; omega)
  have HBL := hid_of hbl
  clear hl1 w1' w2'
  go_enter Tryd.func64, Tryd.ntmps64
  go_wp2_with (first
    | (go_at_call 65; (first
      | ((with_reducible refine HP1.out.mono ?_); rintro e w1 ⟨rfl, hb1, hk1⟩; have HB1 := hid_of hb1; have HK1 := hid_of hk1; clear hb1 hk1)
      | ((with_reducible refine (HP2.out w1 HB1.out).mono ?_); rintro e w2 ⟨rfl, hb2, hk2⟩; have HB2 := hid_of hb2; have HK2 := hid_of (bel_new (HK1.out.trans hk2)); clear hb2 hk2)))
    | (go_at_call 59; refine (write_any b m (padOf n) _ w2 (H.out.later (HK2.out.block b HBL.out)) (rest_row HB2.out HTAIL.out HPL.out (by omega) (by omega) (by have := HBL.out; omega)) (padOf_rng n) (HG.out.bel HK2.out HG.out.two) hb HMN.out).mono ?_; rintro e w3 ⟨rfl, h3, hk3⟩; have H3 := hid_of h3; have HK3 := hid_of hk3; clear h3 hk3))
  go_end0
  exact ⟨rfl, H3.out, (Kept.ofBelow HK2.out).trans HK3.out⟩
end Go.Proofs.YtlffiebnieakjaaDoor.Sh

/- Sum of a State, and Sum. Bounds on the sizes. -/
namespace Go.Proofs.YtlffiebnieakjaaDoor.Sh
open Go.RowKit

section
variable {P : Program} (w : World)

theorem run_str (src dst e : TypeId) (hs : P.underlying src = some (.slice e)) (he : P.underlying e = some (.int .u8)) (hd : P.underlying dst = some .string) (ao : Option Addr) (l : List Int) (cap : Nat)
    (hpos : 0 < l.length → ∃ ad, ao = some ad ∧ ∀ j v, (bs l)[j]? = some v → w.cell? (ad.add j) = some v) :
    (convert src dst (.slice ao l.length cap)).run P w = .ok (.string (strOfNums l)) w := by
  cases ao with
  | none =>
    obtain rfl : l = [] := by
      cases l with
      | nil => rfl
      | cons x r => obtain ⟨ad, h, _⟩ := hpos (by simp); cases h
    exact run_convert_bytes_nil w src e hs he 0 cap dst hd
  | some ad =>
    have hl : (loadCells ad l.length).run P w = .ok (l.map (Value.int .u8)).toArray w := by
      have := run_loadCells_list (P := P) w ad (bs l) (fun j v hj => by
        have h0 : 0 < l.length := by
          have := (List.getElem?_eq_some_iff.1 hj).1
          simp [bs] at this; omega
        obtain ⟨ad', h1, h2⟩ := hpos h0
        cases h1
        exact h2 j v hj)
      simpa [bs] using this
    rw [run_convert_bytes_string w src dst e _ l.length cap hs he hd, run_bytesToString w _ l.length cap l hl, foldl_push_bytes]
    simp [strOfNums, ByteArray.empty, ByteArray.emptyWithCapacity]
    rfl

theorem wpList_str {ops : Array Oper} {rest : List Oper} {o : Oper} {a : Act} {Q : Exit → Act → World → Prop} (hgd : o.guard = none) (src dst : TypeId) (x : Operand) (ho : o.op = .convert src dst x) (e : TypeId)
    (hs : P.underlying src = some (.slice e)) (he : P.underlying e = some (.int .u8)) (hd : P.underlying dst = some .string) (ao : Option Addr) (l : List Int) (n cap : Nat) (hn : l.length = n) (hx : a.eval x = .slice ao n cap)
    (hpos : 0 < l.length → ∃ ad, ao = some ad ∧ ∀ j v, (bs l)[j]? = some v → w.cell? (ad.add j) = some v) (h : wpList P ops Q rest (a.put o.dst (.string (strOfNums l))) w) : wpList P ops Q (o :: rest) a w := by
  refine wpList_plain hgd fun _ hK => ?_
  have hr := run_str (P := P) w src dst e hs he hd ao l cap hpos
  unfold Oper.wp execOp
  rw [← hn] at hx
  simp only [ho, hx, Sem.run_bind, hr, Result.andThen_ok, Sem.run_pure]
  exact hK _ _ h
end

def WSof (s : R8) : List Int := [s.a, s.b, s.c, s.d, s.e, s.f, s.g, s.h]
/-- The digest's bytes behind i words. -/
def digRow (s : R8) (i : Nat) : List Int := (digestOf s).take (4 * i) ++ List.replicate (32 - 4 * i) 0
theorem digRow_len (s : R8) (i : Nat) (h : i ≤ 8) : (digRow s i).length = 32 := by
  have : (digestOf s).length = 32 := rfl
  unfold digRow
  rw [List.length_append, List.length_take, List.length_replicate]; omega
theorem digRow_step (s : R8) (i : Nat) (h : i < 8) : put4 (digRow s i) (4 * i) ((WSof s).getD i 0) = digRow s (i + 1) := by
  match i, h with
  | 0, _ => rfl
  | 1, _ => rfl
  | 2, _ => rfl
  | 3, _ => rfl
  | 4, _ => rfl
  | 5, _ => rfl
  | 6, _ => rfl
  | 7, _ => rfl
theorem digRow_full (s : R8) : digRow s 8 = digestOf s := rfl
theorem ws_idx (s : R8) (i : Nat) (h : i < 8) (w : World) : (Instr.index 94 (.agg #[.int .u32 s.a, .int .u32 s.b, .int .u32 s.c, .int .u32 s.d, .int .u32 s.e, .int .u32 s.f, .int .u32 s.g, .int .u32 s.h]) (.int .i64 (i : Int))).run Tryd.prog w = .ok (.int .u32 ((WSof s).getD i 0)) w :=
  match i, h with
  | 0, _ => by kernel_rfl
  | 1, _ => by kernel_rfl
  | 2, _ => by kernel_rfl
  | 3, _ => by kernel_rfl
  | 4, _ => by kernel_rfl
  | 5, _ => by kernel_rfl
  | 6, _ => by kernel_rfl
  | 7, _ => by kernel_rfl
theorem wsof_w (s : R8) (h : s.ok) (i : Nat) : W32 ((WSof s).getD i 0) := by
  obtain ⟨h1, h2, h3, h4, h5, h6, h7, h8⟩ := h
  match i with
  | 0 => exact h1
  | 1 => exact h2
  | 2 => exact h3
  | 3 => exact h4
  | 4 => exact h5
  | 5 => exact h6
  | 6 => exact h7
  | 7 => exact h8
  | i + 8 => show W32 0; unfold W32; omega
theorem clone_copy {w : World} {b : Nat} {m : List Int} (h : Sst w b m) : ∃ arr : Array Value, w.heap[b]? = some (.cells arr 107 (0, 0)) ∧ arr.size = 73 ∧ arr.all (·.oneCell') = true ∧ Sst (w.alloc (.cells arr 107)) w.heap.size m := by
  obtain ⟨B, hB, hT⟩ := h
  exact ⟨(rowSt (HB m) B m.length).toArray, hB.blk, by simpa using rowSt_length _ _ _ hB.len, rowSt_one _ _ _, B, ⟨hB.len, hB.rng, heap_alloc_new _ _⟩, hT⟩

set_option maxRecDepth 100000 in
set_option maxHeartbeats 1600000 in
theorem sum_any (b : Nat) (m : List Int) (w : World) (h : Sst w b m) (hG : Glob w) (hn : m.length ≤ 100000000000) :
    Calls Tryd.prog 60 #[.pointer (some ⟨b, 0, none⟩)] w fun e w' => e = .returned (.string (strOfNums (digest m))) ∧ Below w.heap.size w w' := by
  obtain ⟨arr, hblk, hsz, h1, hst⟩ := clone_copy h
  have HBLK := hid_of hblk
  have HSZ := hid_of hsz
  have HI : Hid ((Tryd.prog.info? 107).map (·.size) = some arr.size) := hid_of (by rw [hsz]; exact Tryd.infoSt)
  have H1 := hid_of h1
  have HST := hid_of hst
  have HG := hid_of hG
  have H2 : Hid (2 ≤ w.heap.size) := hid_of hG.two
  obtain ⟨s, hs⟩ : ∃ s, s = HB (m ++ padOf m.length) := ⟨_, rfl⟩
  have HS := hid_of hs
  have HD : Hid (digest m = digestOf s) := hid_of (by rw [hs]; rfl)
  have HOK : Hid s.ok := hid_of (by rw [hs]; exact HB_ok _)
  clear h hblk hsz h1 hst hG hs
  have hz := (zero_of_info Tryd.zero48).1
  go_enter Tryd.func60, Tryd.ntmps60
  go_wp2_with (first
    | (refine wpList_load_row rfl 107 (.tmp 8) rfl b rfl 107 arr (0, 0) _ HBLK.out Tryd.underlying107 rfl HI.out ?_)
    | (refine wpList_store_fresh rfl 107 (.tmp 3) (.tmp 9) rfl _ arr rfl rfl rfl _ HI.out (by rw [HSZ.out]; exact zeroSt_size) H1.out ?_)
    | (go_at_call 64; refine (pad_any w.heap.size m _ HST.out (HG.out.bel ((Below.refl w.heap.size w).alloc (Nat.le_refl _) _) H2.out) H2.out hn).mono ?_; rintro e w2 ⟨rfl, h2, hk2⟩; have HK2 := hid_of (bel_new hk2); obtain ⟨B2, hB2, _⟩ := h2; rw [← HS.out] at hB2; obtain ⟨x0, x1, x2, x3, x4, x5, x6, x7⟩ := hB2.word; have HLT := hid_of hB2.lt; have hlt2 := hB2.lt; clear hB2 hk2))
  go_loopw [13] (fun iv wr => ∃ i : Nat, i ≤ 8 ∧ iv = .int .i64 i ∧ Hid (Brow wr w2.heap.size 110 (digRow s i)) ∧ Hid (Below w.heap.size w wr)) (fun iv _ => 8 - (intOf iv).toNat)
  case atStart => exact ⟨0, by omega, rfl, hid_of (heap_alloc_new _ _), hid_of (HK2.out.alloc HK2.out.size _)⟩
  case round =>
    obtain ⟨i, hi, rfl, hrow, hbel⟩ := hrel
    by_cases hlt : i < 8
    · obtain ⟨mm, hmm⟩ : ∃ mm, mm = 4 * i := ⟨_, rfl⟩
      have sm : 4 * (i : Int) = (mm : Int) := by omega
      have bm : (mm : Int) ≤ 32 := by omega
      have nm : ¬ (32 = mm) := by omega
      have hm28 : mm ≤ 28 := by omega
      obtain ⟨x, hx⟩ : ∃ x, x = (WSof s).getD i 0 := ⟨_, rfl⟩
      have hix := ws_idx s i hlt
      rw [← hx] at hix
      have HX := hid_of hx
      have HMM := hid_of hmm
      have HP := hid_of (putWord_any w2.heap.size 110 mm (32 - mm) (32 - mm) (digRow s i) x wr hrow.out (by rw [digRow_len s i hi]; omega) (by omega) (by omega) (by rw [hx]; exact wsof_w s HOK.out i))
      clear hx hmm
      go_wp2_with (go_at_call 65; refine HP.out.mono ?_; rintro e w3 ⟨rfl, h3, hk3⟩; have H3 := hid_of h3; have HB3 := hid_of (hbel.out.trans (hk3.below hbel.out.size (fun k hk => by have := HK2.out.size; omega))); clear h3 hk3)
      go_roundw
      case rel =>
        refine ⟨i + 1, by omega, by go_num, hid_of ?_, HB3⟩
        rw [← digRow_step s i hlt, ← HX.out, ← HMM.out]
        exact H3.out
      case measure => simp [intOf]; omega
    · obtain rfl : i = 8 := by omega
      have HROW : Hid (Brow wr w2.heap.size 110 (digestOf s)) := hrow
      go_wp2_with (refine wpList_str _ rfl 32 9 (.tmp 23) rfl 5 Tryd.underlying32 Tryd.underlying5 Tryd.underlying9 (some ⟨w2.heap.size, 0, none⟩) (digestOf s) 32 32 rfl rfl (fun _ => ⟨_, rfl, fun j u hu => by rw [Addr.add_mid, Nat.zero_add, cell_of_row _ _ _ _ _ _ HROW.out]; simpa using hu⟩) ?_)
      go_ret
      exact ⟨by rw [HD.out]; rfl, hbel.out⟩

/-- The slice v reads as l. -/
def Lies (w : World) (v : Value) (l : List Int) : Prop :=
  ∃ ao cap, v = .slice ao l.length cap ∧ l.length ≤ cap ∧ cap ≤ 9223372036854775807 ∧ (0 < l.length → ∃ g o, ao = some ⟨g, o, none⟩ ∧ g < w.heap.size ∧ ∀ j u, (bs l)[j]? = some u → w.cell? ⟨g, o + j, none⟩ = some u)
theorem Lies.later {w w' : World} {v : Value} {l : List Int} {B : Nat} (h : Lies w v l) (hb : Below B w w') (hB : w.heap.size ≤ B) : Lies w' v l := by
  obtain ⟨ao, cap, h1, h2, h3, h4⟩ := h
  refine ⟨ao, cap, h1, h2, h3, fun h0 => ?_⟩
  obtain ⟨g, o, q1, q2, q3⟩ := h4 h0
  exact ⟨g, o, q1, Nat.lt_of_lt_of_le q2 hb.size, fun j u hu => (hb.cell (p := ⟨g, o + j, none⟩) (by show g < B; omega)).trans (q3 j u hu)⟩
theorem Lies.rest {w w' : World} {v : Value} {l : List Int} {b : Nat} (h : Lies w v l) (hb : Below w.heap.size w w') (hg : w.heap.size ≤ b) : Rest w' b v l := by
  obtain ⟨ao, cap, h1, h2, h3, h4⟩ := h
  refine ⟨ao, cap, h1, h2, h3, fun h0 => ?_⟩
  obtain ⟨g, o, q1, q2, q3⟩ := h4 h0
  exact ⟨g, o, q1, by omega, Nat.lt_of_lt_of_le q2 hb.size, fun j u hu => (hb.cell (p := ⟨g, o + j, none⟩) q2).trans (q3 j u hu)⟩
end Go.Proofs.YtlffiebnieakjaaDoor.Sh

/- The bytes of a digest. No condition. -/
namespace Go.Proofs.YtlffiebnieakjaaDoor.Sh
open Go.RowKit

theorem digestOf_rng (s : R8) (h : s.ok) : ∀ y ∈ digestOf s, 0 ≤ y ∧ y ≤ 255 := by
  obtain ⟨h1, h2, h3, h4, h5, h6, h7, h8⟩ := h
  have hw : ∀ x y : Int, y ∈ wordBytes x → 0 ≤ y ∧ y ≤ 255 := fun x y hy => by
    simp only [wordBytes, List.mem_cons, List.not_mem_nil, or_false] at hy
    omega
  intro y hy
  simp only [digestOf, List.mem_append] at hy
  rcases hy with hy | hy | hy | hy | hy | hy | hy | hy <;> exact hw _ _ hy
theorem digest_rng (m : List Int) : ∀ y ∈ digest m, 0 ≤ y ∧ y ≤ 255 := digestOf_rng _ (HB_ok _)
theorem digest_length (m : List Int) : (digest m).length = 32 := rfl
end Go.Proofs.YtlffiebnieakjaaDoor.Sh

/- Small facts about new blocks. -/
namespace Go.Proofs.YtlffiebnieakjaaDoor.Sh
open Go.RowKit

/-- A slice over a block that was made last. -/
theorem lies_new {w : World} {l : List Int} {n : Nat} {cs : Array Value} {m : Nat × Nat} (hn : n = l.length) (hc : cs = (bs l).toArray) (h : l.length ≤ 9223372036854775807) : Lies (w.alloc (.cells cs 5 m)) (.slice (some ⟨w.heap.size, 0, none⟩) n n) l := by
  subst hn hc
  refine ⟨_, _, rfl, Nat.le_refl _, h, fun _ => ⟨_, _, rfl, by simp, fun j u hu => ?_⟩⟩
  have := World.news_of_block (heap_alloc_new w (.cells (bs l).toArray 5 m)) j u (by simpa using hu)
  rw [Addr.add_mid] at this
  exact this
theorem bel_alloc (w : World) (o : Obj) : Below w.heap.size w (w.alloc o) := (Below.refl _ _).alloc (Nat.le_refl _) o
theorem bel_fst {w w' : World} {o : Obj} (h : Below (w.alloc o).heap.size (w.alloc o) w') : Below w.heap.size w w' :=
  (bel_alloc w o).trans (h.mono (by simp))
theorem Sst.bel {w w' : World} {b : Nat} {m : List Int} (h : Sst w b m) (hb : Below w.heap.size w w') : Sst w' b m := h.later (hb.block b h.lt)
theorem Sst.kept {w w' : World} {b c : Nat} {m : List Int} (h : Sst w b m) (hk : Kept (fun k => k = c) w w') (hn : b ≠ c) : Sst w' b m := h.later (hk.block b h.lt hn)

end Go.Proofs.YtlffiebnieakjaaDoor.Sh

/- Checkpoint: the header of a content. Bounds on sizes alone. -/
namespace Go.Proofs.YtlffiebnieakjaaDoor
open Go.RowKit
set_option maxRecDepth 100000
set_option maxHeartbeats 1600000

/-- All numbers are bytes. -/
def Byt (l : List Int) : Prop := ∀ x ∈ l, 0 ≤ x ∧ x ≤ 255
theorem sk {S : Nat → Prop} {w w' : World} (h : Sh.Kept S w w') : Kept S w w' := ⟨h.os, h.tape, h.output, h.size, h.block⟩
theorem rest_of {w : World} {b : Nat} {v : Value} {l : List Int} (h : Rd w v (by8 l)) (hb : 0 < l.length → In (fun k => k ≠ b) v) : Sh.Rest w b v l := by
  obtain ⟨ao, cap, rfl, h1, h2, h3⟩ := h
  rw [by8_length] at h1 h3
  refine ⟨ao, cap, by rw [by8_length], h1, h2, fun h0 => ?_⟩
  obtain ⟨g, o, e, h4, h5⟩ := h3 h0
  subst e
  exact ⟨g, o, rfl, hb h0 _ _ _ rfl, h4, h5⟩
/-- The bytes of a header, without the zeros behind them. -/
def encF (b : List Int) (g : Nat) : List Int := beF g 8 ++ (beF b.length 4 ++ Sh.digest (beF g 8 ++ (beF b.length 4 ++ b)))
theorem encF_len (b : List Int) (g : Nat) : (encF b g).length = 44 := by
  simp only [encF, List.length_append, beF_len, Sh.digest_length]
theorem encF_byt {b : List Int} (g : Nat) : Byt (encF b g) := fun x hx => by
  rcases List.mem_append.1 hx with h | h
  · exact beF_byt g 8 x h
  · rcases List.mem_append.1 h with h | h
    · exact beF_byt _ 4 x h
    · exact Sh.digest_rng _ x h
theorem pad_enc (b : List Int) (g : Nat) {z : Nat} (hz : 44 ≤ z) : padF (encF b g) z = headK Sh.digest z b g := by
  rw [padF, encF_len, List.take_of_length_le (by rw [encF_len]; exact hz)]
  simp [encF, headK, List.append_assoc]
/-- The two numbers, zeros behind them. -/
theorem two_nums (g n : Nat) : putR (putR (List.replicate 44 0) 0 8 g 8) 8 4 n 4 = beF g 8 ++ (beF n 4 ++ List.replicate 32 0) := by
  have e1 : putR (List.replicate 44 0) 0 8 g 8 = beF g 8 ++ List.replicate 36 0 := rfl
  rw [e1, putR, show 8 + 4 - 4 = 8 from rfl, List.take_left' (beF_len g 8), List.drop_append, beF_len, List.drop_of_length_le (l := beF g 8) (by rw [beF_len]; decide)]
  rfl
theorem nums_take (g n : Nat) : (beF g 8 ++ (beF n 4 ++ List.replicate 32 (0 : Int))).take 12 = beF g 8 ++ beF n 4 := by
  rw [← List.append_assoc]
  exact List.take_left' (by rw [List.length_append, beF_len, beF_len])
theorem nums_splice (g n : Nat) {d : List Int} (hd : d.length = 32) : splice (by8 (beF g 8 ++ (beF n 4 ++ List.replicate 32 0))) 12 (by8 d) = by8 (beF g 8 ++ (beF n 4 ++ d)) := by
  have h1 : (by8 (beF g 8 ++ (beF n 4 ++ List.replicate 32 0))).take 12 = by8 (beF g 8 ++ beF n 4) := by rw [by8, ← List.map_take, nums_take]; rfl
  have h2 : (by8 (beF g 8 ++ (beF n 4 ++ List.replicate 32 (0 : Int)))).drop (12 + (by8 d).length) = [] := List.drop_eq_nil_of_le (by simp only [by8_length, List.length_append, beF_len, List.length_replicate, hd]; decide)
  rw [splice, h1, h2, List.append_nil, ← by8_two, List.append_assoc]
theorem ecopy_str (w : World) (H : Nat) (d : List Int) (hd : d.length = 32) (hr : Byt d) (g n : Nat) (out : Array Value) (hout : out = (by8 (beF g 8 ++ (beF n 4 ++ d))).toArray) (h : w.heap[H]? = some (.cells (by8 (beF g 8 ++ (beF n 4 ++ List.replicate 32 0))).toArray 96 (0, 0))) :
    (Builtin.copy_ #[32, 9] 3 #[.slice (some ⟨H, 12, none⟩) 32 32, .string (strOfNums d)]).run Tryd.prog w = .ok (goInt 32) (w.setRow H out) := by
  have hz : (strOfNums d).size = 32 := by rw [← hd]; simp [strOfNums, ByteArray.size]
  have := Lib.run_copy_row_string (P := Tryd.prog) w 32 9 3 5 H 12 32 32 (strOfNums d) _ _ Tryd.underlying32 sizeB h (by rw [hz]; omega) (by rw [hz]; simp [by8, beF_len])
  rw [this, hz, hout, ← nums_splice g n hd, splice]
  have e1 : Lib.byteCells (strOfNums d).data.toList = by8 d := by
    rw [Lib.byteCells, strOfNums_data, List.map_map]
    refine List.map_congr_left fun y hy => ?_
    have := hr y hy
    simp
    omega
  congr 2
  simp only [e1, by8_length, hd, List.append_assoc]
theorem bel_kept {H c : Nat} {w X Y : World} (h : Below H w X) (hH : H ≤ w.heap.size) (q : Kept (fun k => k = c) X Y) (hc : H ≤ c) : Below H w Y := h.trans (q.below (Nat.le_trans hH h.size) fun k hk => by omega)
set_option maxHeartbeats 6400000 in
theorem encode_any (ao : Option Addr) (n cap : Nat) (b : List Int) (g : Nat) (w : World) (hR : Rd w (.slice ao n cap) (by8 b)) (hb : Byt b) (hl : b.length ≤ 300000000) (hg : g < 9223372036854775808) (hG : Sh.Glob w) :
    Calls Tryd.prog 49 #[.slice ao n cap, .int .i64 g] w fun e w' => e = .returned (.slice (some ⟨w.heap.size, 0, none⟩) 44 44) ∧ Brow w' w.heap.size 96 (encF b g) ∧ Below w.heap.size w w' := by
  have hn := (rd_cut hR).1
  rw [by8_length] at hn
  obtain ⟨H, hH⟩ : ∃ H, H = w.heap.size := ⟨_, rfl⟩
  have H2 : Hid (2 ≤ H) := hid_of (by rw [hH]; exact hG.two)
  have HIN := hid_of (fun (X : World) (h : Below H w X) (c : Nat) (hc : H ≤ c) => show Sh.Rest X c (.slice ao n cap) b from rest_of (hR.later h (by omega)) fun h0 => (hR.inlt (by rw [by8_length]; exact h0)).mono fun k hk => by omega)
  have HGL := hid_of (fun (X : World) (h : Below H w X) => hG.bel h H2.out)
  have g1 : IntKind.u64.wrap (g : Int) = (g : Int) := IntWalk.u64_in _ (by omega)
  have n1 : IntKind.u64.wrap (n : Int) = (n : Int) := IntWalk.u64_in _ (by omega)
  have CP1 := hid_of (fun (X : World) (h : Brow X H 96 (List.replicate 44 0)) => putNumber_any H 96 0 8 44 g (List.replicate 44 0) X h (by simp) (by decide) (by omega))
  have CP2 := hid_of (fun (X : World) (h : Brow X H 96 (putR (List.replicate 44 0) 0 8 g 8)) => putNumber_any H 96 8 4 36 n _ X h (by rw [putR_len (by simp) (by decide)]; simp) (by decide) (by omega))
  have CN := hid_of (fun (X : World) (h : Below H w X) => Sh.new_any X (HGL.out X h))
  have HD2 : Hid (putR (putR (List.replicate 44 0) 0 8 g 8) 8 4 n 4 = beF g 8 ++ (beF n 4 ++ List.replicate 32 0)) := hid_of (two_nums g n)
  have CW1 := hid_of (fun (X : World) (c : Nat) (hc : H < c) (h : Below H w X) (s : Sh.Sst X c []) (r : Brow X H 96 (beF g 8 ++ (beF n 4 ++ List.replicate 32 0))) => show Calls Tryd.prog 59 #[.pointer (some ⟨c, 0, none⟩), .slice (some ⟨H, 0, none⟩) 12 44] X (fun e w' => e = .returned (.tuple #[]) ∧ Sh.Sst w' c (beF g 8 ++ beF n 4) ∧ Kept (fun k => k = c) X w') from by
    have hl12 : (beF g 8 ++ beF n 4).length = 12 := by rw [List.length_append, beF_len, beF_len]
    refine (Sh.write_any c [] (beF g 8 ++ beF n 4) _ X s (rest_of ?_ fun _ a k c' e => by cases e; exact Nat.ne_of_lt hc) (fun x hx => by rcases List.mem_append.1 hx with h | h; exact beF_byt g 8 x h; exact beF_byt n 4 x h) (HGL.out X h) (by have := H2.out; omega) (by rw [hl12]; decide)).mono fun e w' ⟨q1, q2, q3⟩ => ⟨q1, q2, sk q3⟩
    refine ⟨_, 44, by rw [by8_length, hl12], by rw [by8_length, hl12]; decide, by decide, fun _ => ⟨H, 0, rfl, r.lt, fun i t ht => ?_⟩⟩
    rw [Nat.zero_add]
    refine cell_blk r ?_
    have hi : i < 12 := by have := (List.getElem?_eq_some_iff.1 ht).1; rw [by8_length, hl12] at this; exact this
    rw [← nums_take, by8, List.map_take, List.getElem?_take, if_pos hi] at ht
    exact ht)
  have CW2 := hid_of (fun (X : World) (c : Nat) (hc : H ≤ c) (h : Below H w X) (s : Sh.Sst X c (beF g 8 ++ beF n 4)) => show Calls Tryd.prog 59 #[.pointer (some ⟨c, 0, none⟩), .slice ao n cap] X (fun e w' => e = .returned (.tuple #[]) ∧ Sh.Sst w' c (beF g 8 ++ (beF n 4 ++ b)) ∧ Kept (fun k => k = c) X w') from
    (Sh.write_any c _ b _ X s (HIN.out X h c hc) hb (HGL.out X h) (by have := H2.out; omega) (by rw [List.length_append, beF_len, beF_len]; omega)).mono fun e w' ⟨q1, q2, q3⟩ => ⟨q1, by rw [← List.append_assoc]; exact q2, sk q3⟩)
  have CS := hid_of (fun (X : World) (c : Nat) (h : Below H w X) (s : Sh.Sst X c (beF g 8 ++ (beF n 4 ++ b))) => Sh.sum_any c _ X s (HGL.out X h) (by simp only [List.length_append, beF_len]; omega))
  obtain ⟨d, hd⟩ : ∃ d, d = Sh.digest (beF g 8 ++ (beF n 4 ++ b)) := ⟨_, rfl⟩
  have hdl : d.length = 32 := by rw [hd, Sh.digest_length]
  rw [← hd] at CS
  obtain ⟨out, hout⟩ : ∃ out, out = (by8 (beF g 8 ++ (beF n 4 ++ d))).toArray := ⟨_, rfl⟩
  have HOUT := hid_of hout
  have HFIN : Hid (beF g 8 ++ (beF n 4 ++ d) = encF b g) := hid_of (by rw [encF, ← hn, hd])
  have HDL := hid_of hdl
  have HDR := hid_of (show Byt d by rw [hd]; exact Sh.digest_rng _)
  have b0 : Below H w (w.alloc (.cells (by8 (List.replicate 44 0)).toArray 96)) := by rw [hH]; exact bel_alloc w _
  have r0 : Brow (w.alloc (.cells (by8 (List.replicate 44 0)).toArray 96)) H 96 (List.replicate 44 0) := by rw [hH]; exact heap_alloc_new w _
  have HB0 := hid_of b0
  have CP0 := hid_of (CP1.out _ r0)
  rw [← hH]
  have HH := hid_of hH
  have HL := hid_of (show H ≤ w.heap.size by omega)
  clear hR hb hl hg hG hd hdl hout hn b0 r0 hH CP1
  go_enter Tryd.func49, Tryd.ntmps49
  go_wp2_with (first
    | (go_at_call 57; rw [← HH.out]; ((refine (CP0.out).mono ?_); (rintro e w1 ⟨rfl, q1, q2⟩)); have R1 := hid_of q1; have B1 := hid_of (bel_kept HB0.out HL.out q2 (Nat.le_refl _)); clear q1 q2)
    | (go_at_call 57; ((with_reducible refine (CP2.out w1 R1.out).mono ?_); (rintro e w2 ⟨rfl, q1, q2⟩)); rw [HD2.out] at q1; have R2 := hid_of q1; have B2 := hid_of (bel_kept B1.out HL.out q2 (Nat.le_refl _)); clear q1 q2)
    | (go_at_call 58; ((with_reducible refine (CN.out w2 B2.out).mono ?_); (rintro e w3 ⟨rfl, q1, q2⟩)); have S3 := hid_of q1; have R3 := hid_of (R2.out.later (q2.block _ R2.out.lt)); have HC := hid_of (show H < w2.heap.size from R2.out.lt); have B3 := hid_of (B2.out.trans (q2.mono (Nat.le_of_lt R2.out.lt))); clear q1 q2)
    | (go_at_call 59; ((with_reducible refine (CW1.out w3 w2.heap.size HC.out B3.out S3.out R3.out).mono ?_); (rintro e w4 ⟨rfl, q1, q2⟩)); have S4 := hid_of q1; have R4 := hid_of (R3.out.later (q2.block _ R3.out.lt (Nat.ne_of_lt HC.out))); have B4 := hid_of (bel_kept B3.out HL.out q2 (Nat.le_of_lt HC.out)); clear q1 q2)
    | (go_at_call 59; ((with_reducible refine (CW2.out w4 w2.heap.size (Nat.le_of_lt HC.out) B4.out S4.out).mono ?_); (rintro e w5 ⟨rfl, q1, q2⟩)); have S5 := hid_of q1; have R5 := hid_of (R4.out.later (q2.block _ R4.out.lt (Nat.ne_of_lt HC.out))); have B5 := hid_of (bel_kept B4.out HL.out q2 (Nat.le_of_lt HC.out)); clear q1 q2))
  have S5d := hid_of (show Sh.Sst w5.drew w2.heap.size (beF g 8 ++ (beF n 4 ++ b)) from S5.out.later rfl)
  have B5d := hid_of B5.out.drew
  go_region_with (go_at_call 60; go_loud (((with_reducible refine (CS.out w5.drew w2.heap.size B5d.out S5d.out).mono ?_); (rintro e w6 ⟨rfl, q2⟩)); have R6 := hid_of (R5.out.later (q2.block _ R5.out.lt)); have B6 := hid_of (B5d.out.trans (q2.mono (Nat.le_trans HL.out B5d.out.size))); clear q2; have hcp := ecopy_str w6 H d HDL.out HDR.out g n out HOUT.out R6.out))
  all_goals go_wp2
  all_goals go_ret
  all_goals refine ⟨rfl, ?_, below_setRow B6.out (Nat.le_refl _) _⟩
  all_goals (have h9 := setRow_heap w6 H _ out _ _ R6.out; rw [HOUT.out, HFIN.out] at h9; rw [HOUT.out, HFIN.out]; exact h9)
end Go.Proofs.YtlffiebnieakjaaDoor

/- Checkpoint: a slot's body is read. Bounds on sizes alone. -/
namespace Go.Proofs.YtlffiebnieakjaaDoor
open Go.RowKit
set_option maxRecDepth 100000
set_option maxHeartbeats 6400000

theorem flat_con {M : DM} (h : M.Ok) {s : Nat} (hs : s < M.secs.length) : ((flat M).secs.getD s []).length = M.sz := by
  have h1 : (putF M.secs M.cache).length = M.secs.length := putF_len _ _
  show ((putF M.secs M.cache).getD s []).length = M.sz
  rw [List.getD_eq_getElem?_getD, List.getElem?_eq_getElem (by rw [h1]; exact hs)]
  exact putF_con M.sz _ _ h.con (fun p hp => (h.ent p hp).2) _ (List.getElem_mem _)
/-- Sector i of a body. -/
def bodC (M : DM) (f i : Nat) : List Int := (flat M).secs.getD (f + 1 + i) []
/-- A copy between rows of bytes. -/
theorem bcopy (w : World) (g lo l k c : Nat) (x : Option Addr) (L q : List Int) (hL : L.length = l) (hlo : lo < l) (hq : 0 < q.length) (h : w.heap[g]? = some (.cells (by8 L).toArray 5 (0, 0))) (r : Rd w (.slice x k c) (by8 q)) :
    (Builtin.copy_ #[32, 32] 3 #[.slice (some ⟨g, lo, none⟩) (l - lo) (l - lo), .slice x k c]).run Tryd.prog w = .ok (goInt (q.take (l - lo)).length) (w.setRow g (by8 (splice L lo (q.take (l - lo)))).toArray) := by
  have hk := (rd_cut r).1
  rw [by8_length] at hk
  obtain ⟨ao, cap, e, h1, h2, h3⟩ := r
  obtain ⟨g2, o2, ea, hg2, hc⟩ := h3 (by rw [by8_length]; exact hq)
  cases e
  subst ea
  have hn : (by8 (q.take (l - lo))).length = Nat.min (by8 q).length (l - lo) := by rw [by8_length, by8_length, List.length_take]; exact Nat.min_comm _ _
  have := run_copy_row (P := Tryd.prog) w 32 32 3 5 g lo (l - lo) (l - lo) ⟨g2, o2, none⟩ (by8 q).length c (by8 L).toArray 5 (by8 (q.take (l - lo))) Tryd.underlying32 sizeB h hn (fun j v hv => by
    rw [Addr.add_mid]
    refine hc j v ?_
    rw [by8, List.map_take, List.getElem?_take] at hv
    split at hv
    · exact hv
    · cases hv) (by simp [by8_length, hL]; omega) (by8_cells _)
  rw [this, ← by8_splice, splice, by8_length]
  simp only [List.append_assoc]
theorem body_any {B : Nat} {T : Nat → Prop} {b : Nat} {M : DM} (f n z l : Nat) (w : World) (h : DR B T w b M) (hz : M.sz = z) (hz1 : 16 ≤ z) (hf : f + n ≤ M.secs.length) (hl : l ≤ (n - 1) * z) (ho : M.off = false) (hc : M.cache.length ≤ 100000) :
    Calls Tryd.prog 46 #[slV b f n z, .int .i64 l] w fun e w' => e = .returned (.slice (some ⟨w.heap.size + 1, 0, none⟩) l l) ∧ w'.heap[w.heap.size + 1]? = some (.cells (by8 ((areaF (bodC M f) (n - 1)).take l)).toArray 5 (0, 0)) ∧ Below w.heap.size w w' := by
  have hok := h.ok
  have hz4 : z ≤ 4096 := by rw [← hz]; exact hok.sz
  have hsl := hok.secs
  have hl9 : l ≤ 65536 * 4096 := Nat.le_trans hl (Nat.mul_le_mul (by omega) hz4)
  obtain ⟨w1, hw1⟩ : ∃ w1, w1 = w.alloc (slBox b f n z) := ⟨_, rfl⟩
  have ba : Below w.heap.size w w1 := by rw [hw1]; exact bel_alloc w _
  have hs1 : w1.heap.size = w.heap.size + 1 := by rw [hw1]; simp
  have hblk : w1.heap[w.heap.size]? = some (.cells #[.pointer (some ⟨b, 0, none⟩), .int .i64 f, .int .i64 n, .int .i64 z] 69 (0, 0)) := by rw [hw1]; exact heap_alloc_new w _
  obtain ⟨G, hG⟩ : ∃ G, G = w.heap.size + 1 := ⟨_, rfl⟩
  obtain ⟨H, hH⟩ : ∃ H, H = w.heap.size := ⟨_, rfl⟩
  have MK : ∀ w : World, (Instr.makeSlice 32 (.int .i64 l) (.int .i64 l)).run Tryd.prog w = .ok (.slice (some ⟨w.heap.size, 0, none⟩) l l) (w.alloc (.cells (Array.replicate l (.int .u8 0)) 5)) := fun w => by
    have h := run_make_row' (P := Tryd.prog) 32 5 (.int .u8 0) 1 u8E.und u8E.info rfl .i64 .i64 l (by omega) (by omega) w
    rw [show madeCells #[Value.int .u8 0] l = Array.replicate l (.int .u8 0) by rw [← Array.toList_inj]; simp [toList_madeCells_one]] at h
    exact h
  have HA := hid_of (show w1.heap.size = G by rw [hs1, hG])
  have HGH := hid_of (show H < G by omega)
  have b2 := bel_alloc w1 (.cells (Array.replicate l (.int .u8 0)) 5)
  have HB1 := hid_of (show Below H w (w1.alloc (.cells (Array.replicate l (.int .u8 0)) 5)) by rw [hH]; exact ba.trans (b2.mono ba.size))
  have HX1 := hid_of (show (w1.alloc (.cells (Array.replicate l (.int .u8 0)) 5)).heap[H]? = some (.cells #[.pointer (some ⟨b, 0, none⟩), .int .i64 f, .int .i64 n, .int .i64 z] 69 (0, 0)) from by rw [hH]; exact (b2.block _ (by omega)).trans hblk)
  have HW1 : Hid ((w1.alloc (.cells (Array.replicate l (.int .u8 0)) 5)).heap[G]? = some (.cells (by8 (rowF (bodC M f) l 0)).toArray 5 (0, 0))) := hid_of (by
    have h9 := heap_alloc_new w1 (.cells (Array.replicate l (.int .u8 0)) 5)
    rw [hs1, ← hG] at h9
    rw [h9, rowF_zero]
    simp [by8])
  have HSL := hid_of (fun (i : Nat) (hi : i < n - 1) => show (bodC M f i).length = z from by rw [← hz]; exact flat_con hok (by omega))
  have HAL := hid_of (fun (i : Nat) (hi : i ≤ n - 1) => areaF_len (c := bodC M f) (z := z) i fun k hk => HSL.out k (by omega))
  have CR := hid_of (fun (X : World) (hX : Below H w X) (i : Nat) (hi : 1 + i < n) => show Calls Tryd.prog 44 #[slV b f n z, .int .i64 ((1 + i : Nat) : Int)] X (fun e w' => ∃ x k c, e = .returned (.slice x k c) ∧ Rd w' (.slice x k c) (by8 (bodC M f i)) ∧ Below X.heap.size X w') from by
    have h9 := sread_any f n z (1 + i) X (h.bel0 (by rw [← hH]; exact hX)) (by omega) ho (by omega)
    rw [← Nat.add_assoc] at h9
    exact h9)
  have hk2 : ∀ i, i * z < l → 1 + i < n := fun i hi => by
    rcases Nat.lt_or_ge (1 + i) n with h9 | h9
    · exact h9
    · have := Nat.mul_le_mul_right z (show n - 1 ≤ i by omega)
      omega
  have HK2 := hid_of hk2
  have HFIN := hid_of (fun (i : Nat) (hi : l ≤ i * z) (hi2 : i ≤ n - 1) => show rowF (bodC M f) l i = (areaF (bodC M f) (n - 1)).take l from by
    have h1 : l ≤ (areaF (bodC M f) i).length := by rw [HAL.out i hi2]; exact hi
    rw [rowF_full h1]
    have h2 := areaF_more h1 (n - 1 - i)
    rw [show i + (n - 1 - i) = n - 1 by omega] at h2
    exact h2.symm)
  have HW := hid_of hw1
  have HHE := hid_of hH
  have HGE := hid_of hG
  have HHS := hid_of (show H ≤ w.heap.size by omega)
  rw [← hG, ← hH]
  clear h hok hsl hz hw1 ba hs1 hblk hG hH b2 hf hl ho hc hk2
  go_enter Tryd.func46, Tryd.ntmps46
  go_wp2
  rw [← HW.out, ← HGE.out, ← HHE.out]
  go_loopw [6] (fun av wr => ∃ i at_ : Nat, av = .int .i64 at_ ∧ Hid (i ≤ n - 1) ∧ Hid (at_ = i * z) ∧ Hid (Below H w wr) ∧ Hid (wr.heap[H]? = some (.cells #[.pointer (some ⟨b, 0, none⟩), .int .i64 f, .int .i64 n, .int .i64 z] 69 (0, 0))) ∧ Hid (wr.heap[G]? = some (.cells (by8 (rowF (bodC M f) l i)).toArray 5 (0, 0)))) (fun av _ => 300000000 - (intOf av).toNat)
  case atStart => exact ⟨0, 0, rfl, hid_of (Nat.zero_le _), hid_of (by omega), HB1, HX1, HW1⟩
  case round =>
    obtain ⟨i, at_, rfl, hi, hat, hb, hx, hr⟩ := hrel
    by_cases hlt : at_ < l
    · have d1 : decide (at_ < l) = true := decide_eq_true hlt
      have hlt' : (at_ : Int) < (l : Int) := by omega
      have hin : 1 + i < n := HK2.out i (by rw [← hat.out]; exact hlt)
      obtain ⟨j, hj⟩ : ∃ j, j = 1 + i := ⟨_, rfl⟩
      obtain ⟨at2, hat2⟩ : ∃ a, a = at_ + z := ⟨_, rfl⟩
      have hi9 : i ≤ at_ := by rw [hat.out]; exact Nat.le_mul_of_pos_right i (by omega)
      have zne : (z : Int) ≠ 0 := by omega
      have zne2 : ¬ (z : Int) = 0 := by omega
      have zne3 : z ≠ 0 := by omega
      have hdv : at_ / z = i := by rw [hat.out]; exact Nat.mul_div_cancel _ (by omega)
      have t0 : (at_ : Int).tdiv (z : Int) = (i : Int) := by rw [Int.tdiv_eq_ediv_of_nonneg (by omega), ← Int.natCast_ediv, hdv]
      have t0w : IntKind.i64.wrap ((at_ : Int).tdiv (z : Int)) = (i : Int) := by rw [t0]; exact IntWalk.i64_in _ (by omega)
      have t0v : IntKind.i64.wrap (i : Int) = (i : Int) := IntWalk.i64_in _ (by omega)
      have t1 : IntKind.i64.wrap (1 + (i : Int)) = (j : Int) := by rw [show 1 + (i : Int) = (j : Int) by omega]; exact IntWalk.i64_in _ (by omega)
      have t1b : 1 + (i : Int) = (j : Int) := by omega
      have t1v : IntKind.i64.wrap (j : Int) = (j : Int) := IntWalk.i64_in _ (by omega)
      have t2 : IntKind.i64.wrap ((at_ : Int) + (z : Int)) = (at2 : Int) := by rw [show (at_ : Int) + (z : Int) = (at2 : Int) by omega]; exact IntWalk.i64_in _ (by omega)
      have t2b : (at_ : Int) + (z : Int) = (at2 : Int) := by omega
      have b1 : (at_ : Int) ≤ (l : Int) := by omega
      have b3 : at_ ≤ l := by omega
      have b4 : ¬ l = at_ := by omega
      have HAT2 : Hid (at2 = (i + 1) * z) := hid_of (by rw [hat2, hat.out, Nat.add_mul, Nat.one_mul])
      have HA2 := hid_of hat2
      have HLT := hid_of hlt
      have HIN2 := hid_of (show i + 1 ≤ n - 1 by omega)
      have HRL := hid_of (show (rowF (bodC M f) l i).length = l from rowF_len _ _ _)
      have HQL := hid_of (show (bodC M f i).length = z from HSL.out i (by omega))
      have HNX : Hid (splice (rowF (bodC M f) l i) at_ ((bodC M f i).take (l - at_)) = rowF (bodC M f) l (i + 1)) := hid_of (by
        have h9 := HAL.out i (by omega)
        rw [← hat.out] at h9
        have h8 := rowF_next (c := bodC M f) (l := l) (i := i) (by omega)
        rw [h9] at h8
        exact h8.symm)
      have C := hid_of (CR.out wr.drew hb.out.drew i hin)
      rw [← hj] at C
      have HX0 := hid_of (show wr.drew.heap[H]? = _ from hx.out)
      have x0 := cell_blk HX0.out (j := 0) rfl
      have x1 := cell_blk HX0.out (j := 1) rfl
      have x2 := cell_blk HX0.out (j := 2) rfl
      have x3 := cell_blk HX0.out (j := 3) rfl
      clear hj hat2 hdv hin hlt hi9
      go_wp2
      go_region_with (go_at_call 44; go_loud (((with_reducible refine (C.out).mono ?_); (rintro e w3 ⟨x, k, c, rfl, q1, q2⟩)); have B3 := hid_of (hb.out.drew.trans (q2.mono (Nat.le_trans HHS.out hb.out.drew.size))); have R3 := hid_of ((q2.block G (lt_of_block hr.out)).trans hr.out); have X3 := hid_of ((q2.block H (lt_of_block hx.out)).trans hx.out); have hcp := bcopy w3 G at_ l k c x _ _ HRL.out HLT.out (by rw [HQL.out]; omega) R3.out q1; rw [HNX.out] at hcp; have R4 := hid_of (setRow_heap w3 G _ (by8 (rowF (bodC M f) l (i + 1))).toArray _ _ R3.out); have X4 := hid_of ((setRow_other w3 G H (by8 (rowF (bodC M f) l (i + 1))).toArray (Nat.ne_of_lt HGH.out)).trans X3.out); have B4 := hid_of (below_setRow B3.out (Nat.le_of_lt HGH.out) (by8 (rowF (bodC M f) l (i + 1))).toArray); have y3 := cell_blk X4.out (j := 3) rfl; clear q1 q2))
      all_goals go_wp2
      all_goals go_roundw
      all_goals first
        | exact ⟨i + 1, at2, by go_num, HIN2, HAT2, B4, X4, R4⟩
        | (have := HLT.out; have := HA2.out; simp [intOf]; omega)
    · have d1 : decide (at_ < l) = false := decide_eq_false hlt
      have HR := hid_of (HFIN.out i (by rw [← hat.out]; omega) hi.out)
      go_wp2
      go_ret
      exact ⟨rfl, by rw [← HR.out]; exact hr.out, hb.out⟩
end Go.Proofs.YtlffiebnieakjaaDoor

/- Byte strings: converted to strings, compared. No condition. -/
namespace Go.Proofs.YtlffiebnieakjaaDoor
open Go.RowKit
set_option maxRecDepth 100000

theorem lies_of {w : World} {v : Value} {l : List Int} (h : Rd w v (by8 l)) : Sh.Lies w v l := by
  obtain ⟨ao, cap, rfl, h1, h2, h3⟩ := h
  rw [by8_length] at h1 h3
  exact ⟨ao, cap, by rw [by8_length], h1, h2, h3⟩
theorem conv_lies {w : World} {v : Value} {l : List Int} (h : Sh.Lies w v l) : (convert 32 9 v).run Tryd.prog w = .ok (.string (strOfNums l)) w := by
  obtain ⟨ao, cap, rfl, h1, h2, h3⟩ := h
  refine Sh.run_str w _ _ 5 Tryd.underlying32 Tryd.underlying5 Tryd.underlying9 ao l cap (fun h0 => ?_)
  obtain ⟨g, o, q1, q2, q3⟩ := h3 h0
  exact ⟨_, q1, fun j u hu => by rw [Addr.add_mid]; exact q3 j u hu⟩
theorem strs_eq {a b : List Int} (ha : ∀ y ∈ a, 0 ≤ y ∧ y ≤ 255) (hb : ∀ y ∈ b, 0 ≤ y ∧ y ≤ 255) : (strOfNums a = strOfNums b) ↔ a = b := by
  constructor
  · intro h
    have h2 : (strOfNums a).data.toList.map (fun b => (b.toNat : Int)) = (strOfNums b).data.toList.map (fun b => (b.toNat : Int)) := by rw [h]
    rw [strOfNums_data, strOfNums_data, List.map_map, List.map_map] at h2
    have e : ∀ l : List Int, (∀ y ∈ l, 0 ≤ y ∧ y ≤ 255) → l.map ((fun b : UInt8 => (b.toNat : Int)) ∘ fun n => UInt8.ofNat n.toNat) = l := fun l hl => by
      refine (List.map_congr_left fun y hy => ?_).trans (List.map_id l)
      have := hl y hy
      simp
      omega
    rw [e a ha, e b hb] at h2
    exact h2
  · rintro rfl; rfl
theorem equal_any (v u : Value) (a b : List Int) (w : World) (hv : Sh.Lies w v a) (hu : Sh.Lies w u b) (ha : ∀ y ∈ a, 0 ≤ y ∧ y ≤ 255) (hb : ∀ y ∈ b, 0 ≤ y ∧ y ≤ 255) :
    Calls Tryd.prog 47 #[v, u] w fun e w' => e = .returned (.bool (decide (a = b))) ∧ w = w' := by
  have c1 := conv_lies hv
  have c2 := conv_lies hu
  obtain ⟨r, hr⟩ : ∃ r, r = decide (a = b) := ⟨_, rfl⟩
  rw [← hr]
  have HR := hid_of hr
  have HA := hid_of ha
  have HB := hid_of hb
  clear hv hu ha hb hr
  go_enter Tryd.func47, Tryd.ntmps47
  go_wp2
  go_ret
  refine ⟨?_, rfl⟩
  have e : ((strOfNums a).toList == (strOfNums b).toList) = r := by
    rw [HR.out, ByteArray.toList_eq, ByteArray.toList_eq, Bool.eq_iff_iff, beq_iff_eq, decide_eq_true_iff, ← strs_eq HA.out HB.out]
    constructor
    · intro h
      cases hx : strOfNums a with
      | mk da =>
        cases hy : strOfNums b with
        | mk db =>
          rw [hx, hy] at h
          simp at h
          rw [h]
    · intro h; rw [h]
  show Ending.returned (.bool ((strOfNums a).toList == (strOfNums b).toList)) = _
  rw [e]

theorem equal8 (v u : Value) (a b : List Int) (w : World) (hv : Rd w v (by8 a)) (hu : Rd w u (by8 b)) (ha : Byt a) (hb : Byt b) :
    Calls Tryd.prog 47 #[v, u] w fun e w' => e = .returned (.bool (decide (a = b))) ∧ w = w' := equal_any v u a b w (lies_of hv) (lies_of hu) ha hb
end Go.Proofs.YtlffiebnieakjaaDoor

/- Checkpoint: what a slot holds is loaded. Bounds on sizes alone. -/
namespace Go.Proofs.YtlffiebnieakjaaDoor
open Go.RowKit
set_option maxRecDepth 100000
set_option maxHeartbeats 6400000

/-- What a slot holds on a disk, its cache carried out. -/
def slD (M : DM) (f n : Nat) : Option (List Int × Nat) := slotF Sh.digest ((flat M).secs.getD f []) (areaF (bodC M f) (n - 1))
theorem rng_flat {M : DM} (h : RngM M) (s : Nat) : Byt ((flat M).secs.getD s []) := fun x hx => by
  have h1 : RngM (flat M) := ⟨rng_put _ _ h.1 h.2, fun p hp => by simp [flat] at hp⟩
  exact rng_get h1 s x hx
theorem areaF_byt {c : Nat → List Int} (h : ∀ i, Byt (c i)) : ∀ k, Byt (areaF c k)
  | 0 => fun x hx => by simp [areaF] at hx
  | k + 1 => fun x hx => by
    rw [areaF] at hx
    rcases List.mem_append.1 hx with h1 | h1
    · exact areaF_byt h k x h1
    · exact h k x h1
theorem rd_blk {w : World} {g n : Nat} {l : List Int} (h : w.heap[g]? = some (.cells (by8 l).toArray 5 (0, 0))) (hn : l.length = n) (h9 : n ≤ 1000000000) : Rd w (.slice (some ⟨g, 0, none⟩) n n) (by8 l) := by
  subst hn
  exact ⟨_, l.length, by rw [by8_length], by rw [by8_length]; exact Nat.le_refl _, by omega, fun _ => ⟨g, 0, rfl, lt_of_block h, fun j u hu => by rw [Nat.zero_add]; exact cell_blk h hu⟩⟩
theorem rd_brow {w : World} {g n t : Nat} {l : List Int} (h : Brow w g t l) (hn : l.length = n) (h9 : n ≤ 1000000000) : Rd w (.slice (some ⟨g, 0, none⟩) n n) (by8 l) := by
  subst hn
  exact ⟨_, l.length, by rw [by8_length], by rw [by8_length]; exact Nat.le_refl _, by omega, fun _ => ⟨g, 0, rfl, h.lt, fun j u hu => by rw [Nat.zero_add]; exact cell_blk h hu⟩⟩
/-- What load gives. -/
def LdQ (o : Option (List Int × Nat)) (w : World) (e : Ending) (w' : World) : Prop := ∃ x k c, e = .returned (.tuple #[.slice x k c, .int .i64 ((o.getD ([], 0)).2 : Nat)]) ∧ CR (fun k => w.heap.size ≤ k) w' (.slice x k c) (o.getD ([], 0)).1 ∧ Below w.heap.size w w'
theorem ldq_none {w w' : World} (h : Below w.heap.size w w') : LdQ none w (.returned (.tuple #[.slice none 0 0, .int .i64 0])) w' := ⟨none, 0, 0, rfl, ⟨⟨none, 0, rfl, Nat.le_refl _, by omega, fun h => by simp [by8] at h⟩, fun h => by simp at h⟩, h⟩
theorem load_any {B : Nat} {T : Nat → Prop} {b : Nat} {M : DM} (f n z : Nat) (w : World) (h : DR B T w b M) (hz : M.sz = z) (hz1 : 64 ≤ z) (hn : 1 ≤ n) (hf : f + n ≤ M.secs.length) (ho : M.off = false) (hc : M.cache.length ≤ 100000) (hr : RngM M) (hG : Sh.Glob w) :
    Calls Tryd.prog 33 #[slV b f n z] w fun e w' => LdQ (slD M f n) w e w' := by
  have hok := h.ok
  have hz4 : z ≤ 4096 := by rw [← hz]; exact hok.sz
  have hsl := hok.secs
  obtain ⟨hd, hhd⟩ : ∃ hd, hd = (flat M).secs.getD f [] := ⟨_, rfl⟩
  obtain ⟨bd, hbd⟩ : ∃ bd, bd = areaF (bodC M f) (n - 1) := ⟨_, rfl⟩
  have hdb : Byt hd := by rw [hhd]; exact rng_flat hr f
  have bdb : Byt bd := by rw [hbd]; exact areaF_byt (fun i => rng_flat hr _) _
  have hdl : hd.length = z := by rw [hhd, ← hz]; exact flat_con hok (by omega)
  have bdl : bd.length = (n - 1) * z := by rw [hbd]; exact areaF_len _ fun i hi => by rw [← hz]; exact flat_con hok (by omega)
  have hroom : (n - 1) * z ≤ 65536 * 4096 := Nat.mul_le_mul (by omega) hz4
  obtain ⟨g, hg⟩ : ∃ g, g = numF (hd.take 8) := ⟨_, rfl⟩
  obtain ⟨m, hm⟩ : ∃ m, m = numF ((hd.drop 8).take 4) := ⟨_, rfl⟩
  have g64 : g < 18446744073709551616 := by
    rw [hg]
    have h1 := num_lt (hd.take 8) fun x hx => hdb x (List.mem_of_mem_take hx)
    rw [show (hd.take 8).length = 8 by rw [List.length_take]; omega] at h1
    exact h1
  have m64 : m < 4294967296 := by
    rw [hm]
    have h1 := num_lt ((hd.drop 8).take 4) fun x hx => hdb x (List.mem_of_mem_drop (List.mem_of_mem_take hx))
    rw [show ((hd.drop 8).take 4).length = 4 by rw [List.length_take, List.length_drop]; omega] at h1
    exact h1
  obtain ⟨R, hR⟩ : ∃ R, R = (n - 1) * z := ⟨_, rfl⟩
  have hsd : slD M f n = if g < 1 ∨ maxG < g ∨ R < m ∨ hd ≠ headK Sh.digest z (bd.take m) g then none else some (bd.take m, g) := by
    rw [slD, ← hhd, ← hbd, slotF, hdl, ← hg, ← hm, bdl, ← hR]
  obtain ⟨w1, hw1⟩ : ∃ w1, w1 = w.alloc (slBox b f n z) := ⟨_, rfl⟩
  have ba : Below w.heap.size w w1 := by rw [hw1]; exact bel_alloc w _
  have hs1 : w1.heap.size = w.heap.size + 1 := by rw [hw1]; simp
  have hblk : w1.heap[w.heap.size]? = some (.cells #[.pointer (some ⟨b, 0, none⟩), .int .i64 f, .int .i64 n, .int .i64 z] 69 (0, 0)) := by rw [hw1]; exact heap_alloc_new w _
  obtain ⟨H, hH⟩ : ∃ H, H = w.heap.size := ⟨_, rfl⟩
  have HS1 := hid_of (show w.heap.size ≤ w1.heap.size by omega)
  have HHS := hid_of (show H ≤ w.heap.size by omega)
  have B1 := hid_of (show Below H w w1 by rw [hH]; exact ba)
  -- the box, in every later world
  have HBX := hid_of (fun (X : World) (hX : Below w1.heap.size w1 X) => show X.cell? ⟨w.heap.size, 0, none⟩ = some (.pointer (some ⟨b, 0, none⟩)) ∧ X.cell? ⟨w.heap.size, 1, none⟩ = some (.int .i64 f) ∧ X.cell? ⟨w.heap.size, 2, none⟩ = some (.int .i64 n) ∧ X.cell? ⟨w.heap.size, 3, none⟩ = some (.int .i64 z) from by
    have e := (hX.block _ (by omega)).trans hblk
    exact ⟨cell_blk e rfl, cell_blk e rfl, cell_blk e rfl, cell_blk e rfl⟩)
  have UP := hid_of (fun (X : World) (hX : Below w1.heap.size w1 X) => show Below H w X from by rw [hH]; exact ba.trans (hX.mono ba.size))
  have CR0 := hid_of (show Calls Tryd.prog 44 #[slV b f n z, .int .i64 0] w1 (fun e w' => ∃ x k c, e = .returned (.slice x k c) ∧ Rd w' (.slice x k c) (by8 hd) ∧ Below w1.heap.size w1 w') from by
    have h9 := sread_any f n z 0 w1 (h.bel0 ba) (by omega) ho (by omega)
    rw [Nat.add_zero, ← hhd] at h9
    exact h9)
  have CP := hid_of (fun (X : World) (x : Option Addr) (k c : Nat) (r : Rd X (.slice x k c) (by8 hd)) => parse_any x k c hd X r hdb (by omega))
  rw [← hg, ← hm] at CP
  have CRM := hid_of (fun (X : World) => room_any b f n z ⟨hn, by omega⟩ hz4 X)
  rw [← hR] at CRM hroom
  have CBD := hid_of (fun (X : World) (hX : Below w1.heap.size w1 X) (hmR : m ≤ R) => body_any f n z m X (h.bel0 (by have := UP.out X hX; rwa [hH] at this)) hz (by omega) hf (by rw [← hR]; exact hmR) ho hc)
  rw [← hbd] at CBD
  have hbm : Byt (bd.take m) := fun x hx => bdb x (List.mem_of_mem_take hx)
  have CEN := hid_of (fun (X : World) (hX : Below w1.heap.size w1 X) (x : Option Addr) (k c : Nat) (r : Rd X (.slice x k c) (by8 (bd.take m))) (hg1 : g < 9223372036854775808) => encode_any x k c (bd.take m) g X r hbm (by rw [List.length_take]; omega) hg1 (hG.bel (by have := UP.out X hX; rwa [hH] at this) hG.two))
  have CSE := hid_of (fun (X : World) (x : Option Addr) (k c : Nat) (l : List Int) (r : Rd X (.slice x k c) (by8 l)) => ssector_any b f n z hz4 x k c l X r)
  have CEQ := hid_of (fun (X : World) (v u : Value) (l : List Int) (h1 : Rd X v (by8 hd)) (h2 : Rd X u (by8 l)) (h3 : Byt l) => equal8 v u hd l X h1 h2 hdb h3)
  rw [hsd]
  have R9 : R ≤ 268435456 := hroom
  have bdR : bd.length = R := by rw [bdl, hR]
  have HW := hid_of hw1
  have HDB := hid_of hdb
  have g1 : IntKind.u64.wrap (R : Int) = (R : Int) := IntWalk.u64_in _ (by omega)
  clear h hok hsl hz hw1 ba hs1 hblk hhd hbd hdb bdb hg hm hf ho hc hr hG hroom hsd bdl hR hbm
  by_cases c1 : g < 1
  · rw [if_pos (Or.inl c1)]
    obtain rfl : g = 0 := by omega
    have HF := hid_of (show LdQ none w (.returned (.tuple #[.slice none 0 0, .int .i64 0])) = LdQ none w (.returned (.tuple #[.slice none 0 0, .int .i64 0])) from rfl)
    go_enter Tryd.func33, Tryd.ntmps33
    go_wp2_with (first
      | (go_at_call 44; rw [← HW.out]; (((with_reducible refine (CR0.out).mono ?_); (rintro e w2 ⟨x, k, c, rfl, q1, q2⟩)); have R2 := hid_of q1; have B2 := hid_of q2; obtain ⟨x0, x1, x2, x3⟩ := HBX.out w2 B2.out; clear q1 q2))
      | (go_at_call 45; (((with_reducible refine (CP.out w2 x k c R2.out).mono ?_); (rintro e w3 ⟨rfl, q2⟩)); have B3 := hid_of (B2.out.trans (q2.mono B2.out.size)); obtain ⟨y0, y1, y2, y3⟩ := HBX.out w3 B3.out; clear q2)))
    go_ret2
    have h9 := UP.out w3 B3.out
    rw [hH] at h9
    exact ldq_none h9
  have l1 : ¬ (g : Int) < 1 := by omega
  have l1b : decide ((g : Int) < 1) = false := decide_eq_false l1
  have l1c : ¬ g = 0 := by omega
  by_cases c2 : maxG < g
  · rw [if_pos (Or.inr (Or.inl c2))]
    have l2 : 4611686018427387904 < (g : Int) := by unfold maxG at c2; omega
    have l2b : decide (4611686018427387904 < (g : Int)) = true := decide_eq_true l2
    have l2c : 4611686018427387904 < g := c2
    clear c1 c2
    go_enter Tryd.func33, Tryd.ntmps33
    go_wp2_with (first
      | (go_at_call 44; rw [← HW.out]; (((with_reducible refine (CR0.out).mono ?_); (rintro e w2 ⟨x, k, c, rfl, q1, q2⟩)); have R2 := hid_of q1; have B2 := hid_of q2; obtain ⟨x0, x1, x2, x3⟩ := HBX.out w2 B2.out; clear q1 q2))
      | (go_at_call 45; (((with_reducible refine (CP.out w2 x k c R2.out).mono ?_); (rintro e w3 ⟨rfl, q2⟩)); have R3 := hid_of (R2.out.at q2); have B3 := hid_of (B2.out.trans (q2.mono B2.out.size)); obtain ⟨y0, y1, y2, y3⟩ := HBX.out w3 B3.out; clear q2))
      | (go_at_call 35; (((with_reducible refine (CRM.out w3).mono ?_); (rintro e w4 ⟨rfl, q2⟩)); have R4 := hid_of (R3.out.at q2); have B4 := hid_of (B3.out.trans (q2.mono B3.out.size)); obtain ⟨z0, z1, z2, z3⟩ := HBX.out w4 B4.out; clear q2)))
    go_ret2
    have h9 := UP.out w3 B3.out
    rw [hH] at h9
    exact ldq_none h9
  have l2 : ¬ 4611686018427387904 < (g : Int) := by unfold maxG at c2; omega
  have l2b : decide (4611686018427387904 < (g : Int)) = false := decide_eq_false l2
  have l2c : ¬ 4611686018427387904 < g := c2
  by_cases c3 : R < m
  · rw [if_pos (Or.inr (Or.inr (Or.inl c3)))]
    have l3 : (R : Int) < (m : Int) := by omega
    have l3b : decide (R < m) = true := decide_eq_true c3
    clear c1 c2
    go_enter Tryd.func33, Tryd.ntmps33
    go_wp2_with (first
      | (go_at_call 44; rw [← HW.out]; (((with_reducible refine (CR0.out).mono ?_); (rintro e w2 ⟨x, k, c, rfl, q1, q2⟩)); have R2 := hid_of q1; have B2 := hid_of q2; obtain ⟨x0, x1, x2, x3⟩ := HBX.out w2 B2.out; clear q1 q2))
      | (go_at_call 45; (((with_reducible refine (CP.out w2 x k c R2.out).mono ?_); (rintro e w3 ⟨rfl, q2⟩)); have R3 := hid_of (R2.out.at q2); have B3 := hid_of (B2.out.trans (q2.mono B2.out.size)); obtain ⟨y0, y1, y2, y3⟩ := HBX.out w3 B3.out; clear q2))
      | (go_at_call 35; (((with_reducible refine (CRM.out w3).mono ?_); (rintro e w4 ⟨rfl, q2⟩)); have R4 := hid_of (R3.out.at q2); have B4 := hid_of (B3.out.trans (q2.mono B3.out.size)); obtain ⟨z0, z1, z2, z3⟩ := HBX.out w4 B4.out; clear q2)))
    go_ret2
    have h9 := UP.out w4 B4.out
    rw [hH] at h9
    exact ldq_none h9
  have l3 : ¬ (R : Int) < (m : Int) := by omega
  have l3b : decide (R < m) = false := decide_eq_false c3
  have m1 : IntKind.i64.wrap (m : Int) = (m : Int) := IntWalk.i64_in _ (by omega)
  have gm : IntKind.i64.wrap (g : Int) = (g : Int) := IntWalk.i64_in _ (by omega)
  have HMR := hid_of (show m ≤ R by omega)
  have HG9 := hid_of (show g < 9223372036854775808 by omega)
  obtain ⟨ct, hct⟩ : ∃ ct, ct = bd.take m := ⟨_, rfl⟩
  rw [← hct] at CBD CEN ⊢
  have HPE := hid_of (pad_enc ct g (z := z) (by omega))
  have HPB := hid_of (show Byt (headK Sh.digest z ct g) from by
    rw [← HPE.out]
    intro x hx
    rcases List.mem_append.1 hx with h | h
    · exact encF_byt g x (List.mem_of_mem_take h)
    · rw [List.mem_replicate] at h; omega)
  have HKL := hid_of (show (headK Sh.digest z ct g).length = z from headK_len Sh.digest_length (by omega) ct g)
  have HM9 := hid_of (show m ≤ 1000000000 by omega)
  have HCL := hid_of (show ct.length = m by rw [hct, List.length_take]; omega)
  clear bdR hct c1 c2 c3
  by_cases c4 : hd = headK Sh.digest z ct g
  · have hno : ¬ (g < 1 ∨ maxG < g ∨ R < m ∨ hd ≠ headK Sh.digest z ct g) := not_or.2 ⟨by omega, not_or.2 ⟨l2c, not_or.2 ⟨by have := HMR.out; omega, fun h => h c4⟩⟩⟩
    rw [if_neg hno]
    clear hno
    have HC4 := hid_of (show decide (hd = headK Sh.digest z ct g) = true from decide_eq_true c4)
    clear c4
    go_enter Tryd.func33, Tryd.ntmps33
    go_wp2_with (first
      | (go_at_call 44; rw [← HW.out]; (((with_reducible refine (CR0.out).mono ?_); (rintro e w2 ⟨x, k, c, rfl, q1, q2⟩)); have R2 := hid_of q1; have B2 := hid_of q2; obtain ⟨x0, x1, x2, x3⟩ := HBX.out w2 B2.out; clear q1 q2))
      | (go_at_call 45; (((with_reducible refine (CP.out w2 x k c R2.out).mono ?_); (rintro e w3 ⟨rfl, q2⟩)); have R3 := hid_of (R2.out.at q2); have B3 := hid_of (B2.out.trans (q2.mono B2.out.size)); obtain ⟨y0, y1, y2, y3⟩ := HBX.out w3 B3.out; clear q2))
      | (go_at_call 35; (((with_reducible refine (CRM.out w3).mono ?_); (rintro e w4 ⟨rfl, q2⟩)); have R4 := hid_of (R3.out.at q2); have B4 := hid_of (B3.out.trans (q2.mono B3.out.size)); obtain ⟨z0, z1, z2, z3⟩ := HBX.out w4 B4.out; clear q2))
      | (go_at_call 46; (((with_reducible refine (CBD.out w4 B4.out HMR.out).mono ?_); (rintro e w5 ⟨rfl, q1, q2⟩)); have W5 := hid_of q1; have R5 := hid_of (R4.out.at q2); have B5 := hid_of (B4.out.trans (q2.mono B4.out.size)); obtain ⟨p0, p1, p2, p3⟩ := HBX.out w5 B5.out; clear q1 q2)))
    have B5d := hid_of B5.out.drew
    have R5d := hid_of (show Rd w5.drew (.slice x k c) (by8 hd) from R5.out.at (Below.refl _ _).drew)
    have L5 := hid_of (show Rd w5.drew (.slice (some ⟨w4.heap.size + 1, 0, none⟩) m m) (by8 ct) from rd_blk W5.out HCL.out HM9.out)
    obtain ⟨o0, o1, o2, o3⟩ := HBX.out w5.drew B5d.out
    go_region_held3 (fun X => X.cell? ⟨w.heap.size, 0, none⟩ = some (.pointer (some ⟨b, 0, none⟩)) ∧ X.cell? ⟨w.heap.size, 1, none⟩ = some (.int .i64 f) ∧ X.cell? ⟨w.heap.size, 2, none⟩ = some (.int .i64 n) ∧ X.cell? ⟨w.heap.size, 3, none⟩ = some (.int .i64 z)) (exact HBX.out _ (Hid.out (by with_reducible assumption))) (first
      | (go_at_call 49; (((with_reducible refine (CEN.out w5.drew B5d.out _ m m L5.out HG9.out).mono ?_); (rintro e w6 ⟨rfl, q1, q2⟩)); have E6 := hid_of (show Rd w6 (.slice (some ⟨w5.heap.size, 0, none⟩) 44 44) (by8 (encF ct g)) from rd_brow q1 (encF_len ct g) (by decide)); have R6 := hid_of (R5d.out.at q2); have B6 := hid_of (B5d.out.trans (q2.mono B5d.out.size)); have W6 := hid_of ((q2.block _ (lt_of_block W5.out)).trans W5.out); clear q1 q2))
      | (go_at_call 48; (((with_reducible refine (CSE.out w6 _ 44 44 _ E6.out).mono ?_); (rintro e w7 ⟨rfl, q1, q2⟩)); rw [HPE.out] at q1; have S7 := hid_of (show Rd w7 (.slice (some ⟨w6.heap.size + 1, 0, none⟩) z z) (by8 (headK Sh.digest z ct g)) from rd_blk q1 HKL.out (by omega)); have R7 := hid_of (R6.out.at q2); have B7 := hid_of (B6.out.trans (q2.mono B6.out.size)); have W7 := hid_of ((q2.block _ (lt_of_block W6.out)).trans W6.out); clear q1 q2))
      | (go_at_call 47; (((with_reducible refine (CEQ.out w7 _ _ _ R7.out S7.out HPB.out).mono ?_); (rintro e w8 ⟨rfl, rfl⟩)); rw [HC4.out])))
    all_goals go_wp2
    all_goals go_ret2
    all_goals (have h9 := UP.out w7 B7.out; rw [hH] at h9)
    all_goals exact ⟨_, m, m, rfl, ⟨rd_blk W7.out HCL.out HM9.out, fun _ a k c e => by cases e; have := (B4.out.size); have := HS1.out; show w.heap.size ≤ w4.heap.size + 1; omega⟩, h9⟩
  · have hno : g < 1 ∨ maxG < g ∨ R < m ∨ hd ≠ headK Sh.digest z ct g := Or.inr (Or.inr (Or.inr c4))
    rw [if_pos hno]
    clear hno
    have HC4 := hid_of (show decide (hd = headK Sh.digest z ct g) = false from decide_eq_false c4)
    clear c4
    go_enter Tryd.func33, Tryd.ntmps33
    go_wp2_with (first
      | (go_at_call 44; rw [← HW.out]; (((with_reducible refine (CR0.out).mono ?_); (rintro e w2 ⟨x, k, c, rfl, q1, q2⟩)); have R2 := hid_of q1; have B2 := hid_of q2; obtain ⟨x0, x1, x2, x3⟩ := HBX.out w2 B2.out; clear q1 q2))
      | (go_at_call 45; (((with_reducible refine (CP.out w2 x k c R2.out).mono ?_); (rintro e w3 ⟨rfl, q2⟩)); have R3 := hid_of (R2.out.at q2); have B3 := hid_of (B2.out.trans (q2.mono B2.out.size)); obtain ⟨y0, y1, y2, y3⟩ := HBX.out w3 B3.out; clear q2))
      | (go_at_call 35; (((with_reducible refine (CRM.out w3).mono ?_); (rintro e w4 ⟨rfl, q2⟩)); have R4 := hid_of (R3.out.at q2); have B4 := hid_of (B3.out.trans (q2.mono B3.out.size)); obtain ⟨z0, z1, z2, z3⟩ := HBX.out w4 B4.out; clear q2))
      | (go_at_call 46; (((with_reducible refine (CBD.out w4 B4.out HMR.out).mono ?_); (rintro e w5 ⟨rfl, q1, q2⟩)); have W5 := hid_of q1; have R5 := hid_of (R4.out.at q2); have B5 := hid_of (B4.out.trans (q2.mono B4.out.size)); obtain ⟨p0, p1, p2, p3⟩ := HBX.out w5 B5.out; clear q1 q2)))
    have B5d := hid_of B5.out.drew
    have R5d := hid_of (show Rd w5.drew (.slice x k c) (by8 hd) from R5.out.at (Below.refl _ _).drew)
    have L5 := hid_of (show Rd w5.drew (.slice (some ⟨w4.heap.size + 1, 0, none⟩) m m) (by8 ct) from rd_blk W5.out HCL.out HM9.out)
    obtain ⟨o0, o1, o2, o3⟩ := HBX.out w5.drew B5d.out
    go_region_held3 (fun X => X.cell? ⟨w.heap.size, 0, none⟩ = some (.pointer (some ⟨b, 0, none⟩)) ∧ X.cell? ⟨w.heap.size, 1, none⟩ = some (.int .i64 f) ∧ X.cell? ⟨w.heap.size, 2, none⟩ = some (.int .i64 n) ∧ X.cell? ⟨w.heap.size, 3, none⟩ = some (.int .i64 z)) (exact HBX.out _ (Hid.out (by with_reducible assumption))) (first
      | (go_at_call 49; (((with_reducible refine (CEN.out w5.drew B5d.out _ m m L5.out HG9.out).mono ?_); (rintro e w6 ⟨rfl, q1, q2⟩)); have E6 := hid_of (show Rd w6 (.slice (some ⟨w5.heap.size, 0, none⟩) 44 44) (by8 (encF ct g)) from rd_brow q1 (encF_len ct g) (by decide)); have R6 := hid_of (R5d.out.at q2); have B6 := hid_of (B5d.out.trans (q2.mono B5d.out.size)); have W6 := hid_of ((q2.block _ (lt_of_block W5.out)).trans W5.out); clear q1 q2))
      | (go_at_call 48; (((with_reducible refine (CSE.out w6 _ 44 44 _ E6.out).mono ?_); (rintro e w7 ⟨rfl, q1, q2⟩)); rw [HPE.out] at q1; have S7 := hid_of (show Rd w7 (.slice (some ⟨w6.heap.size + 1, 0, none⟩) z z) (by8 (headK Sh.digest z ct g)) from rd_blk q1 HKL.out (by omega)); have R7 := hid_of (R6.out.at q2); have B7 := hid_of (B6.out.trans (q2.mono B6.out.size)); have W7 := hid_of ((q2.block _ (lt_of_block W6.out)).trans W6.out); clear q1 q2))
      | (go_at_call 47; (((with_reducible refine (CEQ.out w7 _ _ _ R7.out S7.out HPB.out).mono ?_); (rintro e w8 ⟨rfl, rfl⟩)); rw [HC4.out])))
    all_goals go_wp2
    all_goals go_ret2
    all_goals (have h9 := UP.out w7 B7.out; rw [hH] at h9)
    all_goals exact ldq_none h9
end Go.Proofs.YtlffiebnieakjaaDoor

/- Checkpoint: a store in memory; Down, Room, Load. Bounds on sizes alone. -/
namespace Go.Proofs.YtlffiebnieakjaaDoor
open Go.RowKit
set_option maxRecDepth 100000
set_option maxHeartbeats 6400000

theorem bclone_any (ao : Option Addr) (n cap : Nat) (l : List Int) (w : World) (hr : Rd w (.slice ao n cap) (by8 l)) (hl : l.length ≤ 1000000000) :
    Calls Tryd.prog 34 #[.slice ao n cap] w fun e w' => ∃ x k c, e = .returned (.slice x k c) ∧ CR (fun k => w.heap.size ≤ k) w' (.slice x k c) l ∧ Below w.heap.size w w' := by
  have hn := (rd_cut hr).1
  rw [by8_length] at hn
  have q : ∀ (w : World) (a : Option Addr) (n c n' c' : Nat), (binOp .eql 32 (.slice a n c) (.slice none n' c')).run Tryd.prog w = .ok (.bool a.isNone) w := fun w a n c n' c' => Lib.run_eql_slice_nil w _ _ a n c n' c' Tryd.underlying32
  cases ao with
  | none =>
    have h0 : l = [] := by
      rcases Nat.eq_zero_or_pos l.length with h | h
      · exact List.eq_nil_of_length_eq_zero h
      · obtain ⟨y, hy⟩ : ∃ y, (by8 l)[0]? = some y := ⟨_, List.getElem?_eq_getElem (by rw [by8_length]; exact h)⟩
        obtain ⟨g, o, e, _⟩ := rd_at hr hy
        cases e
    subst h0
    clear hr hl hn
    go_enter Tryd.func34, Tryd.ntmps34
    go_wp2
    go_ret
    exact ⟨none, 0, 0, rfl, ⟨⟨none, 0, rfl, Nat.le_refl _, by omega, fun h => by simp [by8] at h⟩, fun h => by simp at h⟩, Below.refl _ _⟩
  | some ad =>
    have HR := hid_of hr
    have HL := hid_of hl
    clear hr hl
    go_enter Tryd.func34, Tryd.ntmps34
    go_wp2_with (at_builtin; (refine wpList_app u8E rfl _ _ rfl (v := .slice (some ⟨w.heap.size, 0, none⟩) 0 0) (l := []) rfl (ow_empty 5 w) (vx := .slice (some ad) n cap) (m := by8 l) rfl (HR.out.at (bel_alloc w _)) (by8_cells l) (by have := HL.out; simp [by8_length]; omega) (by have := HL.out; simp [by8_length]; omega) ?_); intro xo1 n1 c1 w1 hn1 h1; have H1 : Hid (Ow 5 w.heap.size w w1 (.slice xo1 n1 c1) (by8 l)) := hid_of h1; clear h1 hn1)
    go_ret
    exact ⟨_, _, _, rfl, ⟨H1.out.rd (by rw [by8_length]; have := HL.out; omega), fun _ a n c e => (H1.out.own.lt a.block (by rw [e]; rfl)).1⟩, H1.out.bel⟩
/-- The cells of a store. -/
abbrev stRow (b f n z i : Nat) (vs : Value) (g : Nat) (wk : Bool) : List Value := [.pointer (some ⟨b, 0, none⟩), .int .i64 f, .int .i64 n, .int .i64 z, .pointer (some ⟨b, 0, none⟩), .int .i64 ((f + n : Nat) : Int), .int .i64 n, .int .i64 z, .int .i64 i, vs, .int .i64 g, .bool wk]
/-- A store in block cb: its own blocks are in U. -/
structure SK (U : Nat → Prop) (w : World) (cb b f n z i : Nat) (c : List Int) (g : Nat) (wk : Bool) : Prop where
  cells : ∃ x k m, w.heap[cb]? = some (.cells (stRow b f n z i (.slice x k m) g wk).toArray 72 (0, 0)) ∧ CR (fun k => U k ∧ k ≠ cb) w (.slice x k m) c
  own : U cb
  ix : i ≤ 1
  nb : 1 ≤ n ∧ n ≤ 65536 ∧ z ≤ 4096 ∧ f + n ≤ 65536
  cl : c.length ≤ (n - 1) * z
  gb : g ≤ 4611686018427387904
section
variable {U : Nat → Prop} {w w' : World} {cb b f n z i g : Nat} {c : List Int} {wk : Bool}
theorem SK.keep (h : SK U w cb b f n z i c g wk) (k : Keeps U w w') : SK U w' cb b f n z i c g wk := by
  obtain ⟨x, m, c', h1, h2⟩ := h.cells
  exact ⟨⟨x, m, c', (k.2 cb h.own (lt_of_block h1)).trans h1, h2.keep (k.sub fun q hq => hq.1)⟩, h.own, h.ix, h.nb, h.cl, h.gb⟩
theorem SK.mono {V : Nat → Prop} (h : SK U w cb b f n z i c g wk) (hs : ∀ k, U k → V k) : SK V w cb b f n z i c g wk := by
  obtain ⟨x, m, c', h1, h2⟩ := h.cells
  exact ⟨⟨x, m, c', h1, h2.mono fun q hq => ⟨hs q hq.1, hq.2⟩⟩, hs _ h.own, h.ix, h.nb, h.cl, h.gb⟩
theorem SK.down (h : SK U w cb b f n z i c g wk) : Calls Tryd.prog 21 #[.pointer (some ⟨cb, 0, none⟩)] w fun e w' => e = .returned (.bool (!wk)) ∧ Below w.heap.size w w' := by
  obtain ⟨x, k, m, h1, h2⟩ := h.cells
  have c11 := cell_blk h1 (j := 11) rfl
  clear h1 h2 h
  go_enter Tryd.func21, Tryd.ntmps21
  go_wp2
  go_ret
  exact ⟨rfl, Below.refl _ _⟩
theorem SK.room (h : SK U w cb b f n z i c g wk) : Calls Tryd.prog 18 #[.pointer (some ⟨cb, 0, none⟩)] w fun e w' => e = .returned (.int .i64 ((n - 1) * z : Nat)) ∧ Below w.heap.size w w' := by
  obtain ⟨x, k, m, h1, h2⟩ := h.cells
  have c0 := cell_blk h1 (j := 0) rfl
  have c1 := cell_blk h1 (j := 1) rfl
  have c2 := cell_blk h1 (j := 2) rfl
  have c3 := cell_blk h1 (j := 3) rfl
  have CR := hid_of (room_any b f n z ⟨h.nb.1, h.nb.2.1⟩ h.nb.2.2.1 w)
  obtain ⟨R, hR⟩ : ∃ R, R = (n - 1) * z := ⟨_, rfl⟩
  rw [← hR] at CR ⊢
  clear h1 h2 h hR
  go_enter Tryd.func18, Tryd.ntmps18
  go_wp2_with (go_at_call 35; ((with_reducible refine (CR.out).mono ?_); (rintro e w1 ⟨rfl, q1⟩)); have B1 := hid_of q1; clear q1)
  go_ret
  exact ⟨rfl, B1.out⟩
theorem SK.load (h : SK U w cb b f n z i c g wk) : Calls Tryd.prog 15 #[.pointer (some ⟨cb, 0, none⟩)] w fun e w' => LdQ (some (c, g)) w e w' := by
  obtain ⟨x, k, m, h1, h2⟩ := h.cells
  have hc : c.length ≤ 65536 * 4096 := Nat.le_trans h.cl (Nat.mul_le_mul (by have := h.nb.2.1; omega) h.nb.2.2.1)
  have bd : Below w.heap.size w w.drew := (Below.refl _ _).drew
  have c9 := cell_blk ((bd.block cb (lt_of_block h1)).trans h1) (j := 9) rfl
  have c10 := cell_blk ((bd.block cb (lt_of_block h1)).trans h1) (j := 10) rfl
  have CB := hid_of (bclone_any x k m c w.drew (h2.1.at bd) (by omega))
  have HC := hid_of (fun (X : World) (hX : Below w.drew.heap.size w.drew X) => show X.cell? ⟨cb, 10, none⟩ = some (.int .i64 (g : Nat)) from cell_blk ((hX.block cb (lt_of_block h1)).trans h1) (j := 10) rfl)
  clear h1 h2 h hc bd
  go_enter Tryd.func15, Tryd.ntmps15
  go_wp2
  go_region_with (go_at_call 34; ((with_reducible refine (CB.out).mono ?_); (rintro e w1 ⟨x1, k1, m1, rfl, q1, q2⟩)); have R1 := hid_of q1; have B1 := hid_of ((Below.refl w.heap.size w).drew.trans q2); have y10 := HC.out w1 q2; clear q1 q2)
  all_goals go_wp2
  all_goals go_ret2
  all_goals exact ⟨_, _, _, rfl, R1.out, B1.out⟩
end
end Go.Proofs.YtlffiebnieakjaaDoor
