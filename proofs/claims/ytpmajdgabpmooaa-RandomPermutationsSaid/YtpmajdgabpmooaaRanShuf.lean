/- numbers and Shuffle. Bounds on sizes alone. -/
import Derived.Test.YtpmajdgabpmooaaRanList
namespace Go.Proofs.Ytpmajdgabpmooaa
open Go.RowKit

/-- A list of numbers as ints. -/
def nI (l : List Nat) : List Int := l.map (fun x : Nat => (x : Int))
theorem nI_length (l : List Nat) : (nI l).length = l.length := by simp [nI]
theorem nI_at {l : List Nat} (j : Nat) : (nI l).getD j 0 = ((l.getD j 0 : Nat) : Int) := by
  simp only [nI, List.getD_eq_getElem?_getD, List.getElem?_map]
  cases l[j]? <;> rfl
theorem nI_set (l : List Nat) (i x : Nat) : nI (l.set i x) = (nI l).set i (x : Int) := by simp [nI, List.map_set]
theorem is_set (l : List Int) (i : Nat) (x : Int) : is (l.set i x) = (is l).set i (.int .i64 x) := by simp [is, List.map_set]
/-- Block g holds the ints l. -/
def Blk (w : World) (g : Nat) (l : List Int) : Prop := w.heap[g]? = some (.cells (is l).toArray 3 (0, 0))
theorem Blk.lt {w : World} {g : Nat} {l : List Int} (h : Blk w g l) : g < w.heap.size := lt_of_block h
theorem Blk.cell {w : World} {g j : Nat} {l : List Int} (h : Blk w g l) (hj : j < l.length) : w.cell? ⟨g, j, none⟩ = some (.int .i64 (l.getD j 0)) := by
  have := World.news_of_block h j (.int .i64 (l.getD j 0)) (by simpa using is_at hj)
  rwa [Addr.add_mid, Nat.zero_add] at this
theorem Blk.free {w : World} {g j : Nat} {l : List Int} (h : Blk w g l) : w.frozen? ⟨g, j, none⟩ = false := by
  have h' : w.heap[g]? = some (.cells (is l).toArray 3 (0, 0)) := h
  simp [World.frozen?, h']
theorem Blk.set {w : World} {g j : Nat} {l : List Int} (h : Blk w g l) (x : Int) : Blk (w.setCell ⟨g, j, none⟩ (.int .i64 x)) g (l.set j x) := by
  unfold Blk; rw [is_set]; exact blk_setCell h
theorem Blk.rd {w : World} {g n : Nat} {l : List Int} (h : Blk w g l) (hn : n = l.length) (hl : l.length ≤ 9223372036854775807) : Rd w (.slice (some ⟨g, 0, none⟩) n n) (is l) := by
  subst hn
  refine ⟨_, _, by rw [is_length], by rw [is_length]; exact Nat.le_refl _, hl, fun h0 => ⟨g, 0, rfl, h.lt, fun j u hu => ?_⟩⟩
  have := World.news_of_block h j u (by simpa using hu)
  rwa [Addr.add_mid] at this
theorem Blk.bel {w w' : World} {g : Nat} {l : List Int} (h : Blk w g l) (hb : Below w.heap.size w w') : Blk w' g l := (hb.block g h.lt).trans h
theorem Blk.kept {w w' : World} {g c : Nat} {l : List Int} (h : Blk w g l) (hk : Kept (fun k => k = c) w w') (hn : g ≠ c) : Blk w' g l := (hk.block g h.lt hn).trans h

/-- 0 to k - 1, then zeros up to n. -/
def numTo (n k : Nat) : List Nat := (List.range n).map fun j => if j < k then j else 0
theorem numTo_length (n k : Nat) : (numTo n k).length = n := by simp [numTo]
theorem numTo_set {n k : Nat} (h : k < n) : (numTo n k).set k k = numTo n (k + 1) := by
  apply List.ext_getElem
  · simp [numTo]
  · intro j h1 h2
    simp [numTo] at h1 h2
    simp only [numTo, List.getElem_set, List.getElem_map, List.getElem_range]
    by_cases e : k = j
    · simp [e]
    · by_cases hj : j < k
      · simp [e, hj, show j < k + 1 by omega]
      · simp [e, hj, show ¬ j < k + 1 by omega]
theorem numTo_all (n : Nat) : numTo n n = List.range n := by
  apply List.ext_getElem
  · simp [numTo]
  · intro j h1 h2
    simp [numTo] at h1 h2
    simp [numTo, h1]
theorem numTo_none (n : Nat) : numTo n 0 = List.replicate n 0 := by
  apply List.ext_getElem
  · simp [numTo]
  · intro j h1 h2; simp [numTo]

set_option maxHeartbeats 400000 in
theorem numbers_any (n : Nat) (z : Int) (w : World) (hz : z = n) (hn : n ≤ 10000) :
    Calls Try.prog 41 #[.int .i64 z] w fun e w' => e = .returned (.slice (some ⟨w.heap.size, 0, none⟩) n n) ∧ Blk w' w.heap.size (nI (List.range n)) ∧ Below w.heap.size w w' := by
  subst hz
  obtain ⟨i0, hi, hz0, hz1, hz2⟩ := info_parts intsE.info
  go_enter Try.func41, Try.ntmps41
  go_wp2_with (first | (at_make; refine wpList_make_full _ rfl _ _ 34 rfl w.heap.size 3 i0 (.int .i64 0) 1 Try.underlying34 hi hz0 hz1 .i64 .i64 n n n rfl rfl rfl rfl ?b2 ?b3 ?b4 ?_))
  case b2 => rw [hz2]; omega
  case b3 => unfold maxLen; omega
  case b4 => exact Nat.le_refl _
  intro w1 hown hgrow
  have hH : Blk w1 w.heap.size (nI (numTo n 0)) := by
    have := made_row hown
    unfold Blk
    rw [this, numTo_none]
    simp [nI, is]
  have hb : Below w.heap.size w w1 := (Below.refl _ _).grown hgrow (Nat.le_refl _) (fun k h => by cases h)
  clear hown hgrow
  have HH := hid_of hH
  have HB := hid_of hb
  clear hH hb
  go_wp2
  go_loopw [8] (fun iv wr => ∃ k : Nat, k ≤ n ∧ iv = .int .i64 k ∧ Hid (Blk wr w.heap.size (nI (numTo n k))) ∧ Hid (Below w.heap.size w wr)) (fun iv _ => n - (intOf iv).toNat)
  case atStart => exact ⟨0, Nat.zero_le _, rfl, HH, HB⟩
  case round =>
    obtain ⟨k, hk, rfl, hrow, hbel⟩ := hrel
    by_cases hlt : k < n
    · have c1 := hrow.out.cell (j := k) (by rw [nI_length, numTo_length]; exact hlt)
      have f1 := hrow.out.free (j := k)
      go_wp2
      go_roundw
      case rel =>
        refine ⟨k + 1, by omega, by go_num, hid_of ?_, hid_of (hbel.out.setCell (Nat.le_refl _) _)⟩
        have := hrow.out.set (j := k) (k : Int)
        rwa [← nI_set, numTo_set hlt] at this
      case measure => simp [intOf]; omega
    · obtain rfl : k = n := by omega
      go_wp2
      go_ret
      exact ⟨rfl, by rw [← numTo_all]; exact hrow.out, hbel.out⟩

theorem nI_swap {l : List Nat} {i j : Nat} : nI (swapN l i j) = ((nI l).set i ((l.getD j 0 : Nat) : Int)).set j ((l.getD i 0 : Nat) : Int) := by
  unfold swapN; rw [nI_set, nI_set]

set_option maxRecDepth 100000 in
set_option maxHeartbeats 800000 in
theorem shuffle_any (b s n : Nat) (z : Int) (w : World) (hz : z = n) (h : Sr w b s) (hn : n ≤ 10000) :
    Calls Try.prog 22 #[.pointer (some ⟨b, 0, none⟩), .int .i64 z] w fun e w' => ∃ g, e = .returned (.tuple #[.slice (some ⟨g, 0, none⟩) n n, .int .i64 0]) ∧ w.heap.size ≤ g ∧ Blk w' g (nI (shufN s n (n - 1))) ∧ Sr w' b (atN s (n - 1)) ∧ Kept (fun k => k = b) w w' := by
  subst hz
  have H := hid_of h
  have hbl := h.lt
  clear h
  have d1 : decide ((n : Int) < 0) = false := by simp
  have d2 : decide ((10000 : Int) < (n : Int)) = false := by simp; omega
  go_enter Try.func22, Try.ntmps22
  go_wp2_with (go_at_call 41; refine (numbers_any n _ w rfl hn).mono ?_; (rintro e w1 ⟨rfl, h1, hb1⟩; have HR := hid_of h1; have HB := hid_of hb1; clear h1 hb1))
  go_loopw [7] (fun iv wr => ∃ (k : Nat) (z : Int), iv = .int .i64 z ∧ Hid (z = (n : Int) - 1 - k) ∧ k ≤ n - 1 ∧ Hid (Blk wr w.heap.size (nI (shufN s n k))) ∧ Hid (Sr wr b (atN s k)) ∧ Hid (Kept (fun q => q = b) w wr)) (fun iv _ => (intOf iv).toNat)
  case atStart => exact ⟨0, _, rfl, hid_of (by omega), Nat.zero_le _, HR, hid_of (by rw [atN_zero H.out.1]; exact H.out.bel HB.out), hid_of ⟨HB.out.os, HB.out.tape, HB.out.output, HB.out.size, fun q h1 _ => HB.out.block q h1⟩⟩
  case round =>
    obtain ⟨k, z, rfl, hz, hk, hrow, hsr, hkp⟩ := hrel
    by_cases h1 : 1 ≤ z
    · obtain ⟨m, rfl⟩ := Int.eq_ofNat_of_zero_le (show 0 ≤ z by omega)
      have hm : Hid (m = n - 1 - k ∧ k + 1 < n) := hid_of (by have := hz.out; omega)
      have hmn : (m : Int) < n := by have := hm.out; omega
      have hm0 : (0 : Int) ≤ (m : Int) := by omega
      have hmb : m ≤ 10000 := by omega
      go_wp2_with (go_at_call 20; refine (intn_any b (atN s k) (m + 1) _ wr (by omega) hsr.out (by omega) (by omega)).mono ?_; (rintro e w2 ⟨rfl, h2, hk2⟩; have H2 := hid_of h2; have HK2 := hid_of hk2; clear h2 hk2))
      have hr := highN_lt (x := mixN (stepN (atN s k))) (n := m + 1) (mixN_lt _) (by omega)
      obtain ⟨r, hrr⟩ : ∃ r, r = highN (mixN (stepN (atN s k))) (m + 1) := ⟨_, rfl⟩
      rw [← hrr] at hr ⊢
      have HRR := hid_of hrr
      clear hrr
      have hne : w.heap.size ≠ b := by omega
      have hr2 := hrow.out.kept HK2.out hne
      have c1 := hr2.cell (j := m) (by rw [nI_length, shufN_length]; omega)
      have c2 := hr2.cell (j := r) (by rw [nI_length, shufN_length]; omega)
      have f1 : ∀ j, w2.frozen? ⟨w.heap.size, j, none⟩ = false := fun j => hr2.free
      rw [nI_at] at c1 c2
      obtain ⟨x, hx⟩ : ∃ x, x = (shufN s n k).getD m 0 := ⟨_, rfl⟩
      obtain ⟨y, hy⟩ : ∃ y, y = (shufN s n k).getD r 0 := ⟨_, rfl⟩
      rw [← hx] at c1
      rw [← hy] at c2
      have HX := hid_of hx
      have HY := hid_of hy
      have HR2 := hid_of hr2
      clear hx hy hr2
      have hrn : (r : Int) < n := by omega
      have hr0 : (0 : Int) ≤ (r : Int) := by omega
      obtain ⟨v3, c3⟩ := cell?_setCell_some (w := w2) (p := ⟨w.heap.size, m, none⟩) (x := .int .i64 y) (q := ⟨w.heap.size, r, none⟩) (v := .int .i64 y) (by go_simp)
      have hfin : Hid (Blk ((w2.setCell ⟨w.heap.size, m, none⟩ (.int .i64 y)).setCell ⟨w.heap.size, r, none⟩ (.int .i64 x)) w.heap.size (nI (shufN s n (k + 1)))) := hid_of (by
        have e : shufN s n (k + 1) = swapN (shufN s n k) m r := by
          rw [shufN, HRR.out, atN_succ, (show n - 1 - k = m by have := hm.out; omega)]
        rw [e, nI_swap, ← HX.out, ← HY.out]
        exact (HR2.out.set _).set _)
      have hkf : Hid (Kept (fun q => q = b) w ((w2.setCell ⟨w.heap.size, m, none⟩ (.int .i64 y)).setCell ⟨w.heap.size, r, none⟩ (.int .i64 x))) := hid_of (by
        have a := hkp.out
        have c := HK2.out
        refine ⟨c.os.trans a.os, c.tape.trans a.tape, c.output.trans a.output, ?_, fun q q1 q2 => ?_⟩
        · have := Nat.le_trans a.size c.size; simpa using this
        · rw [Below.heap_setCell _ _ _ _ (by show q ≠ w.heap.size; omega), Below.heap_setCell _ _ _ _ (by show q ≠ w.heap.size; omega), c.block q (Nat.lt_of_lt_of_le q1 a.size) q2]
          exact a.block q q1 q2)
      have hsf : Hid (Sr ((w2.setCell ⟨w.heap.size, m, none⟩ (.int .i64 y)).setCell ⟨w.heap.size, r, none⟩ (.int .i64 x)) b (atN s (k + 1))) := hid_of (by
        have a := H2.out
        rw [atN_succ] at a
        refine ⟨a.1, ?_⟩
        rw [Below.heap_setCell _ _ _ _ (by show b ≠ w.heap.size; omega), Below.heap_setCell _ _ _ _ (by show b ≠ w.heap.size; omega)]
        exact a.2)
      go_region
      go_wp2
      go_roundw
      case rel => exact ⟨k + 1, _, rfl, hid_of (by have := hz.out; omega), by have := hm.out; omega, hfin, hsf, hid_of hkf.out.drew⟩
      case measure => simp [intOf]; omega
    · have hz0 : ¬ 1 ≤ z := h1
      go_wp2
      go_ret2
      have hk2 : k = n - 1 := by have := hz.out; omega
      subst hk2
      exact ⟨_, rfl, Nat.le_refl _, hrow.out, hsr.out, hkp.out⟩
end Go.Proofs.Ytpmajdgabpmooaa
