/- The reference's Check and Less. Bounds on sizes alone. -/
import Derived.Test.YtjfjcgbdpjpodaaDoorOrdGrd
namespace Go.Proofs.YtjfjcgbdpjpodaaDoor
open Go.RowKit

def cmpn (p : Tk) (j : Nat) : Int := if j = 0 then p.1 else p.2
theorem TRd.comp {w : World} {g o k : Nat} {t : Tk} (h1 : w.cell? ⟨g, o + k * 2, none⟩ = some (.int .i64 t.1)) (h2 : w.cell? ⟨g, o + k * 2 + 1, none⟩ = some (.int .i64 t.2)) {j : Nat} (hj : j < 2) : w.cell? ⟨g, o + k * 2 + j, none⟩ = some (.int .i64 (cmpn t j)) := by
  unfold cmpn
  by_cases h : j = 0
  · rw [if_pos h, h]; exact h1
  · rw [if_neg h, show j = 1 by omega]; exact h2
theorem inB_no {n x : Int} (h : x < 0 ∨ n ≤ x) : inB n x = false := by
  unfold inB
  rw [Bool.eq_false_iff]
  simp only [ne_eq, Bool.and_eq_true, decide_eq_true_eq]
  omega
theorem okp_no {n : Int} {p : Tk} {j : Nat} (h : inB n (cmpn p j) = false) : okp n p = false := by
  unfold okp
  unfold cmpn at h
  split at h
  · rw [h]; rfl
  · rw [h, Bool.and_false]

set_option maxRecDepth 100000 in
set_option maxHeartbeats 1600000 in
theorem rcheck_any (n : Int) (ao : Option Addr) (m cap : Nat) (ps : List Tk) (w : World) (h : TRd w (.slice ao m cap) ps) :
    Calls Tryd.prog 14 #[.int .i64 n, .slice ao m cap] w fun e w' => e = .returned (.int .i64 (chkE n ps)) ∧ w = w' := by
  obtain ⟨hm, hc1, hc2⟩ := h.cut
  obtain ⟨R, hR⟩ : ∃ R, R = chkE n ps := ⟨_, rfl⟩
  rw [← hR]
  unfold chkE at hR
  rw [← hm] at hR
  have HM := hid_of hm
  have H := hid_of h
  clear h hm
  by_cases h1 : n < 0
  · have d1 : decide (n < 0) = true := by simpa using h1
    rw [if_pos (.inl h1)] at hR
    subst hR
    go_enter Tryd.func14, Tryd.ntmps14
    go_wp2
    go_ret
    exact ⟨rfl, rfl⟩
  have d1 : decide (n < 0) = false := by simpa using h1
  by_cases h2 : 64 < n
  · have d2 : decide (64 < n) = true := by simpa using h2
    rw [if_pos (.inr h2)] at hR
    subst hR
    go_enter Tryd.func14, Tryd.ntmps14
    go_wp2
    go_ret
    exact ⟨rfl, rfl⟩
  have d2 : decide (64 < n) = false := by simpa using h2
  rw [if_neg (by omega)] at hR
  by_cases h3 : 4096 < m
  · have d3 : decide (4096 < m) = true := by simpa using h3
    have d3' : decide ((4096 : Int) < (m : Int)) = true := by simp; omega
    rw [if_pos h3] at hR
    subst hR
    go_enter Tryd.func14, Tryd.ntmps14
    go_wp2
    go_ret
    exact ⟨rfl, rfl⟩
  have d3 : decide (4096 < m) = false := by simpa using h3
  have d3' : decide ((4096 : Int) < (m : Int)) = false := by simp; omega
  rw [if_neg h3] at hR
  have HR := hid_of hR
  have hm9 : m ≤ 4096 := by omega
  clear hR h3 h1 h2
  go_enter Tryd.func14, Tryd.ntmps14
  go_wp2
  clear d1 d2 d3 d3'
  go_loopw [5] (fun iv wr => ∃ k : Nat, iv = .int .i64 k ∧ k ≤ m ∧ Hid ((ps.take k).all (okp n) = true) ∧ w = wr) (fun iv _ => m - (intOf iv).toNat)
  case atStart => exact ⟨0, rfl, Nat.zero_le _, hid_of (by simp), rfl⟩
  case round =>
    obtain ⟨k, rfl, hk, hall, rfl⟩ := hrel
    by_cases hlt : k < m
    · have hd : decide (k < m) = true := by simp; omega
      obtain ⟨g, o, rfl, hg, hcell⟩ := H.out.open (by omega)
      obtain ⟨t, ht⟩ : ∃ t, ps[k]? = some t := ⟨_, List.getElem?_eq_getElem (by have := HM.out; omega)⟩
      have HC : Hid (∀ j, j < 2 → w.cell? ⟨g, o + k * 2 + j, none⟩ = some (.int .i64 (cmpn t j))) := hid_of (fun j hj => TRd.comp (hcell k t ht).1 (hcell k t ht).2 hj)
      have HT := hid_of ht
      have b1 : (k : Int) < (m : Int) := by omega
      have b0 : (0 : Int) ≤ (k : Int) := by omega
      clear hcell ht
      go_wp2
      go_loopw [6] (fun iv wr => ∃ j : Nat, iv = .int .i64 j ∧ j ≤ 2 ∧ Hid ((1 ≤ j → inB n t.1 = true) ∧ (2 ≤ j → inB n t.2 = true)) ∧ w = wr) (fun iv _ => 2 - (intOf iv).toNat)
      case atStart => exact ⟨0, rfl, Nat.zero_le _, hid_of ⟨fun h => by omega, fun h => by omega⟩, rfl⟩
      case round =>
        obtain ⟨j, rfl, hj, hin, rfl⟩ := hrel
        by_cases hlt2 : j < 2
        · have hd2 : decide (j < 2) = true := by simp; omega
          have hd2' : decide ((j : Int) < 2) = true := by simp; omega
          have c1 := HC.out j hlt2
          obtain ⟨x, hx⟩ : ∃ x, x = cmpn t j := ⟨_, rfl⟩
          rw [← hx] at c1
          have HX := hid_of hx
          have b3 : (j : Int) < 2 := by omega
          have b2 : (0 : Int) ≤ (j : Int) := by omega
          clear hx
          by_cases hx0 : x < 0
          · have e1 : decide (x < 0) = true := by simpa using hx0
            have HE : Hid (R = 5) := hid_of (by rw [HR.out, all_no HT.out (okp_no (j := j) (by rw [← HX.out]; exact inB_no (.inl hx0)))]; rfl)
            go_wp2
            go_ret
            exact ⟨by rw [HE.out]; rfl, rfl⟩
          · have e1 : decide (x < 0) = false := by simpa using hx0
            by_cases hxn : n ≤ x
            · have e2 : decide (n ≤ x) = true := by simpa using hxn
              have HE : Hid (R = 5) := hid_of (by rw [HR.out, all_no HT.out (okp_no (j := j) (by rw [← HX.out]; exact inB_no (.inr hxn)))]; rfl)
              go_wp2
              go_ret
              exact ⟨by rw [HE.out]; rfl, rfl⟩
            · have e2 : decide (n ≤ x) = false := by simpa using hxn
              have HI : Hid (inB n (cmpn t j) = true) := hid_of (by rw [← HX.out]; unfold inB; simp only [Bool.and_eq_true, decide_eq_true_eq]; omega)
              go_wp2
              go_roundw
              case rel => exact ⟨j + 1, by go_num, by omega, hid_of ⟨fun _ => by
                by_cases hj0 : j = 0
                · have := HI.out; rw [hj0] at this; exact this
                · exact hin.out.1 (by omega), fun _ => by
                  have hj1 : j = 1 := by omega
                  have := HI.out; rw [hj1] at this; exact this⟩, by first | rfl | trivial⟩
              case measure => simp [intOf]; omega
        · have hd2 : decide (j < 2) = false := by simp; omega
          have hd2' : decide ((j : Int) < 2) = false := by simp; omega
          have HOK : Hid (okp n t = true) := hid_of (by unfold okp; rw [hin.out.1 (by omega), hin.out.2 (by omega)]; rfl)
          go_wp2
          go_roundw
          case rel => exact ⟨k + 1, by go_num, by omega, hid_of (all_take_succ HT.out hall.out HOK.out), by first | rfl | trivial⟩
          case measure => simp [intOf]; omega
    · have hd : decide (k < m) = false := by simp; omega
      have HE : Hid (R = 0) := hid_of (by
        rw [HR.out]
        have := hall.out
        rw [List.take_of_length_le (by have := HM.out; omega)] at this
        rw [this]; rfl)
      go_wp2
      go_ret
      exact ⟨by rw [HE.out]; rfl, rfl⟩

/-- The matrix of a relation. -/
def bm (A : Nat → Nat) : Nat → Nat → Bool := fun i j => (A i).testBit j
theorem put1_bit (A : Nat → Nat) (x y : Nat) (hy : y < 64) (a j : Nat) : (put1 A ((x : Int), (y : Int)) a).testBit j = ((decide (a = x) && decide (j = y)) || (A a).testBit j) := by
  unfold put1 upd
  simp only [Int.toNat_natCast]
  by_cases h : a = x
  · rw [if_pos h, Nat.testBit_or, sg_bit hy, h, Bool.or_comm]
    simp [eq_comm]
  · rw [if_neg h]; simp [h]
/-- The matrix within a row's round: columns below b are through. -/
def mid (c a : Nat) (A : Nat → Nat) (b : Nat) : Nat → Nat → Bool := fun i j => if i = a ∧ j < b then (wst c A a a).testBit j else (A i).testBit j
theorem mid_ac (c a : Nat) (A : Nat → Nat) (b : Nat) : mid c a A b a c = (A a).testBit c := by
  unfold mid
  split
  · rw [wst_bit]; cases (A a).testBit c <;> simp
  · rfl
theorem mid_cb (c a : Nat) (A : Nat → Nat) (b : Nat) : mid c a A b c b = (A c).testBit b := by
  unfold mid
  rw [if_neg (by omega)]
theorem mid_zero (c a : Nat) (A : Nat → Nat) : mid c a A 0 = bm A := by
  funext i j
  unfold mid bm
  rw [if_neg (by omega)]
theorem mid_full (c a n : Nat) (A : Nat → Nat) (i j : Nat) (hj : j < n) : mid c a A n i j = bm (wst c A a) i j := by
  unfold mid bm
  by_cases h : i = a
  · subst h; rw [if_pos ⟨rfl, hj⟩]
  · rw [if_neg (by omega), wst_bit]; simp [h]
theorem mid_succ (c a : Nat) (A : Nat → Nat) (b i j : Nat) : mid c a A (b + 1) i j = ((decide (i = a) && decide (j = b) && ((A a).testBit c && (A c).testBit b)) || mid c a A b i j) := by
  unfold mid
  by_cases h : i = a
  · subst h
    by_cases hj : j = b
    · subst hj
      rw [if_pos ⟨rfl, by omega⟩, if_neg (by omega), wst_bit]
      cases (A i).testBit j <;> simp
    · by_cases hjb : j < b
      · rw [if_pos ⟨rfl, by omega⟩, if_pos ⟨rfl, hjb⟩]; simp [hj]
      · rw [if_neg (by omega), if_neg (by omega)]; simp [hj]
  · rw [if_neg (by omega), if_neg (by omega)]; simp [h]
theorem gb0 (n : Nat) (w : World) : GB w.heap.size n w (w.alloc (.cells #[] 48)) (.slice (some ⟨w.heap.size, 0, none⟩) 0 0) [] (fun _ _ => false) :=
  ⟨Nat.le_refl _, bel_alloc w _, (ow_empty 48 w).own, fun i g h => by simp at h, List.nodup_nil⟩

set_option maxRecDepth 100000 in
set_option maxHeartbeats 6400000 in
theorem less_any (n : Nat) (hn : n ≤ 64) (ao : Option Addr) (m cap : Nat) (ps : List Tk) (w : World) (h : TRd w (.slice ao m cap) ps) (hC : chkE n ps = 0) :
    Calls Tryd.prog 18 #[.int .i64 n, .slice ao m cap] w fun e w' => ∃ xo xc, e = .returned (.slice xo n xc) ∧ RdG w' (.slice xo n xc) n (bm (clo n ps)) ∧ Below w.heap.size w w' := by
  obtain ⟨hm, hc1, hc2⟩ := h.cut
  have hm9 : m ≤ 4096 := by
    unfold chkE at hC
    rw [if_neg (by omega)] at hC
    split at hC
    · cases hC
    · omega
  have HV := hid_of (chk_valid hC)
  have HM := hid_of hm
  have H := hid_of h
  have HN := hid_of hn
  have G0 := hid_of (gb0 n w)
  obtain ⟨i0, hi, hz0, hz1, hz2⟩ := info_parts boolsE.info
  clear h hm hC
  go_enter Tryd.func18, Tryd.ntmps18
  go_wp2
  go_loopw [5, 6] (fun mv iv wr => ∃ (k : Nat) (xo : Option Addr) (xc : Nat) (gs : List Nat), k ≤ n ∧ iv = .int .i64 k ∧ mv = .slice xo k xc ∧ Hid (gs.length = k ∧ GB w.heap.size n w wr (.slice xo k xc) gs (fun _ _ => false))) (fun _ iv _ => n - (intOf iv).toNat)
  case atStart => exact ⟨0, _, 0, [], Nat.zero_le _, rfl, rfl, hid_of ⟨rfl, G0.out⟩⟩
  case round =>
    obtain ⟨k, xo, xc, gs, hk, rfl, rfl, hs⟩ := hrel
    by_cases hlt : k < n
    · have hd : decide (k < n) = true := by simp; omega
      have HSL : Hid ((sl n gs).length = k) := hid_of (by rw [sl_length]; exact hs.out.1)
      have HWR : Hid (w.heap.size ≤ wr.heap.size) := hid_of hs.out.2.size
      go_wp2_with (first
        | (at_make; (refine wpList_make_full _ rfl _ _ 48 rfl wr.heap.size 4 i0 (.bool false) 1 Tryd.underlying48 hi hz0 hz1 .i64 .i64 n n n rfl rfl rfl rfl (by rw [hz2]; have := HN.out; omega) (by unfold maxLen; have := HN.out; omega) (Nat.le_refl _) ?_); intro w1 hown hgrow; have HR1 := hid_of (made_row (z := .bool false) hown (by rw [Nat.mul_one]; rfl)); have HB1 : Hid (Below wr.heap.size wr w1) := hid_of ((Below.refl _ _).grown hgrow (Nat.le_refl _) (fun k h => by cases h)); clear hown hgrow)
        | (at_builtin; (refine wpList_grd rfl _ _ rfl (v := .slice xo k xc) rfl (l := sl n gs) (by have := (hs.out.2.at HB1.out).own; rw [sl_length]; exact this) (by have := HWR.out; have := HB1.out.size; omega) (.slice (some ⟨wr.heap.size, 0, none⟩) n n) rfl rfl (by rw [HSL.out]; omega) ?_); intro xo5 xn5 xc5 w5 hxn h5 h6; obtain rfl : xn5 = k + 1 := (by rw [hxn, HSL.out]); have G5 : Hid (GB w.heap.size n w w5 (.slice xo5 (k + 1) xc5) (gs ++ [wr.heap.size]) (fun _ _ => false)) := hid_of (hs.out.2.app HB1.out (lt_of_block HR1.out) HR1.out _ h6 (by rw [hs.out.1]; exact h5)); clear h5 h6 hxn))
      go_roundw
      case rel => exact ⟨k + 1, xo5, xc5, gs ++ [wr.heap.size], by omega, by go_num, rfl, hid_of ⟨by simp [hs.out.1], G5.out⟩⟩
      case measure => simp [intOf]; omega
    · have hd : decide (k < n) = false := by simp; omega
      obtain rfl : k = n := by omega
      have HL := hid_of hs.out.1
      have G1 : Hid (GB w.heap.size k w wr (.slice xo k xc) gs (bm (base (ps.take 0)))) := hid_of (hs.out.2.congr (fun i j _ _ => by simp [bm, base]))
      obtain ⟨wa, hwa⟩ : ∃ wa : World, wa = wr := ⟨_, rfl⟩
      rw [← hwa] at G1 ⊢
      clear hwa hs
      go_wp2
      clear hd hlt hk
      go_loopw [7] (fun iv wr => ∃ j : Nat, iv = .int .i64 j ∧ j ≤ m ∧ Hid (GB w.heap.size k w wr (.slice xo k xc) gs (bm (base (ps.take j))))) (fun iv _ => m - (intOf iv).toNat)
      case atStart => exact ⟨0, rfl, Nat.zero_le _, G1⟩
      case round =>
        obtain ⟨j, rfl, hj, hs⟩ := hrel
        by_cases hlt : j < m
        · have hd : decide (j < m) = true := by simp; omega
          obtain ⟨g, o, rfl, hg, hcell⟩ := H.out.open (by omega)
          obtain ⟨t, ht⟩ : ∃ t, ps[j]? = some t := ⟨_, List.getElem?_eq_getElem (by have := HM.out; omega)⟩
          have c1 := (hs.out.bel.cell (p := ⟨g, o + j * 2, none⟩) hg).trans (hcell j t ht).1
          have c2 := (hs.out.bel.cell (p := ⟨g, o + j * 2 + 1, none⟩) hg).trans (hcell j t ht).2
          obtain ⟨v1, v2, v3, v4⟩ := valid_mem HV.out (List.mem_of_getElem? ht)
          have HNX := hid_of (base_take ht)
          obtain ⟨t1, t2⟩ := t
          obtain ⟨x, hx⟩ : ∃ x, x = t1.toNat := ⟨_, rfl⟩
          obtain ⟨y, hy⟩ : ∃ y, y = t2.toNat := ⟨_, rfl⟩
          rw [← hx] at v1 v3
          rw [← hy] at v2 v4
          subst v3 v4
          have b1 : (j : Int) < (m : Int) := by omega
          have b0 : (0 : Int) ≤ (j : Int) := by omega
          have bx : (x : Int) < (k : Int) := by omega
          have bx0 : (0 : Int) ≤ (x : Int) := by omega
          have by1 : (y : Int) < (k : Int) := by omega
          have by0 : (0 : Int) ≤ (y : Int) := by omega
          have HXY : Hid (x < k ∧ y < k ∧ y < 64) := hid_of ⟨v1, v2, by have := HN.out; omega⟩
          obtain ⟨q, qc, eq, _, _, _, hqc⟩ := hs.out.open (by have := HL.out; omega)
          rw [HL.out] at eq
          obtain ⟨gx, hgx⟩ : ∃ g, gs[x]? = some g := ⟨_, List.getElem?_eq_getElem (by have := HL.out; omega)⟩
          have HGX := hid_of hgx
          have r1 := hqc x gx hgx
          have r2 := hs.out.cell hgx v2
          have r3 := hs.out.free hgx y
          obtain ⟨bv, hbv⟩ : ∃ v, v = bm (base (ps.take j)) x y := ⟨_, rfl⟩
          rw [← hbv] at r2
          simp only [Value.slice.injEq] at eq
          obtain ⟨rfl, _, rfl⟩ := eq
          have r2d : wr.drew.cell? ⟨gx, y, none⟩ = some (.bool bv) := r2
          have r3d : wr.drew.frozen? ⟨gx, y, none⟩ = false := r3
          have HS6 := hid_of hs.out.drew
          clear hcell ht hx hy v1 v2 hgx hbv hqc
          go_wp2
          refine wp_region_still_tail 14 (by kernel_rfl) (by kernel_rfl) ?_
          simp only [List.take_succ_cons, List.take_zero, List.drop_succ_cons, List.drop_zero]
          repeat still_step
          refine wpStill_nil ?_
          change wpList _ _ _ _ _ wr.drew
          generalize wr.drew = w6 at *
          go_wp2
          go_roundw
          case rel => exact ⟨j + 1, by go_num, by omega, hid_of ((HS6.out.set HGX.out HXY.out.2.1).congr (fun a b _ _ => by unfold bm; rw [HNX.out, put1_bit _ _ _ HXY.out.2.2]))⟩
          case measure => simp [intOf]; omega
        · have hd : decide (j < m) = false := by simp; omega
          have G2 : Hid (GB w.heap.size k w wr (.slice xo k xc) gs (bm (base ps))) := hid_of (by have := hs.out; rw [List.take_of_length_le (by have := HM.out; omega)] at this; exact this)
          obtain ⟨wb, hwb⟩ : ∃ wb : World, wb = wr := ⟨_, rfl⟩
          rw [← hwb] at G2 ⊢
          clear hwb hs
          go_wp2
          clear hd hlt hj
          go_loopw [8] (fun iv wr => ∃ c : Nat, iv = .int .i64 c ∧ c ≤ k ∧ Hid (GB w.heap.size k w wr (.slice xo k xc) gs (bm ((List.range c).foldl (row k) (base ps))))) (fun iv _ => k - (intOf iv).toNat)
          case atStart => exact ⟨0, rfl, Nat.zero_le _, hid_of G2.out⟩
          case round =>
            obtain ⟨c, rfl, hc, hs⟩ := hrel
            by_cases hlt : c < k
            · have hd : decide (c < k) = true := by simp; omega
              obtain ⟨A1, hA1⟩ : ∃ A, A = (List.range c).foldl (row k) (base ps) := ⟨_, rfl⟩
              have HA1 := hid_of hA1
              rw [← hA1] at hs
              obtain ⟨wb2, hwb⟩ : ∃ wb : World, wb = wr := ⟨_, rfl⟩
              rw [← hwb] at hs ⊢
              clear hA1 hwb
              go_wp2
              go_loopw [9] (fun iv wr => ∃ a : Nat, iv = .int .i64 a ∧ a ≤ k ∧ Hid (GB w.heap.size k w wr (.slice xo k xc) gs (bm ((List.range a).foldl (wst c) A1)))) (fun iv _ => k - (intOf iv).toNat)
              case atStart => exact ⟨0, rfl, Nat.zero_le _, hid_of hs.out⟩
              case round =>
                clear hs
                obtain ⟨a, rfl, ha, hs⟩ := hrel
                by_cases hlt2 : a < k
                · have hd2 : decide (a < k) = true := by simp; omega
                  obtain ⟨A2, hA2⟩ : ∃ A, A = (List.range a).foldl (wst c) A1 := ⟨_, rfl⟩
                  have HNX : Hid ((List.range (a + 1)).foldl (wst c) A1 = wst c A2 a) := hid_of (by rw [range_foldl_succ, hA2])
                  rw [← hA2] at hs
                  have HS0 : Hid (GB w.heap.size k w wr (.slice xo k xc) gs (mid c a A2 0)) := hid_of (by rw [mid_zero]; exact hs.out)
                  obtain ⟨wc, hwc⟩ : ∃ wc : World, wc = wr := ⟨_, rfl⟩
                  rw [← hwc] at HS0 ⊢
                  clear hA2 hwc hs
                  go_wp2
                  go_loopw [10] (fun iv wr => ∃ b : Nat, iv = .int .i64 b ∧ b ≤ k ∧ Hid (GB w.heap.size k w wr (.slice xo k xc) gs (mid c a A2 b))) (fun iv _ => k - (intOf iv).toNat)
                  case atStart => exact ⟨0, rfl, Nat.zero_le _, HS0⟩
                  case round =>
                    obtain ⟨b, rfl, hb, hs⟩ := hrel
                    by_cases hlt3 : b < k
                    · have hd3 : decide (b < k) = true := by simp; omega
                      obtain ⟨q, qc, eq, _, _, _, hqc⟩ := hs.out.open (by have := HL.out; omega)
                      rw [HL.out] at eq
                      simp only [Value.slice.injEq] at eq
                      obtain ⟨rfl, _, rfl⟩ := eq
                      obtain ⟨ga, hga⟩ : ∃ g, gs[a]? = some g := ⟨_, List.getElem?_eq_getElem (by have := HL.out; omega)⟩
                      obtain ⟨gc, hgc⟩ : ∃ g, gs[c]? = some g := ⟨_, List.getElem?_eq_getElem (by have := HL.out; omega)⟩
                      have HGA := hid_of hga
                      have r1 := hqc a ga hga
                      have r2 := hqc c gc hgc
                      have r3 := hs.out.cell hga hlt
                      have r4 := hs.out.cell hgc hlt3
                      have r5 := hs.out.cell hga hlt3
                      have r6 := hs.out.free hga b
                      rw [mid_ac] at r3
                      rw [mid_cb] at r4
                      obtain ⟨v1, hv1⟩ : ∃ v, v = (A2 a).testBit c := ⟨_, rfl⟩
                      obtain ⟨v2, hv2⟩ : ∃ v, v = (A2 c).testBit b := ⟨_, rfl⟩
                      obtain ⟨v3, hv3⟩ : ∃ v, v = mid c a A2 b a b := ⟨_, rfl⟩
                      rw [← hv1] at r3
                      rw [← hv2] at r4
                      rw [← hv3] at r5
                      have HMS : Hid (∀ i j, mid c a A2 (b + 1) i j = ((decide (i = a) && decide (j = b) && (v1 && v2)) || mid c a A2 b i j)) := hid_of (fun i j => by rw [mid_succ, hv1, hv2])
                      have b1 : (a : Int) < (k : Int) := by omega
                      have b0 : (0 : Int) ≤ (a : Int) := by omega
                      have b3 : (b : Int) < (k : Int) := by omega
                      have b2 : (0 : Int) ≤ (b : Int) := by omega
                      have b5 : (c : Int) < (k : Int) := by omega
                      have b4 : (0 : Int) ≤ (c : Int) := by omega
                      have HB3 := hid_of hlt3
                      clear hga hgc hqc hv1 hv2 hv3
                      cases v1
                      · go_wp2
                        go_roundw
                        case rel => exact ⟨b + 1, by go_num, by omega, hid_of (hs.out.congr (fun i j _ _ => by rw [HMS.out]; simp))⟩
                        case measure => simp [intOf]; omega
                      · cases v2
                        · go_wp2
                          go_roundw
                          case rel => exact ⟨b + 1, by go_num, by omega, hid_of (hs.out.congr (fun i j _ _ => by rw [HMS.out]; simp))⟩
                          case measure => simp [intOf]; omega
                        · go_wp2
                          go_roundw
                          case rel => exact ⟨b + 1, by go_num, by omega, hid_of ((hs.out.set HGA.out HB3.out).congr (fun i j _ _ => by rw [HMS.out]; simp))⟩
                          case measure => simp [intOf]; omega
                    · have hd3 : decide (b < k) = false := by simp; omega
                      go_wp2
                      go_roundw
                      case rel => exact ⟨a + 1, by go_num, by omega, hid_of (by
                        rw [HNX.out]
                        refine hs.out.congr (fun i j _ hj => ?_)
                        rw [show b = k by omega]
                        exact mid_full c a k A2 i j hj)⟩
                      case measure => simp [intOf]; omega
                · have hd2 : decide (a < k) = false := by simp; omega
                  go_wp2
                  go_roundw
                  case rel => exact ⟨c + 1, by go_num, by omega, hid_of (by
                    have := hs.out
                    rw [show a = k by omega] at this
                    rw [range_foldl_succ, ← HA1.out]
                    exact this)⟩
                  case measure => simp [intOf]; omega
            · have hd : decide (c < k) = false := by simp; omega
              have GE : Hid (GB w.heap.size k w wr (.slice xo k xc) gs (bm (clo k ps))) := hid_of (by have := hs.out; rw [show c = k by omega] at this; exact this)
              go_wp2
              go_ret
              exact ⟨xo, xc, rfl, GE.out.rd HL.out, GE.out.bel⟩
end Go.Proofs.YtjfjcgbdpjpodaaDoor
