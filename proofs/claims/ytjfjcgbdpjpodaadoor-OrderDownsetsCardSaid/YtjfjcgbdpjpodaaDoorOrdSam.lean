/- same, samePairs, awake of the laws of order. Bounds on sizes alone. -/
import Derived.Test.YtjfjcgbdpjpodaaDoorOrdSrt
import Derived.Test.YtjfjcgbdpjpodaaDoorOrdErr
import Derived.Laws.StructEq
namespace Go.Proofs.YtjfjcgbdpjpodaaDoor
open Go.RowKit

theorem eq_pr (a b c d : Int) (w : World) : (Op.equalIn 10000 44 (.agg #[.int .i64 a, .int .i64 b]) (.agg #[.int .i64 c, .int .i64 d])).run Tryd.prog w = .ok (a == c && b == d) w := by
  have u3 := Tryd.underlying3
  have a3 := Tryd.isAgg3
  have z3 := Tryd.sizeOf3
  rw [show (10000 : Nat) = 9999 + 1 from rfl, Op.equalIn]
  simp only [Sem.run_bind, run_underlying Tryd.underlying44, Result.andThen_ok]
  simp only [Std.Legacy.Range.forIn_eq_forIn_range', Std.Legacy.Range.size, Nat.sub_zero, Nat.add_sub_cancel, Nat.div_one, List.range'_succ, List.range'_zero, List.forIn_cons, List.forIn_nil]
  go_simp
  by_cases h1 : a = c <;> by_cases h2 : b = d <;> simp [h1, h2]
theorem neq_pr (s1 s2 t1 t2 : Int) (w : World) : (binOp .neq 44 (.agg #[.int .i64 s1, .int .i64 s2]) (.agg #[.int .i64 t1, .int .i64 t2])).run Tryd.prog w = .ok (.bool (!(decide ((s1, s2) = (t1, t2))))) w := by
  rw [run_neq_struct, eq_pr]
  by_cases q1 : s1 = t1 <;> by_cases q2 : s2 = t2 <;> simp [q1, q2, Result.andThen]
theorem eqg_pr (x y : Operand) (s t : Array Value) (w : World) : (eqGuard .neq 44 x y (.agg s) (.agg t)).run Tryd.prog w = .ok () w := run_eqGuard_agg w _ _ _ _ _ _ (by kernel_rfl)
theorem same_lt {a b : List Tk} {k : Nat} {s t : Tk} (ha : a[k]? = some s) (hb : b[k]? = some t) : (decide (a.drop k = b.drop k)) = (decide (s = t) && decide (a.drop (k + 1) = b.drop (k + 1))) := by
  obtain ⟨h1, e1⟩ := List.getElem?_eq_some_iff.1 ha
  obtain ⟨h2, e2⟩ := List.getElem?_eq_some_iff.1 hb
  rw [List.drop_eq_getElem_cons h1, List.drop_eq_getElem_cons h2, e1, e2, Bool.eq_iff_iff]
  simp
set_option maxHeartbeats 800000 in
theorem samePairs_any (ao bo : Option Addr) (n cap m cbp : Nat) (a b : List Tk) (w : World) (ha : TRd w (.slice ao n cap) a) (hb : TRd w (.slice bo m cbp) b) :
    Calls Tryd.prog 19 #[.slice ao n cap, .slice bo m cbp] w fun e w' => e = .returned (.bool (decide (a = b))) ∧ Below w.heap.size w w' := by
  obtain ⟨hn, hn1, hn2⟩ := ha.cut
  obtain ⟨hm, hm1, hm2⟩ := hb.cut
  obtain ⟨R, hR⟩ : ∃ R, R = decide (a = b) := ⟨_, rfl⟩
  rw [← hR]
  have HR := hid_of hR
  have HA := hid_of ha
  have HB := hid_of hb
  have HN := hid_of hn
  have HM := hid_of hm
  clear ha hb hn hm hR
  by_cases hne : n = m
  · subst hne
    have d0 : ((n : Int) != (n : Int)) = false := by simp
    go_enter Tryd.func19, Tryd.ntmps19
    go_wp2
    go_loopw [5] (fun iv wr => ∃ k : Nat, k ≤ n ∧ iv = .int .i64 k ∧ Hid (R = decide (a.drop k = b.drop k)) ∧ Hid (Below w.heap.size w wr)) (fun iv _ => n - (intOf iv).toNat)
    case atStart => exact ⟨0, Nat.zero_le _, rfl, HR, hid_of (Below.refl _ _)⟩
    case round =>
      obtain ⟨k, hk, rfl, hp, hb⟩ := hrel
      by_cases hlt : k < n
      · obtain ⟨g, o, rfl, hg, hcell⟩ := HA.out.open (by omega)
        obtain ⟨g2, o2, rfl, hg2, hcell2⟩ := HB.out.open (by omega)
        obtain ⟨s, hs⟩ : ∃ s, a[k]? = some s := ⟨_, List.getElem?_eq_getElem (by have := HN.out; omega)⟩
        obtain ⟨t, ht⟩ : ∃ t, b[k]? = some t := ⟨_, List.getElem?_eq_getElem (by have := HM.out; omega)⟩
        have c1 := (hb.out.cell (p := ⟨g, o + k * 2, none⟩) hg).trans (hcell k s hs).1
        have c2 := (hb.out.cell (p := ⟨g, o + k * 2 + 1, none⟩) hg).trans (hcell k s hs).2
        have c3 := (hb.out.cell (p := ⟨g2, o2 + k * 2, none⟩) hg2).trans (hcell2 k t ht).1
        have c4 := (hb.out.cell (p := ⟨g2, o2 + k * 2 + 1, none⟩) hg2).trans (hcell2 k t ht).2
        have ST := hid_of (hp.out.trans (same_lt hs ht))
        obtain ⟨s1, s2⟩ := s
        obtain ⟨t1, t2⟩ := t
        have b1 : (k : Int) < (n : Int) := by omega
        have b0 : (0 : Int) ≤ (k : Int) := by omega
        have HBB := hid_of hb.out
        clear hcell hcell2 hp hs ht
        obtain ⟨q, hq⟩ : ∃ q, q = decide ((s1, s2) = (t1, t2)) := ⟨_, rfl⟩
        have kn := neq_pr s1 s2 t1 t2
        have kg := eqg_pr
        rw [← hq] at ST kn
        clear hq
        cases q
        · have HE : Hid (R = false) := hid_of (by rw [ST.out]; rfl)
          go_wp2
          go_quiet (fail)
          go_wp2
          go_ret
          exact ⟨by rw [HE.out]; rfl, bel_drewN HBB.out _⟩
        · have HE : Hid (R = decide (a.drop (k + 1) = b.drop (k + 1))) := hid_of (by rw [ST.out, Bool.true_and])
          go_wp2
          go_quiet (fail)
          go_wp2
          go_roundw
          case rel => exact ⟨k + 1, by omega, by go_num, HE, hid_of (bel_drewN HBB.out _)⟩
          case measure => simp [intOf]; omega
      · obtain rfl : k = n := by omega
        have HBB := hid_of hb.out
        have HE : Hid (R = true) := hid_of (by rw [hp.out, List.drop_of_length_le (by have := HN.out; omega), List.drop_of_length_le (by have := HM.out; omega)]; rfl)
        clear hp
        go_wp2
        go_ret
        exact ⟨by rw [HE.out]; rfl, HBB.out⟩
  · have HE : Hid (R = false) := hid_of (by
      rw [HR.out]
      refine decide_eq_false fun e => hne ?_
      rw [HN.out, HM.out, e])
    have d0 : ((n : Int) != (m : Int)) = true := by simp; omega
    go_enter Tryd.func19, Tryd.ntmps19
    go_wp2
    go_ret
    exact ⟨by rw [HE.out]; rfl, Below.refl _ _⟩

theorem is_cut {w : World} {ao : Option Addr} {n cap : Nat} {l : List Int} (h : Rd w (.slice ao n cap) (is l)) : n = l.length ∧ n ≤ cap ∧ cap ≤ 9223372036854775807 := by
  obtain ⟨_, _, e, h2, h3, _⟩ := h
  simp only [Value.slice.injEq, is_length] at e h2
  omega
theorem is_open {w : World} {ao : Option Addr} {n cap : Nat} {l : List Int} (h : Rd w (.slice ao n cap) (is l)) (h0 : 0 < n) : ∃ g o, ao = some ⟨g, o, none⟩ ∧ g < w.heap.size ∧ ∀ (i : Nat) (t : Int), l[i]? = some t → w.cell? ⟨g, o + i, none⟩ = some (.int .i64 t) := by
  obtain ⟨a, c, e, _, _, h4⟩ := h
  simp only [Value.slice.injEq] at e
  obtain ⟨rfl, rfl, rfl⟩ := e
  obtain ⟨g, o, q1, q2, q3⟩ := h4 h0
  exact ⟨g, o, q1, q2, fun i t ht => q3 i _ (by simp [is, ht])⟩
theorem same_ltI {a b : List Int} {k : Nat} {s t : Int} (ha : a[k]? = some s) (hb : b[k]? = some t) : (decide (a.drop k = b.drop k)) = (decide (s = t) && decide (a.drop (k + 1) = b.drop (k + 1))) := by
  obtain ⟨h1, e1⟩ := List.getElem?_eq_some_iff.1 ha
  obtain ⟨h2, e2⟩ := List.getElem?_eq_some_iff.1 hb
  rw [List.drop_eq_getElem_cons h1, List.drop_eq_getElem_cons h2, e1, e2, Bool.eq_iff_iff]
  simp
set_option maxHeartbeats 800000 in
theorem same_any (ao bo : Option Addr) (n cap m cbp : Nat) (a b : List Int) (w : World) (ha : Rd w (.slice ao n cap) (is a)) (hb : Rd w (.slice bo m cbp) (is b)) :
    Calls Tryd.prog 31 #[.slice ao n cap, .slice bo m cbp] w fun e w' => e = .returned (.bool (decide (a = b))) ∧ Below w.heap.size w w' := by
  obtain ⟨hn, hn1, hn2⟩ := is_cut ha
  obtain ⟨hm, hm1, hm2⟩ := is_cut hb
  obtain ⟨R, hR⟩ : ∃ R, R = decide (a = b) := ⟨_, rfl⟩
  rw [← hR]
  have HR := hid_of hR
  have HA := hid_of ha
  have HB := hid_of hb
  have HN := hid_of hn
  have HM := hid_of hm
  clear ha hb hn hm hR
  by_cases hne : n = m
  · subst hne
    have d0 : ((n : Int) != (n : Int)) = false := by simp
    go_enter Tryd.func31, Tryd.ntmps31
    go_wp2
    go_loopw [5] (fun iv wr => ∃ k : Nat, k ≤ n ∧ iv = .int .i64 k ∧ Hid (R = decide (a.drop k = b.drop k)) ∧ Hid (Below w.heap.size w wr)) (fun iv _ => n - (intOf iv).toNat)
    case atStart => exact ⟨0, Nat.zero_le _, rfl, HR, hid_of (Below.refl _ _)⟩
    case round =>
      obtain ⟨k, hk, rfl, hp, hb⟩ := hrel
      by_cases hlt : k < n
      · obtain ⟨g, o, rfl, hg, hcell⟩ := is_open HA.out (by omega)
        obtain ⟨g2, o2, rfl, hg2, hcell2⟩ := is_open HB.out (by omega)
        obtain ⟨s, hs⟩ : ∃ s, a[k]? = some s := ⟨_, List.getElem?_eq_getElem (by have := HN.out; omega)⟩
        obtain ⟨t, ht⟩ : ∃ t, b[k]? = some t := ⟨_, List.getElem?_eq_getElem (by have := HM.out; omega)⟩
        have c1 := (hb.out.cell (p := ⟨g, o + k, none⟩) hg).trans (hcell k s hs)
        have c3 := (hb.out.cell (p := ⟨g2, o2 + k, none⟩) hg2).trans (hcell2 k t ht)
        have ST := hid_of (hp.out.trans (same_ltI hs ht))
        have b1 : (k : Int) < (n : Int) := by omega
        have b0 : (0 : Int) ≤ (k : Int) := by omega
        have HBB := hid_of hb.out
        clear hcell hcell2 hp hs ht
        obtain ⟨q, hq⟩ : ∃ q, q = decide (s = t) := ⟨_, rfl⟩
        have kn : (s != t) = !q := by rw [hq]; by_cases e : s = t <;> simp [e]
        rw [← hq] at ST
        clear hq
        cases q
        · have HE : Hid (R = false) := hid_of (by rw [ST.out]; rfl)
          go_wp2
          go_quiet (fail)
          go_wp2
          go_ret
          exact ⟨by rw [HE.out]; rfl, bel_drewN HBB.out _⟩
        · have HE : Hid (R = decide (a.drop (k + 1) = b.drop (k + 1))) := hid_of (by rw [ST.out, Bool.true_and])
          go_wp2
          go_quiet (fail)
          go_wp2
          go_roundw
          case rel => exact ⟨k + 1, by omega, by go_num, HE, hid_of (bel_drewN HBB.out _)⟩
          case measure => simp [intOf]; omega
      · obtain rfl : k = n := by omega
        have HBB := hid_of hb.out
        have HE : Hid (R = true) := hid_of (by rw [hp.out, List.drop_of_length_le (by have := HN.out; omega), List.drop_of_length_le (by have := HM.out; omega)]; rfl)
        clear hp
        go_wp2
        go_ret
        exact ⟨by rw [HE.out]; rfl, HBB.out⟩
  · have HE : Hid (R = false) := hid_of (by
      rw [HR.out]
      refine decide_eq_false fun e => hne ?_
      rw [HN.out, HM.out, e])
    have d0 : ((n : Int) != (m : Int)) = true := by simp; omega
    go_enter Tryd.func31, Tryd.ntmps31
    go_wp2
    go_ret
    exact ⟨by rw [HE.out]; rfl, Below.refl _ _⟩

theorem lit_rd {w : World} {l : List Tk} {n : Nat} {cs : Array Value} (hn : n = l.length) (hc : cs = (ts l).toArray) (h : l.length ≤ 100) : TRd (w.alloc (.cells cs 44)) (.slice (some ⟨w.heap.size, 0, none⟩) n n) l := trd_new hn hc (by omega)

set_option maxRecDepth 100000 in
set_option maxHeartbeats 1600000 in
theorem awake_any (w : World) (hT : Tb w) : Calls Tryd.prog 13 #[] w fun e w' => e = .returned (.bool true) ∧ Below w.heap.size w w' := by
  have HT := hid_of hT
  have K1 : Hid (∀ (xo : Option Addr) (wx : World), TRd wx (.slice xo 2 2) [(0, 1), (1, 2)] → Tb wx → Calls Tryd.prog 16 #[.int .i64 4, .slice xo 2 2] wx fun e w' => ∃ xo k c, e = .returned (.tuple #[.slice xo k c, .int .i64 0]) ∧ k = 3 ∧ TRd w' (.slice xo k c) [(0, 1), (0, 2), (1, 2)] ∧ Below wx.heap.size wx w') := hid_of (fun xo wx h ht => by
    have := closure_any 4 xo 2 2 [(0, 1), (1, 2)] wx h ht (by decide)
    rw [show cloL 4 [(0, 1), (1, 2)] = [(0, 1), (0, 2), (1, 2)] by decide +kernel] at this
    exact this)
  have K2 : Hid (∀ (xo : Option Addr) (wx : World), TRd wx (.slice xo 1 1) [(2, 0)] → Tb wx → Calls Tryd.prog 24 #[.int .i64 3, .slice xo 1 1] wx fun e w' => ∃ xo c, e = .returned (.tuple #[.slice xo 3 c, .int .i64 0]) ∧ Rd w' (.slice xo 3 c) (is [1, 2, 0]) ∧ Below wx.heap.size wx w') := hid_of (fun xo wx h ht => by
    have := sort_any 3 xo 1 1 [(2, 0)] wx h ht (by decide +kernel)
    rw [show srtL 3 [(2, 0)] = [1, 2, 0] by decide +kernel] at this
    exact this)
  clear hT
  have A1 := hid_of (bel_alloc w (.cells #[.int .i64 0, .int .i64 1, .int .i64 1, .int .i64 2] 44))
  have R1 : Hid (TRd (w.alloc (.cells #[.int .i64 0, .int .i64 1, .int .i64 1, .int .i64 2] 44)) (.slice (some ⟨w.heap.size, 0, none⟩) 2 2) [(0, 1), (1, 2)]) := hid_of (lit_rd rfl rfl (by decide))
  go_enter Tryd.func13, Tryd.ntmps13
  go_wp2_with (first
    | (go_at_call 16; ((with_reducible refine (K1.out _ _ R1.out (HT.out.at A1.out)).mono ?_); (rintro ee w1 ⟨xo, k, c, rfl, hk, h1, h2⟩; subst hk; have B1 := hid_of (A1.out.trans (h2.mono A1.out.size)); have C1 := hid_of h1; have A2 := hid_of (bel_alloc w1 (.cells #[.int .i64 2, .int .i64 0] 44)); have R2 : Hid (TRd (w1.alloc (.cells #[.int .i64 2, .int .i64 0] 44)) (.slice (some ⟨w1.heap.size, 0, none⟩) 1 1) [(2, 0)]) := hid_of (lit_rd rfl rfl (by decide)); have B2 := hid_of (B1.out.trans (A2.out.mono B1.out.size)); clear h1 h2)))
    | (go_at_call 24; ((with_reducible refine (K2.out _ _ R2.out (HT.out.at B2.out)).mono ?_); (rintro ee w2 ⟨yo, c2, rfl, h1, h2⟩; have S2 := hid_of h1; have C2 := hid_of ((C1.out.at A2.out).at h2); have B3 := hid_of (B2.out.trans (h2.mono B2.out.size)); have A3 := hid_of (bel_alloc w2 (.cells #[.int .i64 0, .int .i64 1, .int .i64 0, .int .i64 2, .int .i64 1, .int .i64 2] 44)); have R3 : Hid (TRd (w2.alloc (.cells #[.int .i64 0, .int .i64 1, .int .i64 0, .int .i64 2, .int .i64 1, .int .i64 2] 44)) (.slice (some ⟨w2.heap.size, 0, none⟩) 3 3) [(0, 1), (0, 2), (1, 2)]) := hid_of (lit_rd rfl rfl (by decide)); have C3 := hid_of (C2.out.at A3.out); have B4 := hid_of (B3.out.trans (A3.out.mono B3.out.size)); have S3 := hid_of (S2.out.at A3.out); clear h1 h2)))
    | (go_at_call 19; ((with_reducible refine (samePairs_any _ _ _ _ _ _ _ _ _ C3.out R3.out).mono ?_); (rintro ee w3 ⟨rfl, h1⟩; have B5 := hid_of (B4.out.trans (h1.mono B4.out.size)); have S4 := hid_of (S3.out.at h1); have A4 := hid_of (bel_alloc w3 (.cells #[.int .i64 1, .int .i64 2, .int .i64 0] 3)); have S5 := hid_of (S4.out.at A4.out); have R4 : Hid (Rd (w3.alloc (.cells #[.int .i64 1, .int .i64 2, .int .i64 0] 3)) (.slice (some ⟨w3.heap.size, 0, none⟩) 3 3) (is [1, 2, 0])) := hid_of (rd_new rfl rfl (by decide)); have B6 := hid_of (B5.out.trans (A4.out.mono B5.out.size)); clear h1)))
    | (go_at_call 31; ((with_reducible refine (same_any _ _ _ _ _ _ _ _ _ S5.out R4.out).mono ?_); (rintro ee w4 ⟨rfl, h1⟩; have B7 := hid_of (B6.out.trans (h1.mono B6.out.size)); clear h1))))
  go_ret
  exact ⟨by simp, B7.out⟩
end Go.Proofs.YtjfjcgbdpjpodaaDoor
