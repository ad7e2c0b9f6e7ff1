/- The reference: sorted lists of strings; the law: equal lists. Bounds on sizes alone. -/
import Derived.Test.YtjponegeidiheaaNmSrt
import Derived.Test.YtjponegeidiheaaClsHas
namespace Go.Proofs.Ytjponegeidiheaa
open Go.RowKit

set_option maxRecDepth 100000 in
theorem rsorted_any (ao : Option Addr) (n cap : Nat) (l : List Str) (w : World) (R : Rd w (.slice ao n cap) (ss l)) :
    Calls Try.prog 43 #[.slice ao n cap] w fun e w' => e = .returned (.bool (ssB l)) ∧ Below w.heap.size w w' := by
  obtain ⟨hn, h1, h2, h3⟩ := rds_open R
  obtain ⟨r, hr⟩ : ∃ r, r = ssB l := ⟨_, rfl⟩
  rw [← hr]
  have HR := hid_of hr
  have HN := hid_of hn
  clear hr R hn
  by_cases hne : l = []
  · have RF : Hid (r = true) := hid_of (by rw [HR.out, hne]; rfl)
    obtain rfl : n = 0 := by rw [HN.out, hne]; rfl
    clear h3 HN hne
    go_enter Try.func43, Try.ntmps43
    go_wp2
    go_loopw [3] (fun iv wr => iv = .int .i64 1 ∧ w = wr) (fun iv _ => 0)
    case atStart => exact ⟨rfl, rfl⟩
    case round =>
      obtain ⟨rfl, rfl⟩ := hrel
      go_wp2
      go_ret
      exact ⟨ret_b RF.out.symm, Below.refl _ _⟩
  · obtain ⟨g, o, rfl, hg, hc⟩ := h3.resolve_left hne
    have HC := hid_of hc
    have HN1 : Hid (1 ≤ n) := hid_of (by have := HN.out; have := List.length_pos_iff.2 hne; omega)
    clear hc h3 hne
    go_enter Try.func43, Try.ntmps43
    go_wp2
    go_loopw [3] (fun iv wr => ∃ k p : Nat, p + 1 = k ∧ k ≤ n ∧ iv = .int .i64 k ∧ Hid (ssTo l k) ∧ Hid (Below w.heap.size w wr)) (fun iv _ => n - (intOf iv).toNat)
    case atStart => exact ⟨1, 0, rfl, HN1.out, rfl, hid_of (fun i hi => by omega), hid_of (Below.refl _ _)⟩
    case round =>
      obtain ⟨k, p, hpk, hk, rfl, hs, hb⟩ := hrel
      by_cases hlt : k < n
      · have hd : decide (k < n) = true := by simp; omega
        have hkl : Hid (k < l.length) := hid_of (by have := HN.out; omega)
        have hpl : Hid (p < l.length) := hid_of (by have := HN.out; omega)
        obtain ⟨bk, hbk⟩ : ∃ b, b = ba (l[k]'hkl.out) := ⟨_, rfl⟩
        obtain ⟨bp, hbp⟩ : ∃ b, b = ba (l[p]'hpl.out) := ⟨_, rfl⟩
        have c1 := (hb.out.cell (p := ⟨g, o + k, none⟩) hg).trans (HC.out k _ (List.getElem?_eq_getElem hkl.out))
        have c2 := (hb.out.cell (p := ⟨g, o + p, none⟩) hg).trans (HC.out p _ (List.getElem?_eq_getElem hpl.out))
        rw [← hbk] at c1
        rw [← hbp] at c2
        have s1 : IntKind.i64.wrap ((k : Int) - 1) = (p : Int) := by rw [IntWalk.i64_in _ (by omega)]; omega
        have b1 : (k : Int) < (n : Int) := by omega
        have b2 : (p : Int) < (n : Int) := by omega
        have b3 : (0 : Int) ≤ (k : Int) := by omega
        have b4 : (0 : Int) ≤ (p : Int) := by omega
        have HP := hid_of hpk
        clear hpk
        by_cases e : (l[p]'hpl.out) < (l[k]'hkl.out)
        · have t1 := lt_t hbp hbk e
          have HS2 := hid_of (ssTo_succ hs.out HP.out (by rw [getD_of hpl.out, getD_of hkl.out]; exact e))
          clear hbp hbk e
          go_wp2
          go_quiet (fail)
          clear s1
          go_wp2
          go_roundw
          case rel => exact ⟨k + 1, k, rfl, by omega, by go_num, HS2, hid_of (bel_drewN hb.out _)⟩
          case measure => simp [intOf]; omega
        · have t1 := lt_f hbp hbk e
          have RF : Hid (r = false) := hid_of (by rw [HR.out]; exact ssB_no HP.out hkl.out (by rw [getD_of hpl.out, getD_of hkl.out]; exact e))
          clear hbp hbk e
          go_wp2
          go_quiet (fail)
          clear s1
          go_wp2
          go_ret
          exact ⟨ret_b RF.out.symm, bel_drewN hb.out _⟩
      · have hd : decide (k < n) = false := by simp; omega
        have RF : Hid (r = true) := hid_of (by rw [HR.out]; exact ssB_yes HN.out (by rw [show n = k by omega]; exact hs.out))
        go_wp2
        go_ret
        exact ⟨ret_b RF.out.symm, hb.out⟩

set_option maxRecDepth 100000 in
theorem rsame_any (ao : Option Addr) (n cap : Nat) (bo : Option Addr) (m cap2 : Nat) (l l2 : List Str) (w : World) (R : Rd w (.slice ao n cap) (ss l)) (R2 : Rd w (.slice bo m cap2) (ss l2)) :
    Calls Try.prog 22 #[.slice ao n cap, .slice bo m cap2] w fun e w' => e = .returned (.bool (decide (l = l2))) ∧ Below w.heap.size w w' := by
  obtain ⟨hn, h1, h2, h3⟩ := rds_open R
  obtain ⟨hm, h4, h5, h6⟩ := rds_open R2
  obtain ⟨r, hr⟩ : ∃ r, r = decide (l = l2) := ⟨_, rfl⟩
  rw [← hr]
  have HR := hid_of hr
  have HN := hid_of hn
  have HM := hid_of hm
  clear hr R hn R2 hm
  by_cases hnm : n = m
  · subst hnm
    have q0 : (n != n) = false := by simp
    have q1 : ((n : Int) != (n : Int)) = false := by simp
    rcases h3 with h3 | ⟨g, o, rfl, hg, hc⟩
    · have RF : Hid (r = true) := hid_of (by
        rw [HR.out, h3]
        have : l2 = [] := List.eq_nil_of_length_eq_zero (by rw [← HM.out, HN.out, h3]; rfl)
        rw [this]; rfl)
      obtain rfl : n = 0 := by rw [HN.out, h3]; rfl
      clear h3 HN h6
      go_enter Try.func22, Try.ntmps22
      go_wp2
      go_loopw [5] (fun iv wr => iv = .int .i64 0 ∧ w = wr) (fun iv _ => 0)
      case atStart => exact ⟨rfl, rfl⟩
      case round =>
        obtain ⟨rfl, rfl⟩ := hrel
        go_wp2
        go_ret
        exact ⟨ret_b RF.out.symm, Below.refl _ _⟩
    · rcases h6 with h6 | ⟨g2, o2, rfl, hg2, hc2⟩
      · have RF : Hid (r = true) := hid_of (by
          rw [HR.out, h6]
          have : l = [] := List.eq_nil_of_length_eq_zero (by rw [← HN.out, HM.out, h6]; rfl)
          rw [this]; rfl)
        obtain rfl : n = 0 := by rw [HM.out, h6]; rfl
        clear h6 HN hc
        go_enter Try.func22, Try.ntmps22
        go_wp2
        go_loopw [5] (fun iv wr => iv = .int .i64 0 ∧ w = wr) (fun iv _ => 0)
        case atStart => exact ⟨rfl, rfl⟩
        case round =>
          obtain ⟨rfl, rfl⟩ := hrel
          go_wp2
          go_ret
          exact ⟨ret_b RF.out.symm, Below.refl _ _⟩
      · have HC := hid_of hc
        have HC2 := hid_of hc2
        clear hc hc2
        go_enter Try.func22, Try.ntmps22
        go_wp2
        go_loopw [5] (fun iv wr => ∃ k : Nat, k ≤ n ∧ iv = .int .i64 k ∧ Hid (l.take k = l2.take k) ∧ Hid (Below w.heap.size w wr)) (fun iv _ => n - (intOf iv).toNat)
        case atStart => exact ⟨0, Nat.zero_le _, rfl, hid_of (by simp), hid_of (Below.refl _ _)⟩
        case round =>
          obtain ⟨k, hk, rfl, hs, hb⟩ := hrel
          by_cases hlt : k < n
          · have hd : decide (k < n) = true := by simp; omega
            have hkl : Hid (k < l.length) := hid_of (by have := HN.out; omega)
            have hpl : Hid (k < l2.length) := hid_of (by have := HM.out; omega)
            obtain ⟨bk, hbk⟩ : ∃ b, b = ba (l[k]'hkl.out) := ⟨_, rfl⟩
            obtain ⟨bp, hbp⟩ : ∃ b, b = ba (l2[k]'hpl.out) := ⟨_, rfl⟩
            have c1 := (hb.out.cell (p := ⟨g, o + k, none⟩) hg).trans (HC.out k _ (List.getElem?_eq_getElem hkl.out))
            have c2 := (hb.out.cell (p := ⟨g2, o2 + k, none⟩) hg2).trans (HC2.out k _ (List.getElem?_eq_getElem hpl.out))
            rw [← hbk] at c1
            rw [← hbp] at c2
            have b1 : (k : Int) < (n : Int) := by omega
            have b3 : (0 : Int) ≤ (k : Int) := by omega
            by_cases e : (l[k]'hkl.out) = (l2[k]'hpl.out)
            · have t1 := eq_t hbk hbp e
              have t2 : (bk.toList != bp.toList) = false := by simp only [bne, t1]; rfl
              have HS2 : Hid (l.take (k + 1) = l2.take (k + 1)) := hid_of (by rw [take_snoc' hkl.out, take_snoc' hpl.out, hs.out, e])
              clear hbp hbk e
              go_wp2
              go_quiet (fail)
              go_wp2
              go_roundw
              case rel => exact ⟨k + 1, by omega, by go_num, HS2, hid_of (bel_drewN hb.out _)⟩
              case measure => simp [intOf]; omega
            · have t1 := eq_f hbk hbp e
              have t2 : (bk.toList != bp.toList) = true := by simp only [bne, t1]; rfl
              have RF : Hid (r = false) := hid_of (by
                rw [HR.out]
                refine decide_eq_false (fun e2 => e ?_)
                subst e2; rfl)
              clear hbp hbk e
              go_wp2
              go_quiet (fail)
              go_wp2
              go_ret
              exact ⟨ret_b RF.out.symm, bel_drewN hb.out _⟩
          · have hd : decide (k < n) = false := by simp; omega
            have RF : Hid (r = true) := hid_of (by
              rw [HR.out]
              have h := hs.out
              rw [List.take_of_length_le (by have := HN.out; omega), List.take_of_length_le (by have := HM.out; omega)] at h
              exact decide_eq_true h)
            go_wp2
            go_ret
            exact ⟨ret_b RF.out.symm, hb.out⟩
  · have q0 : (n != m) = true := by simp; omega
    have q1 : ((n : Int) != (m : Int)) = true := by simp; omega
    have RF : Hid (r = false) := hid_of (by rw [HR.out]; exact decide_eq_false (fun e => hnm (by rw [HN.out, HM.out, e])))
    go_enter Try.func22, Try.ntmps22
    go_wp2
    go_ret
    exact ⟨ret_b RF.out.symm, Below.refl _ _⟩
end Go.Proofs.Ytjponegeidiheaa
