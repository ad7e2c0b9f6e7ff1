/- The reference's Minus and Subset. Bounds on sizes alone. -/
import Derived.Test.YtpbjnbceloibnaaNamOps
namespace Go.Proofs.Ytpbjnbceloibnaa
open Go.RowKit

/-- Is x no element of b? -/
def out? (b : List Str) (x : Str) : Bool := !decide (x ∈ b)
/-- What of a is not in b, in a's order. -/
def left (a b : List Str) : List Str := a.filter (out? b)
theorem left_le (a b : List Str) (k : Nat) : ((a.take k).filter (out? b)).length ≤ k :=
  Nat.le_trans (List.length_filter_le _ _) (List.length_take_le _ _)
theorem left_in {a b : List Str} {k : Nat} (h : k < a.length) (hb : a[k] ∈ b) : (a.take (k + 1)).filter (out? b) = (a.take k).filter (out? b) := by
  rw [take_snoc' h, List.filter_append]; simp [out?, hb]
theorem left_out {a b : List Str} {k : Nat} (h : k < a.length) (hb : a[k] ∉ b) : (a.take (k + 1)).filter (out? b) = (a.take k).filter (out? b) ++ [a[k]] := by
  rw [take_snoc' h, List.filter_append]; simp [out?, hb]
theorem left_nil {a b : List Str} (h : ∀ x ∈ a, x ∈ b) : left a b = [] := by
  simp only [left, List.filter_eq_nil_iff, out?]; intro x hx; simp [h x hx]

set_option maxRecDepth 100000 in
set_option maxHeartbeats 1600000 in
theorem rminus_any (ao : Option Addr) (n cap : Nat) (bo : Option Addr) (m cap2 : Nat) (a b : List Str) (w : World) (Ra : Rd w (.slice ao n cap) (ss a)) (Rb : Rd w (.slice bo m cap2) (ss b)) (ha : a.length ≤ big) :
    Calls Try.prog 46 #[.slice ao n cap, .slice bo m cap2] w fun e w' => ∃ xo xc, e = .returned (.slice xo (setOf (left a b)).length xc) ∧ Ow 9 w.heap.size w w' (.slice xo (setOf (left a b)).length xc) (ss (setOf (left a b))) := by
  unfold big at ha
  obtain ⟨hn, h1, h2, h3⟩ := rds_open Ra
  have HRB := hid_of Rb
  obtain ⟨S, hS⟩ : ∃ S : Nat → List Str, S = fun i => (a.take i).filter (out? b) := ⟨_, rfl⟩
  have HS := hid_of hS
  have HN := hid_of hn
  have hn9 : n ≤ 1000000 := by omega
  have HF : Hid (S n = left a b) := hid_of (by rw [hS]; show (a.take n).filter _ = _; rw [List.take_of_length_le (by omega)]; rfl)
  have HSL : Hid (∀ i, (S i).length ≤ i) := hid_of (fun i => by rw [hS]; exact left_le a b i)
  have HE : Hid (Ow 9 w.heap.size w (w.alloc (.cells #[] 9)) (.slice (some ⟨w.heap.size, 0, none⟩) 0 0) (ss [])) := hid_of (ow_empty _ w)
  have HS0 : Hid (S 0 = []) := hid_of (by rw [hS]; rfl)
  have OF : Hid (∀ (xo : Option Addr) (xc : Nat) (wx : World), Ow 9 w.heap.size w wx (.slice xo (left a b).length xc) (ss (left a b)) → Calls Try.prog 30 #[.slice xo (left a b).length xc] wx fun e w' => ∃ yo yc, e = .returned (.slice yo (setOf (left a b)).length yc) ∧ Ow 9 w.heap.size w w' (.slice yo (setOf (left a b)).length yc) (ss (setOf (left a b)))) := hid_of (fun xo xc wx hx => by
    have hl : (left a b).length ≤ 1000000 := by have := List.length_filter_le (out? b) a; unfold left; omega
    refine (rof_any xo _ xc _ wx (hx.rd (by rw [ss_length]; omega)) (by unfold big; exact hl)).mono ?_
    rintro e w' ⟨yo, yc, rfl, h⟩
    exact ⟨yo, yc, rfl, h.start (Nat.le_refl _) hx.bel hx.size⟩)
  clear Ra Rb hn hS
  obtain ⟨D, hD⟩ : ∃ D, D = left a b := ⟨_, rfl⟩
  rw [← hD] at HF OF ⊢
  clear hD
  rcases h3 with h3 | ⟨g, o, rfl, hg, hc⟩
  · obtain rfl : n = 0 := by rw [HN.out, h3]; rfl
    have H3 : Hid (D = []) := hid_of (by rw [← HF.out, HS0.out])
    have HE2 : Hid (Ow 9 w.heap.size w (w.alloc (.cells #[] 9)) (.slice (some ⟨w.heap.size, 0, none⟩) D.length 0) (ss D)) := hid_of (by rw [H3.out]; exact HE.out)
    have H3L : Hid (D.length = 0) := hid_of (by rw [H3.out]; rfl)
    have OF2 := hid_of (OF.out _ _ _ HE2.out)
    rw [H3L.out] at OF2
    clear h3
    go_enter Try.func46, Try.ntmps46
    go_wp2
    go_loopw [5, 6] (fun sv iv wr => iv = .int .i64 0 ∧ sv = .slice (some ⟨w.heap.size, 0, none⟩) 0 0 ∧ w.alloc (.cells #[] 9) = wr) (fun _ _ _ => 0)
    case atStart => exact ⟨rfl, rfl, rfl⟩
    case round =>
      obtain ⟨rfl, rfl, rfl⟩ := hrel
      go_wp2_with (go_at_call 30; ((with_reducible refine (OF2.out).mono ?_); (rintro e w1 ⟨yo, yc, rfl, hh⟩; have O1 := hid_of hh; clear hh)))
      go_ret
      exact ⟨yo, yc, rfl, O1.out⟩
  · have HC := hid_of hc
    clear hc
    go_enter Try.func46, Try.ntmps46
    go_wp2
    go_loopw [5, 6] (fun sv iv wr => ∃ (i : Nat) (xo : Option Addr) (xc : Nat), i ≤ n ∧ iv = .int .i64 i ∧ sv = .slice xo (S i).length xc ∧ Hid (Ow 9 w.heap.size w wr (.slice xo (S i).length xc) (ss (S i)))) (fun _ iv _ => n - (intOf iv).toNat)
    case atStart => exact ⟨0, _, _, Nat.zero_le _, rfl, by rw [HS0.out] <;> rfl, hid_of (by rw [HS0.out]; exact HE.out)⟩
    case round =>
      obtain ⟨wo, rfl⟩ : ∃ wo : World, wo = wr := ⟨_, rfl⟩
      obtain ⟨i, xo, xc, hi, rfl, rfl, how⟩ := hrel
      by_cases hlt : i < n
      · have hd : decide (i < n) = true := by simp; omega
        have hkl : Hid (i < a.length) := hid_of (by have := HN.out; omega)
        obtain ⟨bk, hbk⟩ : ∃ b, b = ba (a[i]'hkl.out) := ⟨_, rfl⟩
        have c1 := (how.out.bel.cell (p := ⟨g, o + i, none⟩) hg).trans (HC.out i _ (List.getElem?_eq_getElem hkl.out))
        rw [← hbk] at c1
        have HBK := hid_of hbk
        obtain ⟨di, hdi⟩ : ∃ d, d = S i := ⟨_, rfl⟩
        have HDL : Hid (di.length ≤ 1000000) := hid_of (by rw [hdi]; have := HSL.out i; omega)
        rw [← hdi] at how ⊢
        have HDI : Hid ((a.take i).filter (out? b) = di) := hid_of (by rw [hdi, HS.out])
        have HAS : Hid (Calls Try.prog 22 #[.slice bo m cap2, .string bk] wo fun e w' => e = .returned (.bool (decide (a[i]'hkl.out ∈ b))) ∧ wo = w') := hid_of (by
          rw [hbk]; exact rhas_any bo m cap2 b _ wo (HRB.out.at how.out.bel))
        clear hdi hbk
        by_cases hin : a[i]'hkl.out ∈ b
        · have STEP : Hid (S (i + 1) = di) := hid_of (by rw [HS.out]; show (a.take (i + 1)).filter _ = di; rw [left_in hkl.out hin, HDI.out])
          have HAS2 : Hid (Calls Try.prog 22 #[.slice bo m cap2, .string bk] wo fun e w' => e = .returned (.bool true) ∧ wo = w') := hid_of (by have := HAS.out; rw [decide_eq_true hin] at this; exact this)
          clear hin HAS
          go_wp2_with (go_at_call 22; ((with_reducible refine (HAS2.out).mono ?_); (rintro e w' ⟨rfl, rfl⟩)))
          go_roundw
          case rel => exact ⟨i + 1, xo, xc, by omega, by go_num, by rw [STEP.out], hid_of (by rw [STEP.out]; exact how.out)⟩
          case measure => simp [intOf]; omega
        · have STEP : Hid (S (i + 1) = di ++ [a[i]'hkl.out]) := hid_of (by rw [HS.out]; show (a.take (i + 1)).filter _ = _; rw [left_out hkl.out hin, HDI.out])
          have HAS2 : Hid (Calls Try.prog 22 #[.slice bo m cap2, .string bk] wo fun e w' => e = .returned (.bool false) ∧ wo = w') := hid_of (by have := HAS.out; rw [decide_eq_false hin] at this; exact this)
          have R1x : Hid (Rd (wo.alloc (.cells #[.string bk] 9)) (.slice (some ⟨wo.heap.size, 0, none⟩) 1 1) (ss [a[i]'hkl.out])) := hid_of (by rw [HBK.out]; exact rd_new rfl rfl (by simp [ss]))
          clear hin HAS
          go_wp2_with (first
            | (go_at_call 22; ((with_reducible refine (HAS2.out).mono ?_); (rintro e w' ⟨rfl, rfl⟩)))
            | (at_builtin; ((refine wpList_app strsE rfl _ _ rfl (v := .slice xo di.length xc) rfl (how.out.alloc _) (vx := .slice (some ⟨wo.heap.size, 0, none⟩) 1 1) rfl R1x.out (ss_one _) (by rw [ss_length, ss_len1]; have := HDL.out; omega) (by rw [ss_length, ss_len1]; have := HDL.out; omega) ?_); intro xo3 n3 c3 w3 hn3 h3; have hn31 : n3 = di.length + 1 := (by rw [hn3, ss_length, ss_len1]); have hn32 : 1 ≤ n3 := (by omega); have hn39 : n3 ≤ 1000001 := (by have := HDL.out; omega); have X3 : Hid (n3 = di.length + 1 ∧ Ow 9 w.heap.size w w3 (.slice xo3 n3 c3) (ss (di ++ [a[i]'hkl.out]))) := hid_of ⟨hn31, by rw [ss_append]; exact h3⟩; clear h3 hn3 hn31)))
          have HN3 : Hid (n3 = (S (i + 1)).length) := hid_of (by rw [STEP.out, X3.out.1]; simp)
          go_roundw
          case rel => exact ⟨i + 1, xo3, c3, by omega, by go_num, by rw [← HN3.out], hid_of (by rw [← HN3.out, STEP.out]; exact X3.out.2)⟩
          case measure => simp [intOf]; omega
      · obtain rfl : i = n := by omega
        have hd : decide (i < i) = false := by simp
        have HDD := HF.out
        rw [HDD] at how ⊢
        have OF2 := hid_of (OF.out _ _ _ how.out)
        go_wp2_with (go_at_call 30; ((with_reducible refine (OF2.out).mono ?_); (rintro e w1 ⟨yo, yc, rfl, hh⟩; have O1 := hid_of hh; clear hh)))
        go_ret
        exact ⟨yo, yc, rfl, O1.out⟩

set_option maxRecDepth 100000 in
/-- Subset, where it answers true. -/
theorem rsubset_yes (ao : Option Addr) (n cap : Nat) (bo : Option Addr) (m cap2 : Nat) (a b : List Str) (w : World) (Ra : Rd w (.slice ao n cap) (ss a)) (Rb : Rd w (.slice bo m cap2) (ss b)) (ha : a.length ≤ big) (h : ∀ x ∈ a, x ∈ b) :
    Calls Try.prog 31 #[.slice ao n cap, .slice bo m cap2] w fun e w' => e = .returned (.bool true) ∧ Below w.heap.size w w' := by
  have M : Hid (Calls Try.prog 46 #[.slice ao n cap, .slice bo m cap2] w fun e w' => ∃ xo xc, e = .returned (.slice xo 0 xc) ∧ Below w.heap.size w w') := hid_of (by
    refine (rminus_any ao n cap bo m cap2 a b w Ra Rb ha).mono ?_
    rintro e w' ⟨xo, xc, rfl, h1⟩
    rw [left_nil h] at h1 ⊢
    exact ⟨xo, xc, rfl, h1.bel⟩)
  clear Ra Rb h
  go_enter Try.func31, Try.ntmps31
  go_wp2_with (go_at_call 46; ((with_reducible refine (M.out).mono ?_); (rintro e w1 ⟨xo, xc, rfl, hh⟩; have B1 := hid_of hh; clear hh)))
  go_ret
  exact ⟨rfl, B1.out⟩
end Go.Proofs.Ytpbjnbceloibnaa
