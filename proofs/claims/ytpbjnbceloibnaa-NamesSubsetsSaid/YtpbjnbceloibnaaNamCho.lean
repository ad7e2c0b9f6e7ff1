/- Intersect, Minus, Subset of package names: the walk of two sorted rows. Bounds on sizes alone. -/
import Derived.Test.YtpbjnbceloibnaaNamOf
namespace Go.Proofs.Ytpbjnbceloibnaa
open Go.RowKit

/-- The elements before place q are less than those from k on. -/
def adv (A : List Str) (k : Nat) (O : List Str) (q : Nat) : Prop := q ≤ O.length ∧ ∀ j i, j < q → k ≤ i → i < A.length → O.getD j [] < A.getD i []
def picks (O : List Str) (b : Bool) (s : Str) : Bool := decide (s ∈ O) == b
theorem adv_zero (A O : List Str) (k : Nat) : adv A k O 0 := ⟨Nat.zero_le _, fun j i h => by omega⟩
theorem adv_later {A O : List Str} {k q : Nat} (h : adv A k O q) : adv A (k + 1) O q := ⟨h.1, fun j i hj hi => h.2 j i hj (by omega)⟩
theorem adv_step {A O : List Str} {k q : Nat} (hA : SS A) (h : adv A k O q) (hk : k < A.length) (hq : q < O.length) (hlt : O.getD q [] < A.getD k []) : adv A k O (q + 1) := by
  refine ⟨by omega, fun j i hj hi hil => ?_⟩
  by_cases e : j = q
  · subst e
    by_cases e2 : i = k
    · subst e2; exact hlt
    · exact str_trans hlt (ss_get hA (by omega) hil)
  · exact h.2 j i (by omega) hi hil
theorem adv_found {A O : List Str} {k q : Nat} (hO : SS O) (h : adv A k O q) (hk : k < A.length) (hq : q < O.length) (hge : ¬ O.getD q [] < A.getD k []) : A.getD k [] ∈ O ↔ O.getD q [] = A.getD k [] := by
  constructor
  · intro hm
    obtain ⟨j, hj, e⟩ := List.mem_iff_getElem.1 hm
    rw [← getD_of hj] at e
    rcases Nat.lt_trichotomy j q with h1 | h1 | h1
    · have := h.2 j k h1 (Nat.le_refl _) hk
      rw [e] at this; exact absurd this (str_irr _)
    · rw [← h1]; exact e
    · have := ss_get hO h1 hj
      rw [e] at this; exact absurd this hge
  · intro e; rw [← e, getD_of hq]; exact List.getElem_mem _
theorem adv_gone {A O : List Str} {k q : Nat} (h : adv A k O q) (hk : k < A.length) (hq : ¬ q < O.length) : A.getD k [] ∉ O := by
  intro hm
  obtain ⟨j, hj, e⟩ := List.mem_iff_getElem.1 hm
  rw [← getD_of hj] at e
  have := h.2 j k (by omega) (Nat.le_refl _) hk
  rw [e] at this; exact absurd this (str_irr _)
def chosen (a b : List Str) (p : Bool) : List Str := (setOf a).filter (picks (setOf b) p)
theorem chosen_mem {a b : List Str} {p : Bool} (x : Str) : x ∈ chosen a b p ↔ x ∈ a ∧ ((decide (x ∈ b)) == p) = true := by
  unfold chosen picks
  rw [List.mem_filter, setOf_mem]
  simp only [setOf_mem]
theorem chosen_ss (a b : List Str) (p : Bool) : SS (chosen a b p) := ss_filter _ (setOf_ss a)
theorem filt_snoc {A O : List Str} {k : Nat} {p : Bool} (hk : k < A.length) : (A.take (k + 1)).filter (picks O p) = (A.take k).filter (picks O p) ++ (if picks O p A[k] then [A[k]] else []) := by
  rw [take_snoc' hk, List.filter_append]
  congr 1
  by_cases h : picks O p A[k] <;> simp [h]
theorem filt_le {A O : List Str} {p : Bool} (k : Nat) : ((A.take k).filter (picks O p)).length ≤ k :=
  Nat.le_trans (List.length_filter_le _ _) (List.length_take_le _ _)

set_option maxRecDepth 100000 in
set_option maxHeartbeats 1600000 in
theorem choose_any (ao : Option Addr) (n cap : Nat) (bo : Option Addr) (m cap2 : Nat) (a b : List Str) (p : Bool) (w : World) (Ra : Rd w (.slice ao n cap) (ss a)) (Rb : Rd w (.slice bo m cap2) (ss b)) (ha : a.length ≤ big) (hb : b.length ≤ big) :
    Calls Try.prog 44 #[.slice ao n cap, .slice bo m cap2, .bool p] w fun e w' => ∃ xo xc, e = .returned (.slice xo (chosen a b p).length xc) ∧ Ow 9 w.heap.size w w' (.slice xo (chosen a b p).length xc) (ss (chosen a b p)) := by
  have OFA := hid_of (fun w (R : Rd w (.slice ao n cap) (ss a)) => of_any ao n cap a w R ha)
  have OFB := hid_of (fun w (R : Rd w (.slice bo m cap2) (ss b)) => of_any bo m cap2 b w R hb)
  have HRA := hid_of Ra
  have HRB := hid_of Rb
  obtain ⟨A, hA⟩ : ∃ A, A = setOf a := ⟨_, rfl⟩
  obtain ⟨O, hO⟩ : ∃ O, O = setOf b := ⟨_, rfl⟩
  obtain ⟨C, hC⟩ : ∃ C, C = chosen a b p := ⟨_, rfl⟩
  rw [← hA] at OFA
  rw [← hO] at OFB
  rw [← hC]
  have HSA : Hid (SS A) := hid_of (by rw [hA]; exact setOf_ss a)
  have HSO : Hid (SS O) := hid_of (by rw [hO]; exact setOf_ss b)
  have HLA : Hid (A.length ≤ 1000000) := hid_of (by have := setOf_le a; unfold big at ha; rw [hA]; omega)
  have HLO : Hid (O.length ≤ 1000000) := hid_of (by have := setOf_le b; unfold big at hb; rw [hO]; omega)
  have HC : Hid (C = A.filter (picks O p)) := hid_of (by rw [hC, hA, hO]; rfl)
  clear Ra Rb ha hb hA hO hC
  obtain ⟨nA, hnA⟩ : ∃ nA, nA = A.length := ⟨_, rfl⟩
  obtain ⟨nO, hnO⟩ : ∃ nO, nO = O.length := ⟨_, rfl⟩
  rw [← hnA] at OFA HLA
  rw [← hnO] at OFB HLO
  have HNA := hid_of hnA
  have HNO := hid_of hnO
  have hA9 := HLA.out
  have hO9 := HLO.out
  clear hnA hnO HLA HLO
  go_enter Try.func44, Try.ntmps44
  go_wp2_with (go_at_call 17; (first
    | ((with_reducible refine (OFB.out _ HRB.out).mono ?_); (rintro e w1 ⟨xo1, xc1, rfl, h1⟩; have O1 := hid_of h1; clear h1))
    | ((with_reducible refine (OFA.out w1 (HRA.out.at O1.out.bel)).mono ?_); (rintro e w2 ⟨xo2, xc2, rfl, h2⟩; have O2 := hid_of h2; clear h2))))
  have R1 : Hid (Rd w2 (.slice xo1 nO xc1) (ss O)) := hid_of ((O1.out.rd (by rw [ss_length, ← HNO.out]; omega)).at O2.out.bel)
  have R2 : Hid (Rd w2 (.slice xo2 nA xc2) (ss A)) := hid_of (O2.out.rd (by rw [ss_length, ← HNA.out]; omega))
  have BB : Hid (Below w.heap.size w w2) := hid_of (step_b O1.out.bel O2.out.bel O1.out.size)
  go_loopw [8, 9, 11, 12, 18] (fun qv sv av fv iv wr => ∃ (k q : Nat) (xo : Option Addr) (xc : Nat) (u v : Value), k ≤ nA ∧ qv = .int .i64 q ∧ q ≤ nO ∧ av = u ∧ fv = v ∧ iv = .int .i64 k ∧ sv = .slice xo ((A.take k).filter (picks O p)).length xc ∧ Hid (adv A k O q) ∧ Hid (Ow 9 w2.heap.size w2 wr (.slice xo ((A.take k).filter (picks O p)).length xc) (ss ((A.take k).filter (picks O p))))) (fun _ _ _ _ iv _ => nA - (intOf iv).toNat)
  case atStart => exact ⟨0, 0, none, 0, _, _, Nat.zero_le _, rfl, Nat.zero_le _, rfl, rfl, rfl, rfl, hid_of (adv_zero _ _ _), hid_of (ow_nil _ _)⟩
  case round =>
    obtain ⟨k, q0, xo, xc, u, v, hk, rfl, hq0, rfl, rfl, rfl, rfl, hadv0, how⟩ := hrel
    by_cases hlt : k < nA
    · have hd : decide (k < nA) = true := by simp; omega
      have hkl : Hid (k < A.length) := hid_of (by have := HNA.out; omega)
      obtain ⟨hs0, _, _, hs3⟩ := rds_open R2.out
      obtain ⟨g2, o2, rfl, hg2, hc2⟩ := hs3.resolve_left (fun e => by rw [e] at hs0; simp at hs0; omega)
      obtain ⟨bk, hbk⟩ : ∃ b, b = ba (A[k]'hkl.out) := ⟨_, rfl⟩
      have c1 := (how.out.bel.cell (p := ⟨g2, o2 + k, none⟩) hg2).trans (hc2 k _ (List.getElem?_eq_getElem hkl.out))
      rw [← hbk] at c1
      have HBK := hid_of hbk
      obtain ⟨dk, hdk⟩ : ∃ d, d = (A.take k).filter (picks O p) := ⟨_, rfl⟩
      rw [← hdk] at how ⊢
      have HDL : Hid (dk.length ≤ 1000000) := hid_of (by rw [hdk]; have := filt_le (A := A) (O := O) (p := p) k; omega)
      have HDK := hid_of hdk
      have R1x : Hid (Rd (wr.alloc (.cells #[.string bk] 9)) (.slice (some ⟨wr.heap.size, 0, none⟩) 1 1) (ss [A[k]'hkl.out])) := hid_of (by rw [hbk]; exact rd_new rfl rfl (by simp [ss]))
      have G2 := hid_of hg2
      clear hbk hdk hc2 hs3 hs0 hg2
      rename_i hh1 hh2
      clear hh1 hh2
      go_wp2
      go_loop [8] (fun qv => ∃ q : Nat, qv = .int .i64 q ∧ q ≤ nO ∧ Hid (adv A k O q)) (fun qv => nO - (intOf qv).toNat)
      case atStart => exact ⟨q0, rfl, hq0, hadv0⟩
      case round =>
        clear hadv0 hq0
        obtain ⟨q, rfl, hq, hadv⟩ := hrel
        by_cases hql : q < nO
        · have hd2 : decide (q < nO) = true := by simp; omega
          have hqO : Hid (q < O.length) := hid_of (by have := HNO.out; omega)
          obtain ⟨hs0, hx1, hx2, hs3⟩ := rds_open R1.out
          obtain ⟨g1, o1, rfl, hg1, hc1⟩ := hs3.resolve_left (fun e => by rw [e] at hs0; simp at hs0; omega)
          obtain ⟨bq, hbq⟩ : ∃ b, b = ba (O[q]'hqO.out) := ⟨_, rfl⟩
          have c3 := (how.out.bel.cell (p := ⟨g1, o1 + q, none⟩) hg1).trans (hc1 q _ (List.getElem?_eq_getElem hqO.out))
          rw [← hbq] at c3
          by_cases e : (O[q]'hqO.out) < (A[k]'hkl.out)
          · have t1 := lt_t hbq HBK.out e
            have ADV := hid_of (adv_step HSA.out hadv.out hkl.out hqO.out (by rw [getD_of hqO.out, getD_of hkl.out]; exact e))
            clear hbq hc1 hs3 hs0 hg1 hx1 hx2 e
            go_wp2
            go_round
            case rel => exact ⟨q + 1, by go_num, by omega, ADV⟩
            case measure => simp [intOf]; omega
          · have t1 := lt_f hbq HBK.out e
            have hfound := adv_found HSO.out hadv.out hkl.out hqO.out (by rw [getD_of hqO.out, getD_of hkl.out]; exact e)
            rw [getD_of hqO.out, getD_of hkl.out] at hfound
            by_cases e2 : (O[q]'hqO.out) = (A[k]'hkl.out)
            · have t2 := eq_t hbq HBK.out e2
              have HFD : Hid (decide (A[k]'hkl.out ∈ O) = true) := hid_of (decide_eq_true (hfound.2 e2))
              have hfd := True.intro
              clear hbq hc1 hs3 hs0 hg1 hx1 hx2 e e2 hfound
              cases p
              · have STEP : Hid ((A.take (k + 1)).filter (picks O false) = dk) := hid_of (by rw [filt_snoc hkl.out, ← HDK.out]; unfold picks; rw [HFD.out]; simp)
                clear hfd
                go_wp2
                go_roundw
                case rel => exact ⟨k + 1, q, xo, xc, _, _, by omega, rfl, by omega, rfl, rfl, by go_num, by rw [STEP.out], hid_of (adv_later hadv.out), hid_of (by rw [STEP.out]; exact how.out)⟩
                case measure => simp [intOf]; omega
              · have STEP : Hid ((A.take (k + 1)).filter (picks O true) = dk ++ [A[k]'hkl.out]) := hid_of (by rw [filt_snoc hkl.out, ← HDK.out]; unfold picks; rw [HFD.out]; simp)
                clear hfd
                go_wp2_with (at_builtin; ((refine wpList_app strsE rfl _ _ rfl (v := .slice xo dk.length xc) rfl (how.out.alloc _) (vx := .slice (some ⟨wr.heap.size, 0, none⟩) 1 1) rfl R1x.out (ss_one _) (by rw [ss_length, ss_len1]; have := HDL.out; omega) (by rw [ss_length, ss_len1]; have := HDL.out; omega) ?_); intro xo3 n3 c3 w3 hn3 h3; have X3 : Hid (n3 = (dk ++ [A[k]'hkl.out]).length ∧ Ow 9 w2.heap.size w2 w3 (.slice xo3 n3 c3) (ss (dk ++ [A[k]'hkl.out]))) := hid_of ⟨by rw [hn3, ss_length, ss_len1]; simp, by rw [ss_append]; exact h3⟩; clear h3 hn3))
                go_roundw
                case rel => exact ⟨k + 1, q, xo3, c3, _, _, by omega, rfl, by omega, rfl, rfl, by go_num, by rw [STEP.out, X3.out.1], hid_of (adv_later hadv.out), hid_of (by rw [STEP.out, ← X3.out.1]; exact X3.out.2)⟩
                case measure => simp [intOf]; omega
            · have t2 := eq_f hbq HBK.out e2
              have HFD : Hid (decide (A[k]'hkl.out ∈ O) = false) := hid_of (decide_eq_false (fun h => e2 (hfound.1 h)))
              have hfd := True.intro
              clear hbq hc1 hs3 hs0 hg1 hx1 hx2 e e2 hfound
              cases p
              · have STEP : Hid ((A.take (k + 1)).filter (picks O false) = dk ++ [A[k]'hkl.out]) := hid_of (by rw [filt_snoc hkl.out, ← HDK.out]; unfold picks; rw [HFD.out]; simp)
                clear hfd
                go_wp2_with (at_builtin; ((refine wpList_app strsE rfl _ _ rfl (v := .slice xo dk.length xc) rfl (how.out.alloc _) (vx := .slice (some ⟨wr.heap.size, 0, none⟩) 1 1) rfl R1x.out (ss_one _) (by rw [ss_length, ss_len1]; have := HDL.out; omega) (by rw [ss_length, ss_len1]; have := HDL.out; omega) ?_); intro xo3 n3 c3 w3 hn3 h3; have X3 : Hid (n3 = (dk ++ [A[k]'hkl.out]).length ∧ Ow 9 w2.heap.size w2 w3 (.slice xo3 n3 c3) (ss (dk ++ [A[k]'hkl.out]))) := hid_of ⟨by rw [hn3, ss_length, ss_len1]; simp, by rw [ss_append]; exact h3⟩; clear h3 hn3))
                go_roundw
                case rel => exact ⟨k + 1, q, xo3, c3, _, _, by omega, rfl, by omega, rfl, rfl, by go_num, by rw [STEP.out, X3.out.1], hid_of (adv_later hadv.out), hid_of (by rw [STEP.out, ← X3.out.1]; exact X3.out.2)⟩
                case measure => simp [intOf]; omega
              · have STEP : Hid ((A.take (k + 1)).filter (picks O true) = dk) := hid_of (by rw [filt_snoc hkl.out, ← HDK.out]; unfold picks; rw [HFD.out]; simp)
                clear hfd
                go_wp2
                go_roundw
                case rel => exact ⟨k + 1, q, xo, xc, _, _, by omega, rfl, by omega, rfl, rfl, by go_num, by rw [STEP.out], hid_of (adv_later hadv.out), hid_of (by rw [STEP.out]; exact how.out)⟩
                case measure => simp [intOf]; omega
        · have hd2 : decide (q < nO) = false := by simp; omega
          have HFD : Hid (decide (A[k]'hkl.out ∈ O) = false) := hid_of (decide_eq_false (by
            have := adv_gone hadv.out hkl.out (by rw [← HNO.out]; exact hql)
            rwa [getD_of hkl.out] at this))
          have hfd := True.intro
          cases p
          · have STEP : Hid ((A.take (k + 1)).filter (picks O false) = dk ++ [A[k]'hkl.out]) := hid_of (by rw [filt_snoc hkl.out, ← HDK.out]; unfold picks; rw [HFD.out]; simp)
            clear hfd
            go_wp2_with (at_builtin; ((refine wpList_app strsE rfl _ _ rfl (v := .slice xo dk.length xc) rfl (how.out.alloc _) (vx := .slice (some ⟨wr.heap.size, 0, none⟩) 1 1) rfl R1x.out (ss_one _) (by rw [ss_length, ss_len1]; have := HDL.out; omega) (by rw [ss_length, ss_len1]; have := HDL.out; omega) ?_); intro xo3 n3 c3 w3 hn3 h3; have X3 : Hid (n3 = (dk ++ [A[k]'hkl.out]).length ∧ Ow 9 w2.heap.size w2 w3 (.slice xo3 n3 c3) (ss (dk ++ [A[k]'hkl.out]))) := hid_of ⟨by rw [hn3, ss_length, ss_len1]; simp, by rw [ss_append]; exact h3⟩; clear h3 hn3))
            go_roundw
            case rel => exact ⟨k + 1, q, xo3, c3, _, _, by omega, rfl, by omega, rfl, rfl, by go_num, by rw [STEP.out, X3.out.1], hid_of (adv_later hadv.out), hid_of (by rw [STEP.out, ← X3.out.1]; exact X3.out.2)⟩
            case measure => simp [intOf]; omega
          · have STEP : Hid ((A.take (k + 1)).filter (picks O true) = dk) := hid_of (by rw [filt_snoc hkl.out, ← HDK.out]; unfold picks; rw [HFD.out]; simp)
            clear hfd
            go_wp2
            go_roundw
            case rel => exact ⟨k + 1, q, xo, xc, _, _, by omega, rfl, by omega, rfl, rfl, by go_num, by rw [STEP.out], hid_of (adv_later hadv.out), hid_of (by rw [STEP.out]; exact how.out)⟩
            case measure => simp [intOf]; omega
    · obtain rfl : k = nA := by omega
      have hd : decide (k < k) = false := by simp
      have HF : Hid ((A.take k).filter (picks O p) = C) := hid_of (by rw [HC.out, List.take_of_length_le (by rw [← HNA.out]; exact Nat.le_refl _)])
      go_wp2
      go_ret
      exact ⟨xo, xc, by rw [HF.out] <;> rfl, by rw [← HF.out]; exact how.out.start (Nat.le_refl _) BB.out BB.out.size⟩
end Go.Proofs.Ytpbjnbceloibnaa
