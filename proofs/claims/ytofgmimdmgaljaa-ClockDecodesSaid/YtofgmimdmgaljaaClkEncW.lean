/- ClockEncodes. -/
import Derived.Test.YtofgmimdmgaljaaClkIn
namespace Go.Proofs.Ytofgmimdmgaljaa
open Go.RowKit

theorem enc_c {ao : Option Addr} {n cap m : Nat} {l : List Tk} {w : World} (ra : TRd w (.slice ao n cap) l) (hv : VV l) (hm : (encV l).length = m) :
    Calls Try.prog 29 #[.slice ao n cap] w fun e w' => ∃ g, e = .returned (.slice (some ⟨g, 0, none⟩) m m) ∧ BR w' (.slice (some ⟨g, 0, none⟩) m m) (encV l) ∧ Below w.heap.size w w' :=
  (encode_any ao n cap l w ra hv).mono fun e w' ⟨g, k, he, h1, h2⟩ => by
    have := h1.len.1
    rw [hm] at this
    subst this
    exact ⟨g, he, h1, h2⟩
/-- append of more bytes behind the encoding. -/
theorem OB.start2 {w w' : World} {v : Value} {l : List Int} (h : OB w.heap.size w w' v l) : Below w.heap.size w w' := h.2.1

set_option maxRecDepth 100000 in
set_option maxHeartbeats 6400000 in
theorem clockEncodes_law (a0 : Option Addr) (n0 c0 : Nat) (l0 : List Tk) (a1 : Option Addr) (n1 c1 : Nat) (z1 : List Int) (cu : Int) (w : World) (w0 : TIn w a0 n0 c0 l0) (w1 : IsRow .u8 w a1 n1 c1 z1) (hcu : R64 cu) :
    Calls Try.prog 10 #[.slice a0 n0 c0, .slice a1 n1 c1, .int .i64 cu] w fun e w' => e = .returned (.bool true) ∧ Below w.heap.size w w' := by
  obtain ⟨mo, hmo, mr, hM⟩ := w1.br
  have R0 := hid_of w0.1
  have RM := hid_of hM
  have MR := hid_of mr
  have ML := hid_of hmo
  have HB := hid_of (Below.refl w.heap.size w)
  obtain ⟨b0, hb0⟩ : ∃ r, r = decide (200 < n0) := ⟨_, rfl⟩
  have L0 := hid_of hb0
  obtain ⟨v0, hv0⟩ : ∃ r, r = okV l0 := ⟨_, rfl⟩
  have V0 := hid_of hv0
  clear w0 w1 hb0 hv0 hM mr hmo hcu
  cases b0
  case true =>
    go_enter Try.func10, Try.ntmps10
    go_wp2_with (first
    | (go_at_call 12; ((with_reducible refine (awake_any w).mono ?_); (rintro e w2 ⟨rfl, h2⟩; replace R0 := hid_of (R0.out.at h2); replace RM := hid_of (RM.out.at h2); replace HB := hid_of (bel_step HB.out h2 (Nat.le_refl _)); clear h2)))
    | (go_at_call 13; ((with_reducible refine (long_c L0.out).mono ?_); (rintro e w2 ⟨rfl, rfl⟩)))
    | (go_at_call 16; ((with_reducible refine (valid_c R0.out V0.out).mono ?_); (rintro e w2 ⟨rfl, h2⟩; replace R0 := hid_of (R0.out.at h2); replace RM := hid_of (RM.out.at h2); replace HB := hid_of (bel_step HB.out h2 (Nat.le_refl _)); clear h2))))
    go_ret
    exact ⟨rfl, HB.out⟩
  cases v0
  case false =>
    go_enter Try.func10, Try.ntmps10
    go_wp2_with (first
    | (go_at_call 12; ((with_reducible refine (awake_any w).mono ?_); (rintro e w2 ⟨rfl, h2⟩; replace R0 := hid_of (R0.out.at h2); replace RM := hid_of (RM.out.at h2); replace HB := hid_of (bel_step HB.out h2 (Nat.le_refl _)); clear h2)))
    | (go_at_call 13; ((with_reducible refine (long_c L0.out).mono ?_); (rintro e w2 ⟨rfl, rfl⟩)))
    | (go_at_call 16; ((with_reducible refine (valid_c R0.out V0.out).mono ?_); (rintro e w2 ⟨rfl, h2⟩; replace R0 := hid_of (R0.out.at h2); replace RM := hid_of (RM.out.at h2); replace HB := hid_of (bel_step HB.out h2 (Nat.le_refl _)); clear h2))))
    go_ret
    exact ⟨rfl, HB.out⟩
  by_cases h1000 : 1000 < n1
  · have d : decide ((n1 : Int) > 1000) = true := by simp; omega
    clear h1000
    go_enter Try.func10, Try.ntmps10
    go_wp2_with (first
    | (go_at_call 12; ((with_reducible refine (awake_any w).mono ?_); (rintro e w2 ⟨rfl, h2⟩; replace R0 := hid_of (R0.out.at h2); replace RM := hid_of (RM.out.at h2); replace HB := hid_of (bel_step HB.out h2 (Nat.le_refl _)); clear h2)))
    | (go_at_call 13; ((with_reducible refine (long_c L0.out).mono ?_); (rintro e w2 ⟨rfl, rfl⟩)))
    | (go_at_call 16; ((with_reducible refine (valid_c R0.out V0.out).mono ?_); (rintro e w2 ⟨rfl, h2⟩; replace R0 := hid_of (R0.out.at h2); replace RM := hid_of (RM.out.at h2); replace HB := hid_of (bel_step HB.out h2 (Nat.le_refl _)); clear h2))))
    go_ret
    exact ⟨rfl, HB.out⟩
  have d : decide ((n1 : Int) > 1000) = false := by simp; omega
  have vc := (okV_iff l0).1 V0.out.symm
  have VC := hid_of vc
  have EL := encV_len vc
  obtain ⟨m, hm⟩ : ∃ m, (encV l0).length = m := ⟨_, rfl⟩
  rw [hm] at EL
  have HM := hid_of hm
  have DOK := hid_of (dcd_enc vc)
  have DMO := hid_of (fun (h : mo ≠ []) => (dcd_more vc mo).trans (if_neg h))
  have DCU := hid_of (dcd_cut vc)
  have ER := hid_of (encV_rng l0)
  have EXR : Hid (∀ y ∈ encV l0 ++ mo, 0 ≤ y ∧ y ≤ 255) := hid_of (fun y hy => (List.mem_append.1 hy).elim (ER.out y) (MR.out y))
  have EXL : Hid ((encV l0 ++ mo).length ≤ 1000000000) := hid_of (by rw [List.length_append, hm, ML.out]; omega)
  have ETR : Hid (∀ k, ∀ y ∈ (encV l0).take k, 0 ≤ y ∧ y ≤ 255) := hid_of (fun k y hy => ER.out y (List.mem_of_mem_take hy))
  have EL2 : Hid ((encV l0).length ≤ 1000000000) := hid_of (by omega)
  have ETL : Hid (∀ k, ((encV l0).take k).length ≤ 1000000000) := hid_of (fun k => by rw [List.length_take]; omega)
  have EQ : Hid (true = decide (l0 = l0)) := hid_of (decide_eq_true rfl).symm
  clear vc hm h1000
  have hcase : (cu < 0 ∨ (m : Int) ≤ cu ∨ ∃ k : Nat, cu = k ∧ k < m) ∧ (n1 = 0 ∨ 0 < n1) := by
    refine ⟨?_, by omega⟩
    by_cases h1 : cu < 0
    · exact .inl h1
    · by_cases h2 : (m : Int) ≤ cu
      · exact .inr (.inl h2)
      · exact .inr (.inr ⟨cu.toNat, by omega, by omega⟩)
  obtain ⟨hcut, hmore⟩ := hcase
  rcases hmore with h1 | h1
  · subst h1
    rcases hcut with h2 | h2 | ⟨k, rfl, h2⟩
    · have dc : decide (cu < 0) = true := by simp; exact h2
      clear h2
      go_enter Try.func10, Try.ntmps10
      go_wp2_with (first
    | (go_at_call 12; ((with_reducible refine (awake_any w).mono ?_); (rintro e w2 ⟨rfl, h2⟩; replace R0 := hid_of (R0.out.at h2); replace RM := hid_of (RM.out.at h2); replace HB := hid_of (bel_step HB.out h2 (Nat.le_refl _)); clear h2)))
    | (go_at_call 13; ((with_reducible refine (long_c L0.out).mono ?_); (rintro e w2 ⟨rfl, rfl⟩)))
    | (go_at_call 16; ((with_reducible refine (valid_c R0.out V0.out).mono ?_); (rintro e w2 ⟨rfl, h2⟩; replace R0 := hid_of (R0.out.at h2); replace RM := hid_of (RM.out.at h2); replace HB := hid_of (bel_step HB.out h2 (Nat.le_refl _)); clear h2)))
    | (go_at_call 29; ((with_reducible refine (enc_c R0.out VC.out HM.out).mono ?_); (rintro e w2 ⟨gE, rfl, h1, h2⟩; have E := hid_of h1; replace R0 := hid_of (R0.out.at h2); replace RM := hid_of (RM.out.at h2); replace HB := hid_of (bel_step HB.out h2 (Nat.le_refl _)); clear h2; clear h1)))
    | (go_at_call 30; ((with_reducible refine (dec_ok E.out ER.out EL2.out DOK.out).mono ?_); (rintro e w2 ⟨xD, kD, cD, rfl, h1, h2⟩; have D := hid_of h1; replace R0 := hid_of (R0.out.at h2); replace RM := hid_of (RM.out.at h2); replace E := hid_of (E.out.at h2); replace HB := hid_of (bel_step HB.out h2 (Nat.le_refl _)); clear h2; clear h1)))
    | (go_at_call 20; ((with_reducible refine (same_c D.out R0.out (decide_eq_true rfl).symm).mono ?_); (rintro e w2 ⟨rfl, h2⟩; replace RM := hid_of (RM.out.at h2); replace E := hid_of (E.out.at h2); replace HB := hid_of (bel_step HB.out h2 (Nat.le_refl _)); clear h2))))
      go_ret
      exact ⟨rfl, HB.out⟩
    · have dc : decide (cu < 0) = false := by simp; omega
      have dm : decide (cu ≥ (m : Int)) = true := by simp; exact h2
      clear h2
      go_enter Try.func10, Try.ntmps10
      go_wp2_with (first
    | (go_at_call 12; ((with_reducible refine (awake_any w).mono ?_); (rintro e w2 ⟨rfl, h2⟩; replace R0 := hid_of (R0.out.at h2); replace RM := hid_of (RM.out.at h2); replace HB := hid_of (bel_step HB.out h2 (Nat.le_refl _)); clear h2)))
    | (go_at_call 13; ((with_reducible refine (long_c L0.out).mono ?_); (rintro e w2 ⟨rfl, rfl⟩)))
    | (go_at_call 16; ((with_reducible refine (valid_c R0.out V0.out).mono ?_); (rintro e w2 ⟨rfl, h2⟩; replace R0 := hid_of (R0.out.at h2); replace RM := hid_of (RM.out.at h2); replace HB := hid_of (bel_step HB.out h2 (Nat.le_refl _)); clear h2)))
    | (go_at_call 29; ((with_reducible refine (enc_c R0.out VC.out HM.out).mono ?_); (rintro e w2 ⟨gE, rfl, h1, h2⟩; have E := hid_of h1; replace R0 := hid_of (R0.out.at h2); replace RM := hid_of (RM.out.at h2); replace HB := hid_of (bel_step HB.out h2 (Nat.le_refl _)); clear h2; clear h1)))
    | (go_at_call 30; ((with_reducible refine (dec_ok E.out ER.out EL2.out DOK.out).mono ?_); (rintro e w2 ⟨xD, kD, cD, rfl, h1, h2⟩; have D := hid_of h1; replace R0 := hid_of (R0.out.at h2); replace RM := hid_of (RM.out.at h2); replace E := hid_of (E.out.at h2); replace HB := hid_of (bel_step HB.out h2 (Nat.le_refl _)); clear h2; clear h1)))
    | (go_at_call 20; ((with_reducible refine (same_c D.out R0.out (decide_eq_true rfl).symm).mono ?_); (rintro e w2 ⟨rfl, h2⟩; replace RM := hid_of (RM.out.at h2); replace E := hid_of (E.out.at h2); replace HB := hid_of (bel_step HB.out h2 (Nat.le_refl _)); clear h2))))
      go_ret
      exact ⟨rfl, HB.out⟩
    · have dm : decide ((k : Int) ≥ (m : Int)) = false := by simp; omega
      have DC := hid_of (DCU.out k (by rw [HM.out]; exact h2))
      have hk1 : (0 : Int) ≤ (k : Int) := by omega
      have hk2 : (k : Int) ≤ (m : Int) := by omega
      go_enter Try.func10, Try.ntmps10
      go_wp2_with (first
    | (go_at_call 12; ((with_reducible refine (awake_any w).mono ?_); (rintro e w2 ⟨rfl, h2⟩; replace R0 := hid_of (R0.out.at h2); replace RM := hid_of (RM.out.at h2); replace HB := hid_of (bel_step HB.out h2 (Nat.le_refl _)); clear h2)))
    | (go_at_call 13; ((with_reducible refine (long_c L0.out).mono ?_); (rintro e w2 ⟨rfl, rfl⟩)))
    | (go_at_call 16; ((with_reducible refine (valid_c R0.out V0.out).mono ?_); (rintro e w2 ⟨rfl, h2⟩; replace R0 := hid_of (R0.out.at h2); replace RM := hid_of (RM.out.at h2); replace HB := hid_of (bel_step HB.out h2 (Nat.le_refl _)); clear h2)))
    | (go_at_call 29; ((with_reducible refine (enc_c R0.out VC.out HM.out).mono ?_); (rintro e w2 ⟨gE, rfl, h1, h2⟩; have E := hid_of h1; replace R0 := hid_of (R0.out.at h2); replace RM := hid_of (RM.out.at h2); replace HB := hid_of (bel_step HB.out h2 (Nat.le_refl _)); clear h2; clear h1)))
    | (go_at_call 30; (first
      | ((with_reducible refine (dec_ok E.out ER.out EL2.out DOK.out).mono ?_); (rintro e w2 ⟨xD, kD, cD, rfl, h1, h2⟩; have D := hid_of h1; replace R0 := hid_of (R0.out.at h2); replace RM := hid_of (RM.out.at h2); replace E := hid_of (E.out.at h2); replace HB := hid_of (bel_step HB.out h2 (Nat.le_refl _)); clear h2; clear h1))
      | ((with_reducible refine (dec_no (E.out.take k (by omega)) (ETR.out k) (ETL.out k) DC.out).mono ?_); (rintro e w2 ⟨x9, k9, c9, rfl, h2⟩; replace HB := hid_of (bel_step HB.out h2 (Nat.le_refl _)); clear h2))))
    | (go_at_call 20; ((with_reducible refine (same_c D.out R0.out (decide_eq_true rfl).symm).mono ?_); (rintro e w2 ⟨rfl, h2⟩; replace RM := hid_of (RM.out.at h2); replace E := hid_of (E.out.at h2); replace HB := hid_of (bel_step HB.out h2 (Nat.le_refl _)); clear h2))))
      go_ret
      exact ⟨rfl, HB.out⟩
  · have dp : decide ((n1 : Int) > 0) = true := by simp; omega
    have DM := hid_of (DMO.out (fun e => by have := ML.out; rw [e] at this; simp at this; omega))
    rcases hcut with h2 | h2 | ⟨k, rfl, h2⟩
    · have dc : decide (cu < 0) = true := by simp; exact h2
      clear h2
      go_enter Try.func10, Try.ntmps10
      go_wp2_with (first
    | (go_at_call 12; ((with_reducible refine (awake_any w).mono ?_); (rintro e w2 ⟨rfl, h2⟩; replace R0 := hid_of (R0.out.at h2); replace RM := hid_of (RM.out.at h2); replace HB := hid_of (bel_step HB.out h2 (Nat.le_refl _)); clear h2)))
    | (go_at_call 13; ((with_reducible refine (long_c L0.out).mono ?_); (rintro e w2 ⟨rfl, rfl⟩)))
    | (go_at_call 16; ((with_reducible refine (valid_c R0.out V0.out).mono ?_); (rintro e w2 ⟨rfl, h2⟩; replace R0 := hid_of (R0.out.at h2); replace RM := hid_of (RM.out.at h2); replace HB := hid_of (bel_step HB.out h2 (Nat.le_refl _)); clear h2)))
    | (go_at_call 29; ((with_reducible refine (enc_c R0.out VC.out HM.out).mono ?_); (rintro e w2 ⟨gE, rfl, h1, h2⟩; have E := hid_of h1; replace R0 := hid_of (R0.out.at h2); replace RM := hid_of (RM.out.at h2); replace HB := hid_of (bel_step HB.out h2 (Nat.le_refl _)); clear h2; clear h1)))
    | (go_at_call 30; (first
      | ((with_reducible refine (dec_ok E.out ER.out EL2.out DOK.out).mono ?_); (rintro e w2 ⟨xD, kD, cD, rfl, h1, h2⟩; have D := hid_of h1; replace R0 := hid_of (R0.out.at h2); replace RM := hid_of (RM.out.at h2); replace E := hid_of (E.out.at h2); replace HB := hid_of (bel_step HB.out h2 (Nat.le_refl _)); clear h2; clear h1))
      | ((with_reducible refine (dec_no Y.out.br EXR.out EXL.out DM.out).mono ?_); (rintro e w2 ⟨x9, k9, c9, rfl, h2⟩; replace E := hid_of (E.out.at h2); replace HB := hid_of (bel_step HB.out h2 (Nat.le_refl _)); clear h2))))
    | (go_at_call 20; ((with_reducible refine (same_c D.out R0.out (decide_eq_true rfl).symm).mono ?_); (rintro e w2 ⟨rfl, h2⟩; replace RM := hid_of (RM.out.at h2); replace E := hid_of (E.out.at h2); replace HB := hid_of (bel_step HB.out h2 (Nat.le_refl _)); clear h2)))
    | (at_builtin; ((refine wpList_appb rfl _ _ rfl (v := .slice (some ⟨w2.heap.size, 0, none⟩) 0 0) rfl (ob_empty w2) (vx := .slice (some ⟨gE, 0, none⟩) m m) rfl (E.out.at (bel_alloc w2 _)) (by have := EL2.out; simp; omega) ?_); (intro xX kX cX w3 hn h1; have X : Hid (OB w2.heap.size w2 w3 (.slice xX kX cX) (encV l0)) := hid_of h1; have RM3 := hid_of (RM.out.at h1.2.1); clear h1 hn)))
    | (at_builtin; ((refine wpList_appb rfl _ _ rfl (v := .slice xX kX cX) rfl X.out (vx := .slice a1 n1 c1) rfl RM3.out (by have := EXL.out; rw [List.length_append] at this; exact this) ?_); (intro xY kY cY w4 hn h1; have Y := hid_of h1; have h2 := h1.2.1; replace E := hid_of (E.out.at h2); replace HB := hid_of (bel_step HB.out h2 (Nat.le_refl _)); clear h1 hn h2))))
      go_ret
      exact ⟨rfl, HB.out⟩
    · have dc : decide (cu < 0) = false := by simp; omega
      have dm : decide (cu ≥ (m : Int)) = true := by simp; exact h2
      clear h2
      go_enter Try.func10, Try.ntmps10
      go_wp2_with (first
    | (go_at_call 12; ((with_reducible refine (awake_any w).mono ?_); (rintro e w2 ⟨rfl, h2⟩; replace R0 := hid_of (R0.out.at h2); replace RM := hid_of (RM.out.at h2); replace HB := hid_of (bel_step HB.out h2 (Nat.le_refl _)); clear h2)))
    | (go_at_call 13; ((with_reducible refine (long_c L0.out).mono ?_); (rintro e w2 ⟨rfl, rfl⟩)))
    | (go_at_call 16; ((with_reducible refine (valid_c R0.out V0.out).mono ?_); (rintro e w2 ⟨rfl, h2⟩; replace R0 := hid_of (R0.out.at h2); replace RM := hid_of (RM.out.at h2); replace HB := hid_of (bel_step HB.out h2 (Nat.le_refl _)); clear h2)))
    | (go_at_call 29; ((with_reducible refine (enc_c R0.out VC.out HM.out).mono ?_); (rintro e w2 ⟨gE, rfl, h1, h2⟩; have E := hid_of h1; replace R0 := hid_of (R0.out.at h2); replace RM := hid_of (RM.out.at h2); replace HB := hid_of (bel_step HB.out h2 (Nat.le_refl _)); clear h2; clear h1)))
    | (go_at_call 30; (first
      | ((with_reducible refine (dec_ok E.out ER.out EL2.out DOK.out).mono ?_); (rintro e w2 ⟨xD, kD, cD, rfl, h1, h2⟩; have D := hid_of h1; replace R0 := hid_of (R0.out.at h2); replace RM := hid_of (RM.out.at h2); replace E := hid_of (E.out.at h2); replace HB := hid_of (bel_step HB.out h2 (Nat.le_refl _)); clear h2; clear h1))
      | ((with_reducible refine (dec_no Y.out.br EXR.out EXL.out DM.out).mono ?_); (rintro e w2 ⟨x9, k9, c9, rfl, h2⟩; replace E := hid_of (E.out.at h2); replace HB := hid_of (bel_step HB.out h2 (Nat.le_refl _)); clear h2))))
    | (go_at_call 20; ((with_reducible refine (same_c D.out R0.out (decide_eq_true rfl).symm).mono ?_); (rintro e w2 ⟨rfl, h2⟩; replace RM := hid_of (RM.out.at h2); replace E := hid_of (E.out.at h2); replace HB := hid_of (bel_step HB.out h2 (Nat.le_refl _)); clear h2)))
    | (at_builtin; ((refine wpList_appb rfl _ _ rfl (v := .slice (some ⟨w2.heap.size, 0, none⟩) 0 0) rfl (ob_empty w2) (vx := .slice (some ⟨gE, 0, none⟩) m m) rfl (E.out.at (bel_alloc w2 _)) (by have := EL2.out; simp; omega) ?_); (intro xX kX cX w3 hn h1; have X : Hid (OB w2.heap.size w2 w3 (.slice xX kX cX) (encV l0)) := hid_of h1; have RM3 := hid_of (RM.out.at h1.2.1); clear h1 hn)))
    | (at_builtin; ((refine wpList_appb rfl _ _ rfl (v := .slice xX kX cX) rfl X.out (vx := .slice a1 n1 c1) rfl RM3.out (by have := EXL.out; rw [List.length_append] at this; exact this) ?_); (intro xY kY cY w4 hn h1; have Y := hid_of h1; have h2 := h1.2.1; replace E := hid_of (E.out.at h2); replace HB := hid_of (bel_step HB.out h2 (Nat.le_refl _)); clear h1 hn h2))))
      go_ret
      exact ⟨rfl, HB.out⟩
    · have dm : decide ((k : Int) ≥ (m : Int)) = false := by simp; omega
      have DC := hid_of (DCU.out k (by rw [HM.out]; exact h2))
      have hk1 : (0 : Int) ≤ (k : Int) := by omega
      have hk2 : (k : Int) ≤ (m : Int) := by omega
      go_enter Try.func10, Try.ntmps10
      go_wp2_with (first
    | (go_at_call 12; ((with_reducible refine (awake_any w).mono ?_); (rintro e w2 ⟨rfl, h2⟩; replace R0 := hid_of (R0.out.at h2); replace RM := hid_of (RM.out.at h2); replace HB := hid_of (bel_step HB.out h2 (Nat.le_refl _)); clear h2)))
    | (go_at_call 13; ((with_reducible refine (long_c L0.out).mono ?_); (rintro e w2 ⟨rfl, rfl⟩)))
    | (go_at_call 16; ((with_reducible refine (valid_c R0.out V0.out).mono ?_); (rintro e w2 ⟨rfl, h2⟩; replace R0 := hid_of (R0.out.at h2); replace RM := hid_of (RM.out.at h2); replace HB := hid_of (bel_step HB.out h2 (Nat.le_refl _)); clear h2)))
    | (go_at_call 29; ((with_reducible refine (enc_c R0.out VC.out HM.out).mono ?_); (rintro e w2 ⟨gE, rfl, h1, h2⟩; have E := hid_of h1; replace R0 := hid_of (R0.out.at h2); replace RM := hid_of (RM.out.at h2); replace HB := hid_of (bel_step HB.out h2 (Nat.le_refl _)); clear h2; clear h1)))
    | (go_at_call 30; (first
      | ((with_reducible refine (dec_ok E.out ER.out EL2.out DOK.out).mono ?_); (rintro e w2 ⟨xD, kD, cD, rfl, h1, h2⟩; have D := hid_of h1; replace R0 := hid_of (R0.out.at h2); replace RM := hid_of (RM.out.at h2); replace E := hid_of (E.out.at h2); replace HB := hid_of (bel_step HB.out h2 (Nat.le_refl _)); clear h2; clear h1))
      | ((with_reducible refine (dec_no Y.out.br EXR.out EXL.out DM.out).mono ?_); (rintro e w2 ⟨x9, k9, c9, rfl, h2⟩; replace E := hid_of (E.out.at h2); replace HB := hid_of (bel_step HB.out h2 (Nat.le_refl _)); clear h2))
      | ((with_reducible refine (dec_no (E.out.take k (by omega)) (ETR.out k) (ETL.out k) DC.out).mono ?_); (rintro e w2 ⟨x9, k9, c9, rfl, h2⟩; replace HB := hid_of (bel_step HB.out h2 (Nat.le_refl _)); clear h2))))
    | (go_at_call 20; ((with_reducible refine (same_c D.out R0.out (decide_eq_true rfl).symm).mono ?_); (rintro e w2 ⟨rfl, h2⟩; replace RM := hid_of (RM.out.at h2); replace E := hid_of (E.out.at h2); replace HB := hid_of (bel_step HB.out h2 (Nat.le_refl _)); clear h2)))
    | (at_builtin; ((refine wpList_appb rfl _ _ rfl (v := .slice (some ⟨w2.heap.size, 0, none⟩) 0 0) rfl (ob_empty w2) (vx := .slice (some ⟨gE, 0, none⟩) m m) rfl (E.out.at (bel_alloc w2 _)) (by have := EL2.out; simp; omega) ?_); (intro xX kX cX w3 hn h1; have X : Hid (OB w2.heap.size w2 w3 (.slice xX kX cX) (encV l0)) := hid_of h1; have RM3 := hid_of (RM.out.at h1.2.1); clear h1 hn)))
    | (at_builtin; ((refine wpList_appb rfl _ _ rfl (v := .slice xX kX cX) rfl X.out (vx := .slice a1 n1 c1) rfl RM3.out (by have := EXL.out; rw [List.length_append] at this; exact this) ?_); (intro xY kY cY w4 hn h1; have Y := hid_of h1; have h2 := h1.2.1; replace E := hid_of (E.out.at h2); replace HB := hid_of (bel_step HB.out h2 (Nat.le_refl _)); clear h1 hn h2))))
      go_ret
      exact ⟨rfl, HB.out⟩
end Go.Proofs.Ytofgmimdmgaljaa
