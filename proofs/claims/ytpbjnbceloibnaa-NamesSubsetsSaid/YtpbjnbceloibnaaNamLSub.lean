/- The law of subsets. Bounds on sizes alone. -/
import Derived.Test.YtpbjnbceloibnaaNamLAlg
namespace Go.Proofs.Ytpbjnbceloibnaa
open Go.RowKit

theorem sub1 (a b : List Str) : decide (setOf (a ++ b) = setOf b) = subB a b := by
  rw [Bool.eq_iff_iff, decide_eq_true_eq, subB_iff]
  constructor
  · intro h x hx; rw [← setOf_mem b, ← h, setOf_mem]; exact List.mem_append_left _ hx
  · intro h; exact setOf_congr (fun x => by rw [List.mem_append]; exact ⟨fun hx => hx.elim (h x) id, .inr⟩)
theorem sub2 (a b : List Str) : decide (inter a b = setOf a) = subB a b := by
  rw [Bool.eq_iff_iff, decide_eq_true_eq, subB_iff]
  constructor
  · intro h x hx; rw [← setOf_mem a, ← h, inter_mem] at hx; exact hx.2
  · intro h; exact ss_ext (chosen_ss a b true) (setOf_ss a) (fun x => by rw [inter_mem, setOf_mem]; exact ⟨fun hx => hx.1, fun hx => ⟨hx, h x hx⟩⟩)
set_option maxRecDepth 100000 in
set_option maxHeartbeats 6400000 in
theorem sub_law (a0 : Option Addr) (len0 cap0 : Nat) (a1 : Option Addr) (len1 cap1 : Nat) (l0 l1 : List Str) (w : World) (RX0 : Rd w (.slice a0 len0 cap0) (ss l0)) (RX1 : Rd w (.slice a1 len1 cap1) (ss l1)) :
    Calls Try.prog 6 #[.slice a0 len0 cap0, .slice a1 len1 cap1] w fun e w' => e = .returned (.bool true) ∧ Below w.heap.size w w' := by
  obtain ⟨s0, hs0⟩ : ∃ s, s = smallB l0 := ⟨_, rfl⟩
  obtain ⟨s1, hs1⟩ : ∃ s, s = smallB l1 := ⟨_, rfl⟩
  have HS0 : Hid (∀ wx, Rd wx (.slice a0 len0 cap0) (ss l0) → Calls Try.prog 15 #[.slice a0 len0 cap0] wx fun e w' => e = .returned (.bool s0) ∧ wx = w') := hid_of (fun wx q => by rw [hs0]; exact small_any a0 len0 cap0 l0 wx q)
  have HS1 : Hid (∀ wx, Rd wx (.slice a1 len1 cap1) (ss l1) → Calls Try.prog 15 #[.slice a1 len1 cap1] wx fun e w' => e = .returned (.bool s1) ∧ wx = w') := hid_of (fun wx q => by rw [hs1]; exact small_any a1 len1 cap1 l1 wx q)
  have RI0 := hid_of RX0
  have RI1 := hid_of RX1
  have BC := hid_of (Below.refl w.heap.size w)
  have HSM0 := hid_of hs0
  have HSM1 := hid_of hs1
  clear hs0 RX0 hs1 RX1
  cases s0
  · go_enter Try.func6, Try.ntmps6
    go_wp2_with (first
      | (go_at_call 15; ((with_reducible refine (HS0.out w RI0.out).mono ?_); (rintro ee w' ⟨rfl, rfl⟩)))
      | (go_at_call 12; ((with_reducible refine (awake_any w).mono ?_); (rintro ee w1 ⟨rfl, h1⟩; replace RI0 := hid_of (RI0.out.at h1); replace RI1 := hid_of (RI1.out.at h1); replace BC := hid_of (step_b BC.out h1 BC.out.size); clear h1))))
    go_ret
    exact ⟨rfl, BC.out⟩
  · have SM0 : Hid (l0.length ≤ 30 ∧ ∀ x ∈ l0, x.length ≤ 40) := hid_of (smallB_iff.1 HSM0.out.symm)
    cases s1
    · go_enter Try.func6, Try.ntmps6
      go_wp2_with (first
        | (go_at_call 15; (first | ((with_reducible refine (HS0.out w RI0.out).mono ?_); (rintro ee w' ⟨rfl, rfl⟩)) | ((with_reducible refine (HS1.out w RI1.out).mono ?_); (rintro ee w' ⟨rfl, rfl⟩))))
        | (go_at_call 12; ((with_reducible refine (awake_any w).mono ?_); (rintro ee w1 ⟨rfl, h1⟩; replace RI0 := hid_of (RI0.out.at h1); replace RI1 := hid_of (RI1.out.at h1); replace BC := hid_of (step_b BC.out h1 BC.out.size); clear h1))))
      go_ret
      exact ⟨rfl, BC.out⟩
    · have SM1 : Hid (l1.length ≤ 30 ∧ ∀ x ∈ l1, x.length ≤ 40) := hid_of (smallB_iff.1 HSM1.out.symm)
      obtain ⟨q, hq⟩ : ∃ q, q = subB l0 l1 := ⟨_, rfl⟩
      have H50 : Hid (∀ (wx : World) , Rd wx (.slice a0 len0 cap0) (ss l0) → Rd wx (.slice a1 len1 cap1) (ss l1) → Calls Try.prog 26 #[.slice a0 len0 cap0, .slice a1 len1 cap1] wx fun e w' => e = .returned (.bool (q)) ∧ Below wx.heap.size wx w') := hid_of (fun wx  q0 q1 => by rw [hq]; exact subset_any _ _ _ _ _ _ _ _ wx q0 q1 (by have := SM0.out.1; unfold big; omega) (by have := SM1.out.1; unfold big; omega))
      obtain ⟨L1, hL1⟩ : ∃ L, L = setOf (l0 ++ l1) := ⟨_, rfl⟩
      have HB1 : Hid (L1.length ≤ 1000) := hid_of (by rw [hL1]; exact Nat.le_trans (setOf_le _) (by rw [List.length_append]; have := SM0.out.1; have := SM1.out.1; omega))
      obtain ⟨n1, hn1⟩ : ∃ n, n = L1.length := ⟨_, rfl⟩
      have H1 : Hid (∀ (wx : World) , Rd wx (.slice a0 len0 cap0) (ss l0) → Rd wx (.slice a1 len1 cap1) (ss l1) → Calls Try.prog 18 #[.slice a0 len0 cap0, .slice a1 len1 cap1] wx fun e w' => ∃ xo xc, e = .returned (.slice xo n1 xc) ∧ Ow 9 wx.heap.size wx w' (.slice xo n1 xc) (ss L1)) := hid_of (fun wx  q0 q1 => by rw [hn1, hL1]; exact union_any _ _ _ _ _ _ _ _ wx q0 q1 (by have := SM0.out.1; omega) (by have := SM1.out.1; omega))
      have HT_1 : Hid (L1.length ≤ 60) := hid_of (by rw [hL1]; exact Nat.le_trans (setOf_le _) (by rw [List.length_append]; have := SM0.out.1; have := SM1.out.1; omega))
      obtain ⟨L2, hL2⟩ : ∃ L, L = setOf l1 := ⟨_, rfl⟩
      have HB2 : Hid (L2.length ≤ 1000) := hid_of (by rw [hL2]; exact Nat.le_trans (setOf_le _) (by have := SM1.out.1; omega))
      obtain ⟨n2, hn2⟩ : ∃ n, n = L2.length := ⟨_, rfl⟩
      have H2 : Hid (∀ (wx : World) , Rd wx (.slice a1 len1 cap1) (ss l1) → Calls Try.prog 17 #[.slice a1 len1 cap1] wx fun e w' => ∃ xo xc, e = .returned (.slice xo n2 xc) ∧ Ow 9 wx.heap.size wx w' (.slice xo n2 xc) (ss L2)) := hid_of (fun wx  q0 => by rw [hn2, hL2]; exact of_any _ _ _ _ wx q0 (by have := SM1.out.1; unfold big; omega))
      have HT_2 : Hid (L2.length ≤ 30) := hid_of (by rw [hL2]; exact Nat.le_trans (setOf_le _) (by have := SM1.out.1; omega))
      have H51 : Hid (∀ (wx : World) (xo1 : Option Addr) (xc1 : Nat) (xo2 : Option Addr) (xc2 : Nat), Rd wx (.slice xo1 n1 xc1) (ss L1) → Rd wx (.slice xo2 n2 xc2) (ss L2) → Calls Try.prog 25 #[.slice xo1 n1 xc1, .slice xo2 n2 xc2] wx fun e w' => e = .returned (.bool (q)) ∧ Below wx.heap.size wx w') := hid_of (fun wx xo1 xc1 xo2 xc2 q0 q1 => rsame_q (q) _ _ _ _ _ _ _ _ wx q0 q1 (by rw [hL1, hL2, hq]; exact sub1 _ _))
      obtain ⟨L3, hL3⟩ : ∃ L, L = inter l0 l1 := ⟨_, rfl⟩
      have HB3 : Hid (L3.length ≤ 1000) := hid_of (by rw [hL3]; exact Nat.le_trans (inter_le _ _) (by have := SM0.out.1; omega))
      obtain ⟨n3, hn3⟩ : ∃ n, n = L3.length := ⟨_, rfl⟩
      have H3 : Hid (∀ (wx : World) , Rd wx (.slice a0 len0 cap0) (ss l0) → Rd wx (.slice a1 len1 cap1) (ss l1) → Calls Try.prog 19 #[.slice a0 len0 cap0, .slice a1 len1 cap1] wx fun e w' => ∃ xo xc, e = .returned (.slice xo n3 xc) ∧ Ow 9 wx.heap.size wx w' (.slice xo n3 xc) (ss L3)) := hid_of (fun wx  q0 q1 => by rw [hn3, hL3]; exact inter_any _ _ _ _ _ _ _ _ wx q0 q1 (by have := SM0.out.1; unfold big; omega) (by have := SM1.out.1; unfold big; omega))
      have HT_3 : Hid (L3.length ≤ 30) := hid_of (by rw [hL3]; exact Nat.le_trans (inter_le _ _) (by have := SM0.out.1; omega))
      obtain ⟨L4, hL4⟩ : ∃ L, L = setOf l0 := ⟨_, rfl⟩
      have HB4 : Hid (L4.length ≤ 1000) := hid_of (by rw [hL4]; exact Nat.le_trans (setOf_le _) (by have := SM0.out.1; omega))
      obtain ⟨n4, hn4⟩ : ∃ n, n = L4.length := ⟨_, rfl⟩
      have H4 : Hid (∀ (wx : World) , Rd wx (.slice a0 len0 cap0) (ss l0) → Calls Try.prog 17 #[.slice a0 len0 cap0] wx fun e w' => ∃ xo xc, e = .returned (.slice xo n4 xc) ∧ Ow 9 wx.heap.size wx w' (.slice xo n4 xc) (ss L4)) := hid_of (fun wx  q0 => by rw [hn4, hL4]; exact of_any _ _ _ _ wx q0 (by have := SM0.out.1; unfold big; omega))
      have HT_4 : Hid (L4.length ≤ 30) := hid_of (by rw [hL4]; exact Nat.le_trans (setOf_le _) (by have := SM0.out.1; omega))
      have H52 : Hid (∀ (wx : World) (xo3 : Option Addr) (xc3 : Nat) (xo4 : Option Addr) (xc4 : Nat), Rd wx (.slice xo3 n3 xc3) (ss L3) → Rd wx (.slice xo4 n4 xc4) (ss L4) → Calls Try.prog 25 #[.slice xo3 n3 xc3, .slice xo4 n4 xc4] wx fun e w' => e = .returned (.bool (q)) ∧ Below wx.heap.size wx w') := hid_of (fun wx xo3 xc3 xo4 xc4 q0 q1 => rsame_q (q) _ _ _ _ _ _ _ _ wx q0 q1 (by rw [hL3, hL4, hq]; exact sub2 _ _))
      obtain ⟨L5, hL5⟩ : ∃ L, L = diff l0 l1 := ⟨_, rfl⟩
      have HB5 : Hid (L5.length ≤ 1000) := hid_of (by rw [hL5]; exact Nat.le_trans (diff_le _ _) (by have := SM0.out.1; omega))
      obtain ⟨n5, hn5⟩ : ∃ n, n = L5.length := ⟨_, rfl⟩
      have H5 : Hid (∀ (wx : World) , Rd wx (.slice a0 len0 cap0) (ss l0) → Rd wx (.slice a1 len1 cap1) (ss l1) → Calls Try.prog 20 #[.slice a0 len0 cap0, .slice a1 len1 cap1] wx fun e w' => ∃ xo xc, e = .returned (.slice xo n5 xc) ∧ Ow 9 wx.heap.size wx w' (.slice xo n5 xc) (ss L5)) := hid_of (fun wx  q0 q1 => by rw [hn5, hL5]; exact minus_any _ _ _ _ _ _ _ _ wx q0 q1 (by have := SM0.out.1; unfold big; omega) (by have := SM1.out.1; unfold big; omega))
      have HT_5 : Hid (L5.length ≤ 30) := hid_of (by rw [hL5]; exact Nat.le_trans (diff_le _ _) (by have := SM0.out.1; omega))
      have HZ : Hid (n5 = 0 ↔ q = true) := hid_of (by rw [hn5, hL5, hq]; exact diff_zero)
      have h59 : n5 ≤ 1000 := by rw [hn5]; exact HB5.out
      clear hL1 hn1 hL2 hn2 hL3 hn3 hL4 hn4 hL5 hn5 hq
      cases q
      · have t1 : ((n5 : Int) == 0) = false := by have := HZ.out; simp at this ⊢; omega
        have t2 : (n5 == 0) = false := by have := HZ.out; simp at this ⊢; omega
        go_enter Try.func6, Try.ntmps6
        go_wp2_with (first
          | (go_at_call 15; (first | ((with_reducible refine (HS0.out w RI0.out).mono ?_); (rintro ee w' ⟨rfl, rfl⟩)) | ((with_reducible refine (HS1.out w RI1.out).mono ?_); (rintro ee w' ⟨rfl, rfl⟩))))
          | (go_at_call 26; ((with_reducible refine (H50.out w  RI0.out RI1.out).mono ?_); (rintro ee w1 ⟨rfl, h1⟩; replace RI0 := hid_of (RI0.out.at h1); replace RI1 := hid_of (RI1.out.at h1); replace BC := hid_of (step_b BC.out h1 BC.out.size); clear h1)))
          | (go_at_call 12; ((with_reducible refine (awake_any w1).mono ?_); (rintro ee w2 ⟨rfl, h1⟩; replace RI0 := hid_of (RI0.out.at h1); replace RI1 := hid_of (RI1.out.at h1); replace BC := hid_of (step_b BC.out h1 BC.out.size); clear h1)))
          | (go_at_call 18; ((with_reducible refine (H1.out w2  RI0.out RI1.out).mono ?_); (rintro ee w3 ⟨xo1, xc1, rfl, h1⟩; replace RI0 := hid_of (RI0.out.at h1.bel); replace RI1 := hid_of (RI1.out.at h1.bel); replace BC := hid_of (step_b BC.out h1.bel BC.out.size); have R1 := hid_of (h1.rd (by rw [ss_length]; have := HB1.out; omega)); clear h1)))
          | (go_at_call 17; (first | ((with_reducible refine (H2.out w3  RI1.out).mono ?_); (rintro ee w4 ⟨xo2, xc2, rfl, h1⟩; replace RI0 := hid_of (RI0.out.at h1.bel); replace RI1 := hid_of (RI1.out.at h1.bel); replace R1 := hid_of (R1.out.at h1.bel); replace BC := hid_of (step_b BC.out h1.bel BC.out.size); have R2 := hid_of (h1.rd (by rw [ss_length]; have := HB2.out; omega)); clear h1)) | ((with_reducible refine (H4.out w6  RI0.out).mono ?_); (rintro ee w7 ⟨xo4, xc4, rfl, h1⟩; replace RI0 := hid_of (RI0.out.at h1.bel); replace RI1 := hid_of (RI1.out.at h1.bel); replace R1 := hid_of (R1.out.at h1.bel); replace R2 := hid_of (R2.out.at h1.bel); replace R3 := hid_of (R3.out.at h1.bel); replace BC := hid_of (step_b BC.out h1.bel BC.out.size); have R4 := hid_of (h1.rd (by rw [ss_length]; have := HB4.out; omega)); clear h1))))
          | (go_at_call 25; (first | ((with_reducible refine (H51.out w4 xo1 xc1 xo2 xc2 R1.out R2.out).mono ?_); (rintro ee w5 ⟨rfl, h1⟩; replace RI0 := hid_of (RI0.out.at h1); replace RI1 := hid_of (RI1.out.at h1); replace R1 := hid_of (R1.out.at h1); replace R2 := hid_of (R2.out.at h1); replace BC := hid_of (step_b BC.out h1 BC.out.size); clear h1)) | ((with_reducible refine (H52.out w7 xo3 xc3 xo4 xc4 R3.out R4.out).mono ?_); (rintro ee w8 ⟨rfl, h1⟩; replace RI0 := hid_of (RI0.out.at h1); replace RI1 := hid_of (RI1.out.at h1); replace R1 := hid_of (R1.out.at h1); replace R2 := hid_of (R2.out.at h1); replace R3 := hid_of (R3.out.at h1); replace R4 := hid_of (R4.out.at h1); replace BC := hid_of (step_b BC.out h1 BC.out.size); clear h1))))
          | (go_at_call 19; ((with_reducible refine (H3.out w5  RI0.out RI1.out).mono ?_); (rintro ee w6 ⟨xo3, xc3, rfl, h1⟩; replace RI0 := hid_of (RI0.out.at h1.bel); replace RI1 := hid_of (RI1.out.at h1.bel); replace R1 := hid_of (R1.out.at h1.bel); replace R2 := hid_of (R2.out.at h1.bel); replace BC := hid_of (step_b BC.out h1.bel BC.out.size); have R3 := hid_of (h1.rd (by rw [ss_length]; have := HB3.out; omega)); clear h1)))
          | (go_at_call 20; ((with_reducible refine (H5.out w8  RI0.out RI1.out).mono ?_); (rintro ee w9 ⟨xo5, xc5, rfl, h1⟩; replace RI0 := hid_of (RI0.out.at h1.bel); replace RI1 := hid_of (RI1.out.at h1.bel); replace R1 := hid_of (R1.out.at h1.bel); replace R2 := hid_of (R2.out.at h1.bel); replace R3 := hid_of (R3.out.at h1.bel); replace R4 := hid_of (R4.out.at h1.bel); replace BC := hid_of (step_b BC.out h1.bel BC.out.size); have R5 := hid_of (h1.rd (by rw [ss_length]; have := HB5.out; omega)); clear h1))))
        go_ret
        exact ⟨rfl, BC.out⟩
      · have t1 : ((n5 : Int) == 0) = true := by have := HZ.out; simp at this ⊢; omega
        have t2 : (n5 == 0) = true := by have := HZ.out; simp at this ⊢; omega
        go_enter Try.func6, Try.ntmps6
        go_wp2_with (first
          | (go_at_call 15; (first | ((with_reducible refine (HS0.out w RI0.out).mono ?_); (rintro ee w' ⟨rfl, rfl⟩)) | ((with_reducible refine (HS1.out w RI1.out).mono ?_); (rintro ee w' ⟨rfl, rfl⟩))))
          | (go_at_call 26; ((with_reducible refine (H50.out w  RI0.out RI1.out).mono ?_); (rintro ee w1 ⟨rfl, h1⟩; replace RI0 := hid_of (RI0.out.at h1); replace RI1 := hid_of (RI1.out.at h1); replace BC := hid_of (step_b BC.out h1 BC.out.size); clear h1)))
          | (go_at_call 12; ((with_reducible refine (awake_any w1).mono ?_); (rintro ee w2 ⟨rfl, h1⟩; replace RI0 := hid_of (RI0.out.at h1); replace RI1 := hid_of (RI1.out.at h1); replace BC := hid_of (step_b BC.out h1 BC.out.size); clear h1)))
          | (go_at_call 18; ((with_reducible refine (H1.out w2  RI0.out RI1.out).mono ?_); (rintro ee w3 ⟨xo1, xc1, rfl, h1⟩; replace RI0 := hid_of (RI0.out.at h1.bel); replace RI1 := hid_of (RI1.out.at h1.bel); replace BC := hid_of (step_b BC.out h1.bel BC.out.size); have R1 := hid_of (h1.rd (by rw [ss_length]; have := HB1.out; omega)); clear h1)))
          | (go_at_call 17; (first | ((with_reducible refine (H2.out w3  RI1.out).mono ?_); (rintro ee w4 ⟨xo2, xc2, rfl, h1⟩; replace RI0 := hid_of (RI0.out.at h1.bel); replace RI1 := hid_of (RI1.out.at h1.bel); replace R1 := hid_of (R1.out.at h1.bel); replace BC := hid_of (step_b BC.out h1.bel BC.out.size); have R2 := hid_of (h1.rd (by rw [ss_length]; have := HB2.out; omega)); clear h1)) | ((with_reducible refine (H4.out w6  RI0.out).mono ?_); (rintro ee w7 ⟨xo4, xc4, rfl, h1⟩; replace RI0 := hid_of (RI0.out.at h1.bel); replace RI1 := hid_of (RI1.out.at h1.bel); replace R1 := hid_of (R1.out.at h1.bel); replace R2 := hid_of (R2.out.at h1.bel); replace R3 := hid_of (R3.out.at h1.bel); replace BC := hid_of (step_b BC.out h1.bel BC.out.size); have R4 := hid_of (h1.rd (by rw [ss_length]; have := HB4.out; omega)); clear h1))))
          | (go_at_call 25; (first | ((with_reducible refine (H51.out w4 xo1 xc1 xo2 xc2 R1.out R2.out).mono ?_); (rintro ee w5 ⟨rfl, h1⟩; replace RI0 := hid_of (RI0.out.at h1); replace RI1 := hid_of (RI1.out.at h1); replace R1 := hid_of (R1.out.at h1); replace R2 := hid_of (R2.out.at h1); replace BC := hid_of (step_b BC.out h1 BC.out.size); clear h1)) | ((with_reducible refine (H52.out w7 xo3 xc3 xo4 xc4 R3.out R4.out).mono ?_); (rintro ee w8 ⟨rfl, h1⟩; replace RI0 := hid_of (RI0.out.at h1); replace RI1 := hid_of (RI1.out.at h1); replace R1 := hid_of (R1.out.at h1); replace R2 := hid_of (R2.out.at h1); replace R3 := hid_of (R3.out.at h1); replace R4 := hid_of (R4.out.at h1); replace BC := hid_of (step_b BC.out h1 BC.out.size); clear h1))))
          | (go_at_call 19; ((with_reducible refine (H3.out w5  RI0.out RI1.out).mono ?_); (rintro ee w6 ⟨xo3, xc3, rfl, h1⟩; replace RI0 := hid_of (RI0.out.at h1.bel); replace RI1 := hid_of (RI1.out.at h1.bel); replace R1 := hid_of (R1.out.at h1.bel); replace R2 := hid_of (R2.out.at h1.bel); replace BC := hid_of (step_b BC.out h1.bel BC.out.size); have R3 := hid_of (h1.rd (by rw [ss_length]; have := HB3.out; omega)); clear h1)))
          | (go_at_call 20; ((with_reducible refine (H5.out w8  RI0.out RI1.out).mono ?_); (rintro ee w9 ⟨xo5, xc5, rfl, h1⟩; replace RI0 := hid_of (RI0.out.at h1.bel); replace RI1 := hid_of (RI1.out.at h1.bel); replace R1 := hid_of (R1.out.at h1.bel); replace R2 := hid_of (R2.out.at h1.bel); replace R3 := hid_of (R3.out.at h1.bel); replace R4 := hid_of (R4.out.at h1.bel); replace BC := hid_of (step_b BC.out h1.bel BC.out.size); have R5 := hid_of (h1.rd (by rw [ss_length]; have := HB5.out; omega)); clear h1))))
        go_ret
        exact ⟨rfl, BC.out⟩
end Go.Proofs.Ytpbjnbceloibnaa
