/- The law of the order of sets. Bounds on sizes alone. -/
import Derived.Test.YtkpblmmgaglhoaaNamLSub
namespace Go.Proofs.Ytkpblmmgaglhoaa
open Go.RowKit

theorem ord_rel (a b c : List Str) :
    (cmpS (setOf a) (setOf b) = 1 ∧ cmpS (setOf b) (setOf a) = -1 ∧ decide (setOf a = setOf b) = false ∧ subB a b = false) ∨
    (cmpS (setOf a) (setOf b) = 0 ∧ cmpS (setOf b) (setOf a) = 0 ∧ decide (setOf a = setOf b) = true ∧ subB a b = true ∧ subB b a = true ∧
      ((cmpS (setOf b) (setOf c) = 1) ∨ (cmpS (setOf b) (setOf c) = 0 ∧ cmpS (setOf a) (setOf c) = 0) ∨ (cmpS (setOf b) (setOf c) = -1 ∧ cmpS (setOf a) (setOf c) = -1))) ∨
    (cmpS (setOf a) (setOf b) = -1 ∧ cmpS (setOf b) (setOf a) = 1 ∧ decide (setOf a = setOf b) = false ∧
      ((cmpS (setOf b) (setOf c) = 1) ∨ (cmpS (setOf b) (setOf c) = 0 ∧ cmpS (setOf a) (setOf c) = -1) ∨ (cmpS (setOf b) (setOf c) = -1 ∧ cmpS (setOf a) (setOf c) = -1)) ∧
      (subB a b = false ∨ (subB a b = true ∧ subB b a = false))) := by
  have hsub : subB a b = true → cmpS (setOf a) (setOf b) ≠ 1 := fun h e => by
    have hl := ss_sub_len (setOf_ss a) (setOf_ss b) (fun x hx => (setOf_mem b x).2 (subB_iff.1 h x ((setOf_mem a x).1 hx)))
    rcases Nat.lt_or_ge (setOf a).length (setOf b).length with h1 | h1
    · rw [cmpS_short h1] at e; omega
    · rw [hl.2 (by omega), cmpS_zero.2 rfl] at e; omega
  have hself : setOf a = setOf b → subB a b = true ∧ subB b a = true := fun h => ⟨subB_iff.2 (fun x hx => (setOf_mem b x).1 (h ▸ (setOf_mem a x).2 hx)), subB_iff.2 (fun x hx => (setOf_mem a x).1 (h ▸ (setOf_mem b x).2 hx))⟩
  have hboth : subB a b = true → subB b a = true → setOf a = setOf b := fun h1 h2 => ss_ext (setOf_ss a) (setOf_ss b) (fun x => by
    rw [setOf_mem, setOf_mem]; exact ⟨subB_iff.1 h1 x, subB_iff.1 h2 x⟩)
  have hneg := cmpS_neg (setOf a) (setOf b)
  rcases cmpS_01 (setOf a) (setOf b) with h | h | h
  · have hne : setOf a ≠ setOf b := fun e => by rw [cmpS_zero.2 e] at h; omega
    refine .inr (.inr ⟨h, by rw [hneg, h]; rfl, decide_eq_false hne, ?_, ?_⟩)
    · rcases cmpS_01 (setOf b) (setOf c) with h2 | h2 | h2
      · exact .inr (.inr ⟨h2, cmpS_trans h h2⟩)
      · exact .inr (.inl ⟨h2, by rw [← cmpS_zero.1 h2]; exact h⟩)
      · exact .inl h2
    · cases hs : subB a b
      · exact .inl rfl
      · refine .inr ⟨rfl, ?_⟩
        rw [Bool.eq_false_iff]; exact fun h2 => hne (hboth hs h2)
  · have he := cmpS_zero.1 h
    refine .inr (.inl ⟨h, by rw [hneg, h]; rfl, decide_eq_true he, (hself he).1, (hself he).2, ?_⟩)
    rcases cmpS_01 (setOf b) (setOf c) with h2 | h2 | h2
    · exact .inr (.inr ⟨h2, by rw [he]; exact h2⟩)
    · exact .inr (.inl ⟨h2, by rw [he]; exact h2⟩)
    · exact .inl h2
  · refine .inl ⟨h, by rw [hneg, h]; rfl, decide_eq_false (fun e => by rw [cmpS_zero.2 e] at h; omega), ?_⟩
    rw [Bool.eq_false_iff]; exact fun h2 => hsub h2 h
set_option maxRecDepth 100000 in
set_option maxHeartbeats 6400000 in
theorem ord_law (a0 : Option Addr) (len0 cap0 : Nat) (a1 : Option Addr) (len1 cap1 : Nat) (a2 : Option Addr) (len2 cap2 : Nat) (l0 l1 l2 : List Str) (w : World) (RX0 : Rd w (.slice a0 len0 cap0) (ss l0)) (RX1 : Rd w (.slice a1 len1 cap1) (ss l1)) (RX2 : Rd w (.slice a2 len2 cap2) (ss l2)) :
    Calls Try.prog 7 #[.slice a0 len0 cap0, .slice a1 len1 cap1, .slice a2 len2 cap2] w fun e w' => e = .returned (.bool true) ∧ Below w.heap.size w w' := by
  obtain ⟨s0, hs0⟩ : ∃ s, s = smallB l0 := ⟨_, rfl⟩
  obtain ⟨s1, hs1⟩ : ∃ s, s = smallB l1 := ⟨_, rfl⟩
  obtain ⟨s2, hs2⟩ : ∃ s, s = smallB l2 := ⟨_, rfl⟩
  have HS0 : Hid (∀ wx, Rd wx (.slice a0 len0 cap0) (ss l0) → Calls Try.prog 15 #[.slice a0 len0 cap0] wx fun e w' => e = .returned (.bool s0) ∧ wx = w') := hid_of (fun wx q => by rw [hs0]; exact small_any a0 len0 cap0 l0 wx q)
  have HS1 : Hid (∀ wx, Rd wx (.slice a1 len1 cap1) (ss l1) → Calls Try.prog 15 #[.slice a1 len1 cap1] wx fun e w' => e = .returned (.bool s1) ∧ wx = w') := hid_of (fun wx q => by rw [hs1]; exact small_any a1 len1 cap1 l1 wx q)
  have HS2 : Hid (∀ wx, Rd wx (.slice a2 len2 cap2) (ss l2) → Calls Try.prog 15 #[.slice a2 len2 cap2] wx fun e w' => e = .returned (.bool s2) ∧ wx = w') := hid_of (fun wx q => by rw [hs2]; exact small_any a2 len2 cap2 l2 wx q)
  have RI0 := hid_of RX0
  have RI1 := hid_of RX1
  have RI2 := hid_of RX2
  have BC := hid_of (Below.refl w.heap.size w)
  have HSM0 := hid_of hs0
  have HSM1 := hid_of hs1
  have HSM2 := hid_of hs2
  clear hs0 RX0 hs1 RX1 hs2 RX2
  cases s0
  · go_enter Try.func7, Try.ntmps7
    go_wp2_with (first
      | (go_at_call 15; ((with_reducible refine (HS0.out w RI0.out).mono ?_); (rintro ee w' ⟨rfl, rfl⟩)))
      | (go_at_call 12; ((with_reducible refine (awake_any w).mono ?_); (rintro ee w1 ⟨rfl, h1⟩; replace RI0 := hid_of (RI0.out.at h1); replace RI1 := hid_of (RI1.out.at h1); replace RI2 := hid_of (RI2.out.at h1); replace BC := hid_of (step_b BC.out h1 BC.out.size); clear h1))))
    go_ret
    exact ⟨rfl, BC.out⟩
  · have SM0 : Hid (l0.length ≤ 30 ∧ ∀ x ∈ l0, x.length ≤ 40) := hid_of (smallB_iff.1 HSM0.out.symm)
    cases s1
    · go_enter Try.func7, Try.ntmps7
      go_wp2_with (first
        | (go_at_call 15; (first | ((with_reducible refine (HS0.out w RI0.out).mono ?_); (rintro ee w' ⟨rfl, rfl⟩)) | ((with_reducible refine (HS1.out w RI1.out).mono ?_); (rintro ee w' ⟨rfl, rfl⟩))))
        | (go_at_call 12; ((with_reducible refine (awake_any w).mono ?_); (rintro ee w1 ⟨rfl, h1⟩; replace RI0 := hid_of (RI0.out.at h1); replace RI1 := hid_of (RI1.out.at h1); replace RI2 := hid_of (RI2.out.at h1); replace BC := hid_of (step_b BC.out h1 BC.out.size); clear h1))))
      go_ret
      exact ⟨rfl, BC.out⟩
    · have SM1 : Hid (l1.length ≤ 30 ∧ ∀ x ∈ l1, x.length ≤ 40) := hid_of (smallB_iff.1 HSM1.out.symm)
      cases s2
      · go_enter Try.func7, Try.ntmps7
        go_wp2_with (first
          | (go_at_call 15; (first | ((with_reducible refine (HS0.out w RI0.out).mono ?_); (rintro ee w' ⟨rfl, rfl⟩)) | ((with_reducible refine (HS1.out w RI1.out).mono ?_); (rintro ee w' ⟨rfl, rfl⟩)) | ((with_reducible refine (HS2.out w RI2.out).mono ?_); (rintro ee w' ⟨rfl, rfl⟩))))
          | (go_at_call 12; ((with_reducible refine (awake_any w).mono ?_); (rintro ee w1 ⟨rfl, h1⟩; replace RI0 := hid_of (RI0.out.at h1); replace RI1 := hid_of (RI1.out.at h1); replace RI2 := hid_of (RI2.out.at h1); replace BC := hid_of (step_b BC.out h1 BC.out.size); clear h1))))
        go_ret
        exact ⟨rfl, BC.out⟩
      · have SM2 : Hid (l2.length ≤ 30 ∧ ∀ x ∈ l2, x.length ≤ 40) := hid_of (smallB_iff.1 HSM2.out.symm)
        obtain ⟨x, hx⟩ : ∃ v, v = cmpS (setOf l0) (setOf l1) := ⟨_, rfl⟩
        obtain ⟨y, hy⟩ : ∃ v, v = cmpS (setOf l1) (setOf l2) := ⟨_, rfl⟩
        obtain ⟨z, hz⟩ : ∃ v, v = cmpS (setOf l0) (setOf l2) := ⟨_, rfl⟩
        obtain ⟨u, hu⟩ : ∃ v, v = cmpS (setOf l1) (setOf l0) := ⟨_, rfl⟩
        obtain ⟨q, hq⟩ : ∃ v, v = decide (setOf l0 = setOf l1) := ⟨_, rfl⟩
        obtain ⟨sa, hsa⟩ : ∃ v, v = subB l0 l1 := ⟨_, rfl⟩
        obtain ⟨sb, hsb⟩ : ∃ v, v = subB l1 l0 := ⟨_, rfl⟩
        have REL := ord_rel l0 l1 l2
        rw [← hx, ← hy, ← hz, ← hu, ← hq, ← hsa, ← hsb] at REL
        have H50 : Hid (∀ (wx : World) , Rd wx (.slice a0 len0 cap0) (ss l0) → Rd wx (.slice a1 len1 cap1) (ss l1) → Calls Try.prog 27 #[.slice a0 len0 cap0, .slice a1 len1 cap1] wx fun e w' => e = .returned (.int .i64 (x)) ∧ Below wx.heap.size wx w') := hid_of (fun wx  q0 q1 => by rw [hx]; exact compare_any _ _ _ _ _ _ _ _ wx q0 q1 (by have := SM0.out.1; unfold big; omega) (by have := SM1.out.1; unfold big; omega))
        have H51 : Hid (∀ (wx : World) , Rd wx (.slice a1 len1 cap1) (ss l1) → Rd wx (.slice a2 len2 cap2) (ss l2) → Calls Try.prog 27 #[.slice a1 len1 cap1, .slice a2 len2 cap2] wx fun e w' => e = .returned (.int .i64 (y)) ∧ Below wx.heap.size wx w') := hid_of (fun wx  q0 q1 => by rw [hy]; exact compare_any _ _ _ _ _ _ _ _ wx q0 q1 (by have := SM1.out.1; unfold big; omega) (by have := SM2.out.1; unfold big; omega))
        have H52 : Hid (∀ (wx : World) , Rd wx (.slice a0 len0 cap0) (ss l0) → Rd wx (.slice a2 len2 cap2) (ss l2) → Calls Try.prog 27 #[.slice a0 len0 cap0, .slice a2 len2 cap2] wx fun e w' => e = .returned (.int .i64 (z)) ∧ Below wx.heap.size wx w') := hid_of (fun wx  q0 q1 => by rw [hz]; exact compare_any _ _ _ _ _ _ _ _ wx q0 q1 (by have := SM0.out.1; unfold big; omega) (by have := SM2.out.1; unfold big; omega))
        have H53 : Hid (∀ (wx : World) , Rd wx (.slice a0 len0 cap0) (ss l0) → Rd wx (.slice a1 len1 cap1) (ss l1) → Calls Try.prog 28 #[.slice a0 len0 cap0, .slice a1 len1 cap1] wx fun e w' => e = .returned (.int .i64 (x)) ∧ Below wx.heap.size wx w') := hid_of (fun wx  q0 q1 => by rw [hx]; exact rcompare_any _ _ _ _ _ _ _ _ wx q0 q1 (by have := SM0.out.1; unfold big; omega) (by have := SM1.out.1; unfold big; omega))
        have H54 : Hid (∀ (wx : World) , Rd wx (.slice a1 len1 cap1) (ss l1) → Rd wx (.slice a0 len0 cap0) (ss l0) → Calls Try.prog 27 #[.slice a1 len1 cap1, .slice a0 len0 cap0] wx fun e w' => e = .returned (.int .i64 (u)) ∧ Below wx.heap.size wx w') := hid_of (fun wx  q0 q1 => by rw [hu]; exact compare_any _ _ _ _ _ _ _ _ wx q0 q1 (by have := SM1.out.1; unfold big; omega) (by have := SM0.out.1; unfold big; omega))
        obtain ⟨L1, hL1⟩ : ∃ L, L = setOf l0 := ⟨_, rfl⟩
        have HB1 : Hid (L1.length ≤ 1000) := hid_of (by rw [hL1]; exact Nat.le_trans (setOf_le _) (by have := SM0.out.1; omega))
        obtain ⟨n1, hn1⟩ : ∃ n, n = L1.length := ⟨_, rfl⟩
        have H1 : Hid (∀ (wx : World) , Rd wx (.slice a0 len0 cap0) (ss l0) → Calls Try.prog 17 #[.slice a0 len0 cap0] wx fun e w' => ∃ xo xc, e = .returned (.slice xo n1 xc) ∧ Ow 9 wx.heap.size wx w' (.slice xo n1 xc) (ss L1)) := hid_of (fun wx  q0 => by rw [hn1, hL1]; exact of_any _ _ _ _ wx q0 (by have := SM0.out.1; unfold big; omega))
        have HT_1 : Hid (L1.length ≤ 30) := hid_of (by rw [hL1]; exact Nat.le_trans (setOf_le _) (by have := SM0.out.1; omega))
        obtain ⟨L2, hL2⟩ : ∃ L, L = setOf l1 := ⟨_, rfl⟩
        have HB2 : Hid (L2.length ≤ 1000) := hid_of (by rw [hL2]; exact Nat.le_trans (setOf_le _) (by have := SM1.out.1; omega))
        obtain ⟨n2, hn2⟩ : ∃ n, n = L2.length := ⟨_, rfl⟩
        have H2 : Hid (∀ (wx : World) , Rd wx (.slice a1 len1 cap1) (ss l1) → Calls Try.prog 17 #[.slice a1 len1 cap1] wx fun e w' => ∃ xo xc, e = .returned (.slice xo n2 xc) ∧ Ow 9 wx.heap.size wx w' (.slice xo n2 xc) (ss L2)) := hid_of (fun wx  q0 => by rw [hn2, hL2]; exact of_any _ _ _ _ wx q0 (by have := SM1.out.1; unfold big; omega))
        have HT_2 : Hid (L2.length ≤ 30) := hid_of (by rw [hL2]; exact Nat.le_trans (setOf_le _) (by have := SM1.out.1; omega))
        have H55 : Hid (∀ (wx : World) (xo1 : Option Addr) (xc1 : Nat) (xo2 : Option Addr) (xc2 : Nat), Rd wx (.slice xo1 n1 xc1) (ss L1) → Rd wx (.slice xo2 n2 xc2) (ss L2) → Calls Try.prog 25 #[.slice xo1 n1 xc1, .slice xo2 n2 xc2] wx fun e w' => e = .returned (.bool (q)) ∧ Below wx.heap.size wx w') := hid_of (fun wx xo1 xc1 xo2 xc2 q0 q1 => rsame_q (q) _ _ _ _ _ _ _ _ wx q0 q1 (by rw [hL1, hL2, hq]))
        have H56 : Hid (∀ (wx : World) , Rd wx (.slice a0 len0 cap0) (ss l0) → Rd wx (.slice a1 len1 cap1) (ss l1) → Calls Try.prog 26 #[.slice a0 len0 cap0, .slice a1 len1 cap1] wx fun e w' => e = .returned (.bool (sa)) ∧ Below wx.heap.size wx w') := hid_of (fun wx  q0 q1 => by rw [hsa]; exact subset_any _ _ _ _ _ _ _ _ wx q0 q1 (by have := SM0.out.1; unfold big; omega) (by have := SM1.out.1; unfold big; omega))
        have H57 : Hid (∀ (wx : World) , Rd wx (.slice a1 len1 cap1) (ss l1) → Rd wx (.slice a0 len0 cap0) (ss l0) → Calls Try.prog 26 #[.slice a1 len1 cap1, .slice a0 len0 cap0] wx fun e w' => e = .returned (.bool (sb)) ∧ Below wx.heap.size wx w') := hid_of (fun wx  q0 q1 => by rw [hsb]; exact subset_any _ _ _ _ _ _ _ _ wx q0 q1 (by have := SM1.out.1; unfold big; omega) (by have := SM0.out.1; unfold big; omega))
        clear hL1 hn1 hL2 hn2 hx hy hz hu hq hsa hsb
        rcases REL with ⟨rfl, rfl, rfl, rfl⟩ | ⟨rfl, rfl, rfl, rfl, rfl, rfl | ⟨rfl, rfl⟩ | ⟨rfl, rfl⟩⟩ | ⟨rfl, rfl, rfl, rfl | ⟨rfl, rfl⟩ | ⟨rfl, rfl⟩, rfl | ⟨rfl, rfl⟩⟩
        all_goals
          go_enter Try.func7, Try.ntmps7
          go_wp2_with (first
            | (go_at_call 15; (first | ((with_reducible refine (HS0.out w RI0.out).mono ?_); (rintro ee w' ⟨rfl, rfl⟩)) | ((with_reducible refine (HS1.out w RI1.out).mono ?_); (rintro ee w' ⟨rfl, rfl⟩)) | ((with_reducible refine (HS2.out w RI2.out).mono ?_); (rintro ee w' ⟨rfl, rfl⟩))))
            | (go_at_call 27; (first | ((with_reducible refine (H50.out w  RI0.out RI1.out).mono ?_); (rintro ee w1 ⟨rfl, h1⟩; replace RI0 := hid_of (RI0.out.at h1); replace RI1 := hid_of (RI1.out.at h1); replace RI2 := hid_of (RI2.out.at h1); replace BC := hid_of (step_b BC.out h1 BC.out.size); clear h1)) | ((with_reducible refine (H51.out w1  RI1.out RI2.out).mono ?_); (rintro ee w2 ⟨rfl, h1⟩; replace RI0 := hid_of (RI0.out.at h1); replace RI1 := hid_of (RI1.out.at h1); replace RI2 := hid_of (RI2.out.at h1); replace BC := hid_of (step_b BC.out h1 BC.out.size); clear h1)) | ((with_reducible refine (H52.out w2  RI0.out RI2.out).mono ?_); (rintro ee w3 ⟨rfl, h1⟩; replace RI0 := hid_of (RI0.out.at h1); replace RI1 := hid_of (RI1.out.at h1); replace RI2 := hid_of (RI2.out.at h1); replace BC := hid_of (step_b BC.out h1 BC.out.size); clear h1)) | ((with_reducible refine (H54.out w4  RI1.out RI0.out).mono ?_); (rintro ee w5 ⟨rfl, h1⟩; replace RI0 := hid_of (RI0.out.at h1); replace RI1 := hid_of (RI1.out.at h1); replace RI2 := hid_of (RI2.out.at h1); replace BC := hid_of (step_b BC.out h1 BC.out.size); clear h1))))
            | (go_at_call 28; ((with_reducible refine (H53.out w3  RI0.out RI1.out).mono ?_); (rintro ee w4 ⟨rfl, h1⟩; replace RI0 := hid_of (RI0.out.at h1); replace RI1 := hid_of (RI1.out.at h1); replace RI2 := hid_of (RI2.out.at h1); replace BC := hid_of (step_b BC.out h1 BC.out.size); clear h1)))
            | (go_at_call 17; (first | ((with_reducible refine (H1.out w5  RI0.out).mono ?_); (rintro ee w6 ⟨xo1, xc1, rfl, h1⟩; replace RI0 := hid_of (RI0.out.at h1.bel); replace RI1 := hid_of (RI1.out.at h1.bel); replace RI2 := hid_of (RI2.out.at h1.bel); replace BC := hid_of (step_b BC.out h1.bel BC.out.size); have R1 := hid_of (h1.rd (by rw [ss_length]; have := HB1.out; omega)); clear h1)) | ((with_reducible refine (H2.out w6  RI1.out).mono ?_); (rintro ee w7 ⟨xo2, xc2, rfl, h1⟩; replace RI0 := hid_of (RI0.out.at h1.bel); replace RI1 := hid_of (RI1.out.at h1.bel); replace RI2 := hid_of (RI2.out.at h1.bel); replace R1 := hid_of (R1.out.at h1.bel); replace BC := hid_of (step_b BC.out h1.bel BC.out.size); have R2 := hid_of (h1.rd (by rw [ss_length]; have := HB2.out; omega)); clear h1))))
            | (go_at_call 25; ((with_reducible refine (H55.out w7 xo1 xc1 xo2 xc2 R1.out R2.out).mono ?_); (rintro ee w8 ⟨rfl, h1⟩; replace RI0 := hid_of (RI0.out.at h1); replace RI1 := hid_of (RI1.out.at h1); replace RI2 := hid_of (RI2.out.at h1); replace R1 := hid_of (R1.out.at h1); replace R2 := hid_of (R2.out.at h1); replace BC := hid_of (step_b BC.out h1 BC.out.size); clear h1)))
            | (go_at_call 12; ((with_reducible refine (awake_any w8).mono ?_); (rintro ee w9 ⟨rfl, h1⟩; replace RI0 := hid_of (RI0.out.at h1); replace RI1 := hid_of (RI1.out.at h1); replace RI2 := hid_of (RI2.out.at h1); replace R1 := hid_of (R1.out.at h1); replace R2 := hid_of (R2.out.at h1); replace BC := hid_of (step_b BC.out h1 BC.out.size); clear h1)))
            | (go_at_call 26; (first | ((with_reducible refine (H56.out w9  RI0.out RI1.out).mono ?_); (rintro ee w10 ⟨rfl, h1⟩; replace RI0 := hid_of (RI0.out.at h1); replace RI1 := hid_of (RI1.out.at h1); replace RI2 := hid_of (RI2.out.at h1); replace R1 := hid_of (R1.out.at h1); replace R2 := hid_of (R2.out.at h1); replace BC := hid_of (step_b BC.out h1 BC.out.size); clear h1)) | ((with_reducible refine (H57.out w10  RI1.out RI0.out).mono ?_); (rintro ee w11 ⟨rfl, h1⟩; replace RI0 := hid_of (RI0.out.at h1); replace RI1 := hid_of (RI1.out.at h1); replace RI2 := hid_of (RI2.out.at h1); replace R1 := hid_of (R1.out.at h1); replace R2 := hid_of (R2.out.at h1); replace BC := hid_of (step_b BC.out h1 BC.out.size); clear h1)))))
          go_ret
          exact ⟨rfl, BC.out⟩
end Go.Proofs.Ytkpblmmgaglhoaa
