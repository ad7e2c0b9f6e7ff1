/- The law of the sets. Bounds on sizes alone. -/
import Derived.Test.YtkpblmmgaglhoaaNamExa
namespace Go.Proofs.Ytkpblmmgaglhoaa
open Go.RowKit

theorem wn_of (a : List Str) (x : Str) : wn a [] true false false x = decide (x ∈ a) := by simp [wn, wantB]
theorem wn_un (a b : List Str) (x : Str) : wn a b true true true x = decide (x ∈ a ∨ x ∈ b) := by
  simp only [wn, wantB]; cases h1 : decide (x ∈ a) <;> cases h2 : decide (x ∈ b) <;> simp_all
theorem wn_in (a b : List Str) (x : Str) : wn a b false false true x = decide (x ∈ a ∧ x ∈ b) := by
  simp only [wn, wantB]; cases h1 : decide (x ∈ a) <;> cases h2 : decide (x ∈ b) <;> simp_all
theorem wn_mi (a b : List Str) (x : Str) : wn a b true false false x = decide (x ∈ a ∧ x ∉ b) := by
  simp only [wn, wantB]; cases h1 : decide (x ∈ a) <;> cases h2 : decide (x ∈ b) <;> simp_all
theorem rd_none (w : World) : Rd w (.slice none 0 0) (ss []) := ⟨none, 0, rfl, Nat.le_refl _, by omega, fun h => by simp [ss] at h⟩
theorem exa (k0 k1 k2 : Bool) (xo : Option Addr) (nx xc : Nat) (ao : Option Addr) (n cap : Nat) (bo : Option Addr) (m cap2 : Nat) (X a b : List Str) (p : Str → Prop) [DecidablePred p] (w : World) (RX : Rd w (.slice xo nx xc) (ss X)) (Ra : Rd w (.slice ao n cap) (ss a)) (Rb : Rd w (.slice bo m cap2) (ss b))
    (hs : SS X) (hp : ∀ x, wn a b k0 k1 k2 x = decide (p x)) (h1 : ∀ x, x ∈ X ↔ p x) (hX9 : X.length ≤ 1000) (ha9 : a.length ≤ 1000) (hb9 : b.length ≤ 1000) :
    Calls Try.prog 16 #[.slice xo nx xc, .slice ao n cap, .slice bo m cap2, .agg #[.bool k0, .bool k1, .bool k2]] w fun e w' => e = .returned (.bool true) ∧ Below w.heap.size w w' :=
  exactly_yes xo nx xc ao n cap bo m cap2 X a b k0 k1 k2 w RX Ra Rb hs (fun x hx => by rw [hp]; exact decide_eq_true ((h1 x).1 hx)) (fun x _ hx => by rw [hp] at hx; exact (h1 x).2 (of_decide_eq_true hx)) hX9 ha9 hb9
set_option maxRecDepth 100000 in
set_option maxHeartbeats 6400000 in
theorem sets_law (a0 : Option Addr) (len0 cap0 : Nat) (a1 : Option Addr) (len1 cap1 : Nat) (l0 l1 : List Str) (s2 : ByteArray) (w : World) (RX0 : Rd w (.slice a0 len0 cap0) (ss l0)) (RX1 : Rd w (.slice a1 len1 cap1) (ss l1)) (hs2 : s2.size ≤ maxLen) :
    Calls Try.prog 4 #[.slice a0 len0 cap0, .slice a1 len1 cap1, .string s2] w fun e w' => e = .returned (.bool true) ∧ Below w.heap.size w w' := by
  unfold maxLen at hs2
  obtain ⟨sm0, hs0⟩ : ∃ s, s = smallB l0 := ⟨_, rfl⟩
  obtain ⟨sm1, hs1⟩ : ∃ s, s = smallB l1 := ⟨_, rfl⟩
  have HS0 : Hid (∀ wx, Rd wx (.slice a0 len0 cap0) (ss l0) → Calls Try.prog 15 #[.slice a0 len0 cap0] wx fun e w' => e = .returned (.bool sm0) ∧ wx = w') := hid_of (fun wx q => by rw [hs0]; exact small_any a0 len0 cap0 l0 wx q)
  have HS1 : Hid (∀ wx, Rd wx (.slice a1 len1 cap1) (ss l1) → Calls Try.prog 15 #[.slice a1 len1 cap1] wx fun e w' => e = .returned (.bool sm1) ∧ wx = w') := hid_of (fun wx q => by rw [hs1]; exact small_any a1 len1 cap1 l1 wx q)
  have RI0 := hid_of RX0
  have RI1 := hid_of RX1
  have BC := hid_of (Below.refl w.heap.size w)
  have HSM0 := hid_of hs0
  have HSM1 := hid_of hs1
  clear hs0 hs1 RX0 RX1
  cases sm0
  · go_enter Try.func4, Try.ntmps4
    go_wp2_with (first
      | (go_at_call 15; ((with_reducible refine (HS0.out w RI0.out).mono ?_); (rintro ee w' ⟨rfl, rfl⟩)))
      | (go_at_call 12; ((with_reducible refine (awake_any w).mono ?_); (rintro ee w1 ⟨rfl, h1⟩; replace RI0 := hid_of (RI0.out.at h1); replace RI1 := hid_of (RI1.out.at h1); replace BC := hid_of (step_b BC.out h1 BC.out.size); clear h1))))
    go_ret
    exact ⟨rfl, BC.out⟩
  · have SM0 : Hid (l0.length ≤ 30 ∧ ∀ x ∈ l0, x.length ≤ 40) := hid_of (smallB_iff.1 HSM0.out.symm)
    cases sm1
    · go_enter Try.func4, Try.ntmps4
      go_wp2_with (first
        | (go_at_call 15; (first | ((with_reducible refine (HS0.out w RI0.out).mono ?_); (rintro ee w' ⟨rfl, rfl⟩)) | ((with_reducible refine (HS1.out w RI1.out).mono ?_); (rintro ee w' ⟨rfl, rfl⟩))))
        | (go_at_call 12; ((with_reducible refine (awake_any w).mono ?_); (rintro ee w1 ⟨rfl, h1⟩; replace RI0 := hid_of (RI0.out.at h1); replace RI1 := hid_of (RI1.out.at h1); replace BC := hid_of (step_b BC.out h1 BC.out.size); clear h1))))
      go_ret
      exact ⟨rfl, BC.out⟩
    · have SM1 : Hid (l1.length ≤ 30 ∧ ∀ x ∈ l1, x.length ≤ 40) := hid_of (smallB_iff.1 HSM1.out.symm)
      by_cases h40 : 40 < s2.size
      · have d0 : decide ((40 : Int) < (s2.size : Int)) = true := by simp; omega
        have d1 : decide (40 < s2.size) = true := by simp; omega
        clear h40
        go_enter Try.func4, Try.ntmps4
        go_wp2_with (first
          | (go_at_call 15; (first | ((with_reducible refine (HS0.out w RI0.out).mono ?_); (rintro ee w' ⟨rfl, rfl⟩)) | ((with_reducible refine (HS1.out w RI1.out).mono ?_); (rintro ee w' ⟨rfl, rfl⟩))))
          | (go_at_call 12; ((with_reducible refine (awake_any w).mono ?_); (rintro ee w1 ⟨rfl, h1⟩; replace RI0 := hid_of (RI0.out.at h1); replace RI1 := hid_of (RI1.out.at h1); replace BC := hid_of (step_b BC.out h1 BC.out.size); clear h1))))
        go_ret
        exact ⟨rfl, BC.out⟩
      · have d0 : decide ((40 : Int) < (s2.size : Int)) = false := by simp; omega
        have d1 : decide (40 < s2.size) = false := by simp; omega
        clear h40
        obtain ⟨qh, hqh⟩ : ∃ q, q = decide (s2.data.toList ∈ l0) := ⟨_, rfl⟩
        obtain ⟨qs, hqs⟩ : ∃ q, q = ssB l0 := ⟨_, rfl⟩
        obtain ⟨L1, hL1⟩ : ∃ L, L = setOf l0 := ⟨_, rfl⟩
        have HB1 : Hid (L1.length ≤ 1000) := hid_of (by rw [hL1]; exact Nat.le_trans (setOf_le _) (by have := SM0.out.1; omega))
        obtain ⟨n1, hn1⟩ : ∃ n, n = L1.length := ⟨_, rfl⟩
        have H1 : Hid (∀ (wx : World) , Rd wx (.slice a0 len0 cap0) (ss l0) → Calls Try.prog 17 #[.slice a0 len0 cap0] wx fun e w' => ∃ xo xc, e = .returned (.slice xo n1 xc) ∧ Ow 9 wx.heap.size wx w' (.slice xo n1 xc) (ss L1)) := hid_of (fun wx  q0 => by rw [hn1, hL1]; exact of_any _ _ _ _ wx q0 (by have := SM0.out.1; unfold big; omega))
        have HT_1 : Hid (L1.length ≤ 30) := hid_of (by rw [hL1]; exact Nat.le_trans (setOf_le _) (by have := SM0.out.1; omega))
        have HS_1 : Hid (L1.length ≤ 1000) := hid_of (by have := HB1.out; omega)
        have H51 : Hid (∀ (wx : World) (xo1 : Option Addr) (xc1 : Nat), Rd wx (.slice xo1 n1 xc1) (ss L1) → Rd wx (.slice a0 len0 cap0) (ss l0) → Calls Try.prog 16 #[.slice xo1 n1 xc1, .slice a0 len0 cap0, .slice none 0 0, .agg #[.bool true, .bool false, .bool false]] wx fun e w' => e = .returned (.bool true) ∧ Below wx.heap.size wx w') := hid_of (fun wx _ _ r1 r2 => exa true false false _ _ _ _ _ _ _ _ _ L1 l0 [] (fun x => x ∈ l0) wx r1 r2 (rd_none wx) (by rw [hL1]; exact setOf_ss _) (fun x => wn_of l0 x) (fun x => by rw [hL1]; exact setOf_mem _ _) HS_1.out (by have := SM0.out.1; omega) (by simp))
        obtain ⟨L2, hL2⟩ : ∃ L, L = setOf (l0 ++ l1) := ⟨_, rfl⟩
        have HB2 : Hid (L2.length ≤ 1000) := hid_of (by rw [hL2]; exact Nat.le_trans (setOf_le _) (by rw [List.length_append]; have := SM0.out.1; have := SM1.out.1; omega))
        obtain ⟨n2, hn2⟩ : ∃ n, n = L2.length := ⟨_, rfl⟩
        have H2 : Hid (∀ (wx : World) , Rd wx (.slice a0 len0 cap0) (ss l0) → Rd wx (.slice a1 len1 cap1) (ss l1) → Calls Try.prog 18 #[.slice a0 len0 cap0, .slice a1 len1 cap1] wx fun e w' => ∃ xo xc, e = .returned (.slice xo n2 xc) ∧ Ow 9 wx.heap.size wx w' (.slice xo n2 xc) (ss L2)) := hid_of (fun wx  q0 q1 => by rw [hn2, hL2]; exact union_any _ _ _ _ _ _ _ _ wx q0 q1 (by have := SM0.out.1; omega) (by have := SM1.out.1; omega))
        have HT_2 : Hid (L2.length ≤ 60) := hid_of (by rw [hL2]; exact Nat.le_trans (setOf_le _) (by rw [List.length_append]; have := SM0.out.1; have := SM1.out.1; omega))
        have HS_2 : Hid (L2.length ≤ 1000) := hid_of (by have := HB2.out; omega)
        have H52 : Hid (∀ (wx : World) (xo2 : Option Addr) (xc2 : Nat), Rd wx (.slice xo2 n2 xc2) (ss L2) → Rd wx (.slice a0 len0 cap0) (ss l0) → Rd wx (.slice a1 len1 cap1) (ss l1) → Calls Try.prog 16 #[.slice xo2 n2 xc2, .slice a0 len0 cap0, .slice a1 len1 cap1, .agg #[.bool true, .bool true, .bool true]] wx fun e w' => e = .returned (.bool true) ∧ Below wx.heap.size wx w') := hid_of (fun wx _ _ r1 r2 r3 => exa true true true _ _ _ _ _ _ _ _ _ L2 l0 l1 (fun x => x ∈ l0 ∨ x ∈ l1) wx r1 r2 r3 (by rw [hL2]; exact setOf_ss _) (fun x => wn_un l0 l1 x) (fun x => by rw [hL2]; exact (setOf_mem _ _).trans List.mem_append) HS_2.out (by have := SM0.out.1; omega) (by have := SM1.out.1; omega))
        obtain ⟨L3, hL3⟩ : ∃ L, L = inter l0 l1 := ⟨_, rfl⟩
        have HB3 : Hid (L3.length ≤ 1000) := hid_of (by rw [hL3]; exact Nat.le_trans (inter_le _ _) (by have := SM0.out.1; omega))
        obtain ⟨n3, hn3⟩ : ∃ n, n = L3.length := ⟨_, rfl⟩
        have H3 : Hid (∀ (wx : World) , Rd wx (.slice a0 len0 cap0) (ss l0) → Rd wx (.slice a1 len1 cap1) (ss l1) → Calls Try.prog 19 #[.slice a0 len0 cap0, .slice a1 len1 cap1] wx fun e w' => ∃ xo xc, e = .returned (.slice xo n3 xc) ∧ Ow 9 wx.heap.size wx w' (.slice xo n3 xc) (ss L3)) := hid_of (fun wx  q0 q1 => by rw [hn3, hL3]; exact inter_any _ _ _ _ _ _ _ _ wx q0 q1 (by have := SM0.out.1; unfold big; omega) (by have := SM1.out.1; unfold big; omega))
        have HT_3 : Hid (L3.length ≤ 30) := hid_of (by rw [hL3]; exact Nat.le_trans (inter_le _ _) (by have := SM0.out.1; omega))
        have HS_3 : Hid (L3.length ≤ 1000) := hid_of (by have := HB3.out; omega)
        have H53 : Hid (∀ (wx : World) (xo3 : Option Addr) (xc3 : Nat), Rd wx (.slice xo3 n3 xc3) (ss L3) → Rd wx (.slice a0 len0 cap0) (ss l0) → Rd wx (.slice a1 len1 cap1) (ss l1) → Calls Try.prog 16 #[.slice xo3 n3 xc3, .slice a0 len0 cap0, .slice a1 len1 cap1, .agg #[.bool false, .bool false, .bool true]] wx fun e w' => e = .returned (.bool true) ∧ Below wx.heap.size wx w') := hid_of (fun wx _ _ r1 r2 r3 => exa false false true _ _ _ _ _ _ _ _ _ L3 l0 l1 (fun x => x ∈ l0 ∧ x ∈ l1) wx r1 r2 r3 (by rw [hL3]; exact chosen_ss _ _ _) (fun x => wn_in l0 l1 x) (fun x => by rw [hL3]; exact inter_mem _) HS_3.out (by have := SM0.out.1; omega) (by have := SM1.out.1; omega))
        obtain ⟨L4, hL4⟩ : ∃ L, L = diff l0 l1 := ⟨_, rfl⟩
        have HB4 : Hid (L4.length ≤ 1000) := hid_of (by rw [hL4]; exact Nat.le_trans (diff_le _ _) (by have := SM0.out.1; omega))
        obtain ⟨n4, hn4⟩ : ∃ n, n = L4.length := ⟨_, rfl⟩
        have H4 : Hid (∀ (wx : World) , Rd wx (.slice a0 len0 cap0) (ss l0) → Rd wx (.slice a1 len1 cap1) (ss l1) → Calls Try.prog 20 #[.slice a0 len0 cap0, .slice a1 len1 cap1] wx fun e w' => ∃ xo xc, e = .returned (.slice xo n4 xc) ∧ Ow 9 wx.heap.size wx w' (.slice xo n4 xc) (ss L4)) := hid_of (fun wx  q0 q1 => by rw [hn4, hL4]; exact minus_any _ _ _ _ _ _ _ _ wx q0 q1 (by have := SM0.out.1; unfold big; omega) (by have := SM1.out.1; unfold big; omega))
        have HT_4 : Hid (L4.length ≤ 30) := hid_of (by rw [hL4]; exact Nat.le_trans (diff_le _ _) (by have := SM0.out.1; omega))
        have HS_4 : Hid (L4.length ≤ 1000) := hid_of (by have := HB4.out; omega)
        have H54 : Hid (∀ (wx : World) (xo4 : Option Addr) (xc4 : Nat), Rd wx (.slice xo4 n4 xc4) (ss L4) → Rd wx (.slice a0 len0 cap0) (ss l0) → Rd wx (.slice a1 len1 cap1) (ss l1) → Calls Try.prog 16 #[.slice xo4 n4 xc4, .slice a0 len0 cap0, .slice a1 len1 cap1, .agg #[.bool true, .bool false, .bool false]] wx fun e w' => e = .returned (.bool true) ∧ Below wx.heap.size wx w') := hid_of (fun wx _ _ r1 r2 r3 => exa true false false _ _ _ _ _ _ _ _ _ L4 l0 l1 (fun x => x ∈ l0 ∧ x ∉ l1) wx r1 r2 r3 (by rw [hL4]; exact chosen_ss _ _ _) (fun x => wn_mi l0 l1 x) (fun x => by rw [hL4]; exact diff_mem _) HS_4.out (by have := SM0.out.1; omega) (by have := SM1.out.1; omega))
        have H61 : Hid (∀ wx, Rd wx (.slice a0 len0 cap0) (ss l0) → Calls Try.prog 21 #[.slice a0 len0 cap0, .string s2] wx fun e w' => e = .returned (.bool qh) ∧ wx = w') := hid_of (fun wx r => by rw [hqh]; exact has_any _ _ _ l0 s2.data.toList wx r)
        have H62 : Hid (∀ wx, Rd wx (.slice a0 len0 cap0) (ss l0) → Calls Try.prog 22 #[.slice a0 len0 cap0, .string s2] wx fun e w' => e = .returned (.bool qh) ∧ wx = w') := hid_of (fun wx r => by rw [hqh]; exact rhas_any _ _ _ l0 s2.data.toList wx r)
        have H63 : Hid (∀ wx, Rd wx (.slice a0 len0 cap0) (ss l0) → Calls Try.prog 23 #[.slice a0 len0 cap0] wx fun e w' => e = .returned (.bool qs) ∧ Below wx.heap.size wx w') := hid_of (fun wx r => by rw [hqs]; exact sorted_any _ _ _ l0 wx r)
        have H64 : Hid (∀ wx, Rd wx (.slice a0 len0 cap0) (ss l0) → Calls Try.prog 24 #[.slice a0 len0 cap0] wx fun e w' => e = .returned (.bool qs) ∧ Below wx.heap.size wx w') := hid_of (fun wx r => by rw [hqs]; exact rsorted_any _ _ _ l0 wx r)
        clear hL1 hn1 hL2 hn2 hL3 hn3 hL4 hn4 hqh hqs
        cases qh <;> cases qs
        all_goals
          go_enter Try.func4, Try.ntmps4
          go_wp2_with (first
            | (go_at_call 15; (first | ((with_reducible refine (HS0.out w RI0.out).mono ?_); (rintro ee w' ⟨rfl, rfl⟩)) | ((with_reducible refine (HS1.out w RI1.out).mono ?_); (rintro ee w' ⟨rfl, rfl⟩))))
            | (go_at_call 12; ((with_reducible refine (awake_any w).mono ?_); (rintro ee w1 ⟨rfl, h1⟩; replace RI0 := hid_of (RI0.out.at h1); replace RI1 := hid_of (RI1.out.at h1); replace BC := hid_of (step_b BC.out h1 BC.out.size); clear h1)))
            | (go_at_call 17; ((with_reducible refine (H1.out w1  RI0.out).mono ?_); (rintro ee w2 ⟨xo1, xc1, rfl, h1⟩; replace RI0 := hid_of (RI0.out.at h1.bel); replace RI1 := hid_of (RI1.out.at h1.bel); replace BC := hid_of (step_b BC.out h1.bel BC.out.size); have R1 := hid_of (h1.rd (by rw [ss_length]; have := HB1.out; omega)); clear h1)))
            | (go_at_call 16; (first | ((with_reducible refine (H51.out w2 xo1 xc1 R1.out RI0.out).mono ?_); (rintro ee w3 ⟨rfl, h1⟩; replace RI0 := hid_of (RI0.out.at h1); replace RI1 := hid_of (RI1.out.at h1); replace R1 := hid_of (R1.out.at h1); replace BC := hid_of (step_b BC.out h1 BC.out.size); clear h1)) | ((with_reducible refine (H52.out w4 xo2 xc2 R2.out RI0.out RI1.out).mono ?_); (rintro ee w5 ⟨rfl, h1⟩; replace RI0 := hid_of (RI0.out.at h1); replace RI1 := hid_of (RI1.out.at h1); replace R1 := hid_of (R1.out.at h1); replace R2 := hid_of (R2.out.at h1); replace BC := hid_of (step_b BC.out h1 BC.out.size); clear h1)) | ((with_reducible refine (H53.out w6 xo3 xc3 R3.out RI0.out RI1.out).mono ?_); (rintro ee w7 ⟨rfl, h1⟩; replace RI0 := hid_of (RI0.out.at h1); replace RI1 := hid_of (RI1.out.at h1); replace R1 := hid_of (R1.out.at h1); replace R2 := hid_of (R2.out.at h1); replace R3 := hid_of (R3.out.at h1); replace BC := hid_of (step_b BC.out h1 BC.out.size); clear h1)) | ((with_reducible refine (H54.out w8 xo4 xc4 R4.out RI0.out RI1.out).mono ?_); (rintro ee w9 ⟨rfl, h1⟩; replace RI0 := hid_of (RI0.out.at h1); replace RI1 := hid_of (RI1.out.at h1); replace R1 := hid_of (R1.out.at h1); replace R2 := hid_of (R2.out.at h1); replace R3 := hid_of (R3.out.at h1); replace R4 := hid_of (R4.out.at h1); replace BC := hid_of (step_b BC.out h1 BC.out.size); clear h1))))
            | (go_at_call 18; ((with_reducible refine (H2.out w3  RI0.out RI1.out).mono ?_); (rintro ee w4 ⟨xo2, xc2, rfl, h1⟩; replace RI0 := hid_of (RI0.out.at h1.bel); replace RI1 := hid_of (RI1.out.at h1.bel); replace R1 := hid_of (R1.out.at h1.bel); replace BC := hid_of (step_b BC.out h1.bel BC.out.size); have R2 := hid_of (h1.rd (by rw [ss_length]; have := HB2.out; omega)); clear h1)))
            | (go_at_call 19; ((with_reducible refine (H3.out w5  RI0.out RI1.out).mono ?_); (rintro ee w6 ⟨xo3, xc3, rfl, h1⟩; replace RI0 := hid_of (RI0.out.at h1.bel); replace RI1 := hid_of (RI1.out.at h1.bel); replace R1 := hid_of (R1.out.at h1.bel); replace R2 := hid_of (R2.out.at h1.bel); replace BC := hid_of (step_b BC.out h1.bel BC.out.size); have R3 := hid_of (h1.rd (by rw [ss_length]; have := HB3.out; omega)); clear h1)))
            | (go_at_call 20; ((with_reducible refine (H4.out w7  RI0.out RI1.out).mono ?_); (rintro ee w8 ⟨xo4, xc4, rfl, h1⟩; replace RI0 := hid_of (RI0.out.at h1.bel); replace RI1 := hid_of (RI1.out.at h1.bel); replace R1 := hid_of (R1.out.at h1.bel); replace R2 := hid_of (R2.out.at h1.bel); replace R3 := hid_of (R3.out.at h1.bel); replace BC := hid_of (step_b BC.out h1.bel BC.out.size); have R4 := hid_of (h1.rd (by rw [ss_length]; have := HB4.out; omega)); clear h1)))
            | (go_at_call 21; ((with_reducible refine (H61.out w9 RI0.out).mono ?_); (rintro ee w' ⟨rfl, rfl⟩)))
            | (go_at_call 22; ((with_reducible refine (H62.out w9 RI0.out).mono ?_); (rintro ee w' ⟨rfl, rfl⟩)))
            | (go_at_call 23; ((with_reducible refine (H63.out w9 RI0.out).mono ?_); (rintro ee w10 ⟨rfl, h1⟩; replace RI0 := hid_of (RI0.out.at h1); replace RI1 := hid_of (RI1.out.at h1); replace R1 := hid_of (R1.out.at h1); replace R2 := hid_of (R2.out.at h1); replace R3 := hid_of (R3.out.at h1); replace R4 := hid_of (R4.out.at h1); replace BC := hid_of (step_b BC.out h1 BC.out.size); clear h1)))
            | (go_at_call 24; ((with_reducible refine (H64.out w10 RI0.out).mono ?_); (rintro ee w11 ⟨rfl, h1⟩; replace RI0 := hid_of (RI0.out.at h1); replace RI1 := hid_of (RI1.out.at h1); replace R1 := hid_of (R1.out.at h1); replace R2 := hid_of (R2.out.at h1); replace R3 := hid_of (R3.out.at h1); replace R4 := hid_of (R4.out.at h1); replace BC := hid_of (step_b BC.out h1 BC.out.size); clear h1))))
          go_ret
          exact ⟨rfl, BC.out⟩
end Go.Proofs.Ytkpblmmgaglhoaa
