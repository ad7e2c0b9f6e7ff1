/- The law of all subsets. -/
import Derived.Test.YtpbjnbceloibnaaNamSbw
import Derived.Test.YtpbjnbceloibnaaNamRmin
import Derived.Test.YtpbjnbceloibnaaNamLSub
import Derived.Deep.RegionWith
import Derived.Deep.RegionHeldLaw
import Derived.Deep.DrawnRows
namespace Go.Proofs.Ytpbjnbceloibnaa
open Go.RowKit

set_option maxRecDepth 100000 in
set_option maxHeartbeats 40000000 in
theorem subs_law (a0 : Option Addr) (len0 cap0 : Nat) (l0 : List Str) (w : World) (RX0 : Rd w (.slice a0 len0 cap0) (ss l0)) :
    Calls Try.prog 8 #[.slice a0 len0 cap0] w fun e w' => e = .returned (.bool true) ∧ Below w.heap.size w w' := by
  obtain ⟨s0, hs0⟩ : ∃ s, s = smallB l0 := ⟨_, rfl⟩
  have HS0 : Hid (∀ wx, Rd wx (.slice a0 len0 cap0) (ss l0) → Calls Try.prog 15 #[.slice a0 len0 cap0] wx fun e w' => e = .returned (.bool s0) ∧ wx = w') := hid_of (fun wx q => by rw [hs0]; exact small_any a0 len0 cap0 l0 wx q)
  have RI0 := hid_of RX0
  have BC := hid_of (Below.refl w.heap.size w)
  have HSM0 := hid_of hs0
  clear hs0 RX0
  cases s0
  · go_enter Try.func8, Try.ntmps8
    go_wp2_with (first
      | (go_at_call 15; ((with_reducible refine (HS0.out w RI0.out).mono ?_); (rintro ee w' ⟨rfl, rfl⟩)))
      | (go_at_call 12; ((with_reducible refine (awake_any w).mono ?_); (rintro ee w1 ⟨rfl, h1⟩; replace RI0 := hid_of (RI0.out.at h1); replace BC := hid_of (step_b BC.out h1 BC.out.size); clear h1))))
    go_ret
    exact ⟨rfl, BC.out⟩
  · have SM0 : Hid (l0.length ≤ 30 ∧ ∀ x ∈ l0, x.length ≤ 40) := hid_of (smallB_iff.1 HSM0.out.symm)
    obtain ⟨A, hA⟩ : ∃ A, A = setOf l0 := ⟨_, rfl⟩
    have HLB : Hid (l0.length ≤ big) := hid_of (by have := SM0.out.1; unfold big; omega)
    have OF : Hid (∀ wx, Rd wx (.slice a0 len0 cap0) (ss l0) → Calls Try.prog 30 #[.slice a0 len0 cap0] wx fun e w' => ∃ xo xc, e = .returned (.slice xo A.length xc) ∧ Below wx.heap.size wx w') := hid_of (fun wx q => by
      refine (rof_any a0 len0 cap0 l0 wx q HLB.out).mono ?_
      rintro e w' ⟨xo, xc, rfl, h⟩
      exact ⟨xo, xc, by rw [hA], h.bel⟩)
    have HA := hid_of hA
    by_cases h10 : 10 < A.length
    · have SB : Hid (Calls Try.prog 29 #[.slice a0 len0 cap0] w fun e w' => e = .returned (.tuple #[.slice none 0 0, .int .i64 6]) ∧ Below w.heap.size w w') := hid_of (subsets_big a0 len0 cap0 l0 w RI0.out HLB.out (by rw [← hA]; exact h10))
      obtain ⟨m, hm⟩ : ∃ m, m = A.length := ⟨_, rfl⟩
      rw [← hm] at OF h10
      have hm9 : m ≤ 30 := by have := setOf_le l0; have := SM0.out.1; rw [hm, hA]; omega
      have d1 : decide (10 < m) = true := by simp; omega
      clear hA hm
      go_enter Try.func8, Try.ntmps8
      go_wp2_with (first
        | (go_at_call 15; ((with_reducible refine (HS0.out w RI0.out).mono ?_); (rintro ee w' ⟨rfl, rfl⟩)))
        | (go_at_call 29; ((with_reducible refine (SB.out).mono ?_); (rintro ee w1 ⟨rfl, h1⟩; replace RI0 := hid_of (RI0.out.at h1); replace BC := hid_of (step_b BC.out h1 BC.out.size); clear h1)))
        | (go_at_call 30; ((with_reducible refine (OF.out w1 RI0.out).mono ?_); (rintro ee w2 ⟨xo, xc, rfl, h1⟩; replace RI0 := hid_of (RI0.out.at h1); replace BC := hid_of (step_b BC.out h1 BC.out.size); clear h1)))
        | (go_at_call 12; ((with_reducible refine (awake_any w2).mono ?_); (rintro ee w3 ⟨rfl, h1⟩; replace RI0 := hid_of (RI0.out.at h1); replace BC := hid_of (step_b BC.out h1 BC.out.size); clear h1))))
      go_ret
      exact ⟨rfl, BC.out⟩
    · have SB : Hid (Calls Try.prog 29 #[.slice a0 len0 cap0] w fun e w' => ∃ all xo xc, e = .returned (.tuple #[.slice xo (all : List (List Str)).length xc, .int .i64 0]) ∧ Fam w.heap.size w w' (.slice xo all.length xc) all ∧ Alls A all) := hid_of (by
        rw [hA]; exact subsets_any a0 len0 cap0 l0 w RI0.out HLB.out (by rw [← hA]; omega))
      obtain ⟨m, hm⟩ : ∃ m, m = A.length := ⟨_, rfl⟩
      rw [← hm] at OF h10
      have HM := hid_of hm
      have hm9 : m ≤ 10 := by omega
      have d1 : decide (10 < m) = false := by simp; omega
      clear hA hm
      go_enter Try.func8, Try.ntmps8
      go_wp2_with (first
        | (go_at_call 15; ((with_reducible refine (HS0.out w RI0.out).mono ?_); (rintro ee w' ⟨rfl, rfl⟩)))
        | (go_at_call 29; ((with_reducible refine (SB.out).mono ?_); (rintro ee w1 ⟨all, xo, xc, rfl, hf, hal⟩; replace RI0 := hid_of (RI0.out.at hf.bel); have FA := hid_of hf; have HAL := hid_of hal; clear hf hal)))
        | (go_at_call 30; ((with_reducible refine (OF.out w1 RI0.out).mono ?_); (rintro ee w2 ⟨xo2, xc2, rfl, h1⟩; replace RI0 := hid_of (RI0.out.at h1); replace FA := hid_of (FA.out.later h1); clear h1))))
      have hal : all.length ≤ 1024 := by
        have h1 := HAL.out.1
        have h2 : 2 ^ A.length ≤ 2 ^ 10 := Nat.pow_le_pow_right (by decide) (by have := HM.out; omega)
        omega
      go_loop [6, 7] (fun cv iv => ∃ i c : Nat, iv = .int .i64 i ∧ i ≤ m ∧ cv = .int .i64 c ∧ c ≤ 1024 ∧ Hid (c = 2 ^ i)) (fun _ iv => m - (intOf iv).toNat)
      case atStart => exact ⟨0, 1, rfl, by omega, rfl, by omega, hid_of rfl⟩
      case round =>
        obtain ⟨i, c, rfl, hi, rfl, hc9, hc⟩ := hrel
        by_cases hlt : i < m
        · have hd : decide (i < m) = true := by simp; omega
          have HC2 : Hid (2 * c = 2 ^ (i + 1)) := hid_of (by rw [hc.out, Nat.pow_succ]; omega)
          have hc2 : 2 * c ≤ 1024 := by
            have h2 : 2 ^ (i + 1) ≤ 2 ^ 10 := Nat.pow_le_pow_right (by decide) (by omega)
            have := HC2.out
            omega
          go_wp2
          go_round
          case rel => exact ⟨i + 1, 2 * c, by go_num, by omega, by go_num, hc2, HC2⟩
          case measure => simp [intOf]; omega
        · have hd : decide (i < m) = false := by simp; omega
          have hce : c = all.length := by rw [hc.out, HAL.out.1, ← HM.out, show i = m by omega]
          subst hce
          have B0 := hid_of (Below.refl w2.heap.size w2)
          clear hlt hc
          go_wp2
          clear hd hi
          go_loopw [8] (fun iv wx => ∃ k : Nat, k ≤ all.length ∧ iv = .int .i64 k ∧ Hid (Below w2.heap.size w2 wx)) (fun iv _ => all.length - (intOf iv).toNat)
          case atStart => exact ⟨0, Nat.zero_le _, rfl, B0⟩
          case round =>
            obtain ⟨k, hk, rfl, hb⟩ := hrel
            by_cases hlt : k < all.length
            · have hd : decide (k < all.length) = true := by simp; omega
              obtain ⟨_, g, yo, yc, rfl, _, _⟩ := FA.out.get hlt
              have GT : Hid (∀ i, i < all.length → ∀ wx, Below w2.heap.size w2 wx → ∃ yo yc, wx.cell? ⟨g, i, none⟩ = some (.slice yo (all.getD i []).length yc) ∧ Rd wx (.slice yo (all.getD i []).length yc) (ss (all.getD i []))) := hid_of (fun i hi wx h => by
                obtain ⟨_, g2, yo, yc, e, h1, h2⟩ := (FA.out.later h).get hi
                cases e; exact ⟨yo, yc, h1, h2⟩)
              have hg := HAL.out.2.1 (all.getD k []) (by rw [getDl hlt]; exact List.getElem_mem hlt)
              obtain ⟨T, hT⟩ : ∃ T, T = all.getD k [] := ⟨_, rfl⟩
              rw [← hT] at hg
              have HTL : Hid (T.length ≤ big) := hid_of (by have := ss_sub_le T A hg.1 hg.2; have := HM.out; unfold big; omega)
              have HG := hid_of hg
              obtain ⟨yp, ypc, p1, q1⟩ := GT.out k hlt w2 (Below.refl _ _)
              rw [← hT] at p1 q1
              obtain ⟨tl, htl⟩ : ∃ n, n = T.length := ⟨_, rfl⟩
              rw [← htl] at p1 q1
              have HT := hid_of hT
              have Q1 := hid_of q1
              have P1 := hid_of p1
              have SU : Hid (∀ wx, Below w2.heap.size w2 wx → Calls Try.prog 31 #[.slice yp tl ypc, .slice a0 len0 cap0] wx fun e w' => e = .returned (.bool true) ∧ Below wx.heap.size wx w') := hid_of (fun wx h => rsubset_yes yp tl ypc a0 len0 cap0 T l0 wx (Q1.out.at h) (RI0.out.at h) HTL.out (fun x hx => (setOf_mem l0 x).1 (by rw [← HA.out]; exact HG.out.2 x hx)))
              have SO : Hid (∀ wx, Below w2.heap.size w2 wx → Calls Try.prog 24 #[.slice yp tl ypc] wx fun e w' => e = .returned (.bool true) ∧ Below wx.heap.size wx w') := hid_of (fun wx h => by
                have := rsorted_any yp tl ypc T wx (Q1.out.at h)
                rw [show ssB T = true from decide_eq_true HG.out.1] at this; exact this)
              clear hg hT htl q1 p1
              have b1 : (k : Int) < (all.length : Int) := by omega
              have b2 : (0 : Int) ≤ (k : Int) := by omega
              by_cases h0 : k = 0
              · subst h0
                have CE : Hid (∀ wx, Below w2.heap.size w2 wx → wx.cell? ⟨g, 0, none⟩ = some (.slice yp tl ypc)) := hid_of (fun wx h => (h.cell (p := ⟨g, 0, none⟩) (World.block_lt_of_cell? _ _ P1.out)).trans P1.out)
                have C1 := CE.out _ hb.out
                go_wp2
                refine wp_region_held_drew (S := fun W => W.cell? ⟨g, 0, none⟩ = some (.slice yp tl ypc)) (by kernel_rfl) C1 (fun hHeld => ?_)
                refine wpAnyH_take (i := 0) (v := ?_) (by first | (simp only [List.getElem?_toArray, List.getElem?_cons_succ, List.getElem?_cons_zero]; done) | (simp only [List.getElem?_toArray, List.getElem?_cons_succ, List.getElem?_cons_zero]; rfl)) (by kernel_rfl) (by kernel_rfl) (by kernel_rfl) (by intro _ _ _ h; exact h) (Or.inl ⟨by rfl, ?_⟩) (by assumption) ?_
                rotate_left 1
                · (intro w hSw; (try dsimp only at hSw); go_simp; try with_reducible rfl)
                try simp only [Act.put, List.setIfInBounds_toArray, List.set_cons_zero, List.set_cons_succ]
                refine wpAnyH_take (i := 1) (v := ?_) (by first | (simp only [List.getElem?_toArray, List.getElem?_cons_succ, List.getElem?_cons_zero]; done) | (simp only [List.getElem?_toArray, List.getElem?_cons_succ, List.getElem?_cons_zero]; rfl)) (by kernel_rfl) (by kernel_rfl) (by kernel_rfl) (by intro _ _ _ h; exact h) (Or.inl ⟨by rfl, ?_⟩) (by assumption) ?_
                rotate_left 1
                · (intro w hSw; (try dsimp only at hSw); go_simp; try with_reducible rfl)
                try simp only [Act.put, List.setIfInBounds_toArray, List.set_cons_zero, List.set_cons_succ]
                refine wpAnyH_take (i := 2) (v := ?_) (by first | (simp only [List.getElem?_toArray, List.getElem?_cons_succ, List.getElem?_cons_zero]; done) | (simp only [List.getElem?_toArray, List.getElem?_cons_succ, List.getElem?_cons_zero]; rfl)) (by kernel_rfl) (by kernel_rfl) (by kernel_rfl) (by intro _ _ _ h; exact h) (Or.inl ⟨by rfl, ?_⟩) (by assumption) ?_
                rotate_left 1
                · (intro w hSw; (try dsimp only at hSw); go_simp; try with_reducible rfl)
                try simp only [Act.put, List.setIfInBounds_toArray, List.set_cons_zero, List.set_cons_succ]
                refine wpAnyH_take (i := 3) (v := ?_) (by first | (simp only [List.getElem?_toArray, List.getElem?_cons_succ, List.getElem?_cons_zero]; done) | (simp only [List.getElem?_toArray, List.getElem?_cons_succ, List.getElem?_cons_zero]; rfl)) (by kernel_rfl) (by kernel_rfl) (by kernel_rfl) (by intro _ _ _ h; exact h) (Or.inl ⟨by rfl, ?_⟩) (by assumption) ?_
                rotate_left 1
                · (intro w hSw; (try dsimp only at hSw); go_simp; try with_reducible rfl)
                try simp only [Act.put, List.setIfInBounds_toArray, List.set_cons_zero, List.set_cons_succ]
                refine wpAnyH_take (i := 4) (v := ?_) (by first | (simp only [List.getElem?_toArray, List.getElem?_cons_succ, List.getElem?_cons_zero]; done) | (simp only [List.getElem?_toArray, List.getElem?_cons_succ, List.getElem?_cons_zero]; rfl)) (by kernel_rfl) (by kernel_rfl) (by kernel_rfl) (by intro _ _ _ h; exact h) (Or.inl ⟨by rfl, ?_⟩) (by assumption) ?_
                rotate_left 1
                · (intro w hSw; (try dsimp only at hSw); go_simp; try with_reducible rfl)
                try simp only [Act.put, List.setIfInBounds_toArray, List.set_cons_zero, List.set_cons_succ]
                refine wpAnyH_ready (rs := [5]) (by kernel_rfl) (by simp) ?_
                refine AllReadyH.cons (by first | (simp only [List.getElem?_toArray, List.getElem?_cons_succ, List.getElem?_cons_zero]; done) | (simp only [List.getElem?_toArray, List.getElem?_cons_succ, List.getElem?_cons_zero]; rfl)) (fun K hK => ?_) AllReadyH.nil
                go_simp
                (go_at_call 31; ((with_reducible refine (SU.out _ (hb.out.drew)).mono ?_); (rintro ee w5 ⟨rfl, h5⟩; have B5 := hid_of (hb.out.drew.trans (h5.mono hb.out.size)); have C5 := CE.out _ B5.out; clear h5)))
                refine hK.out _ _ ?_ (fun hHeld => ?_)
                · exact C5
                clear hK K
                try simp only [Act.put, List.setIfInBounds_toArray, List.set_cons_zero, List.set_cons_succ]
                refine wpAnyH_take (i := 6) (v := ?_) (by first | (simp only [List.getElem?_toArray, List.getElem?_cons_succ, List.getElem?_cons_zero]; done) | (simp only [List.getElem?_toArray, List.getElem?_cons_succ, List.getElem?_cons_zero]; rfl)) (by kernel_rfl) (by kernel_rfl) (by kernel_rfl) (by intro _ _ _ h; exact h) (Or.inl ⟨by rfl, ?_⟩) (by assumption) ?_
                rotate_left 1
                · (intro w hSw; (try dsimp only at hSw); go_simp; try with_reducible rfl)
                try simp only [Act.put, List.setIfInBounds_toArray, List.set_cons_zero, List.set_cons_succ]
                refine wpAnyH_take (i := 7) (v := ?_) (by first | (simp only [List.getElem?_toArray, List.getElem?_cons_succ, List.getElem?_cons_zero]; done) | (simp only [List.getElem?_toArray, List.getElem?_cons_succ, List.getElem?_cons_zero]; rfl)) (by kernel_rfl) (by kernel_rfl) (by kernel_rfl) (by intro _ _ _ h; exact h) (Or.inl ⟨by rfl, ?_⟩) (by assumption) ?_
                rotate_left 1
                · (intro w hSw; (try dsimp only at hSw); go_simp; try with_reducible rfl)
                try simp only [Act.put, List.setIfInBounds_toArray, List.set_cons_zero, List.set_cons_succ]
                refine wpAnyH_take (i := 8) (v := ?_) (by first | (simp only [List.getElem?_toArray, List.getElem?_cons_succ, List.getElem?_cons_zero]; done) | (simp only [List.getElem?_toArray, List.getElem?_cons_succ, List.getElem?_cons_zero]; rfl)) (by kernel_rfl) (by kernel_rfl) (by kernel_rfl) (by intro _ _ _ h; exact h) (Or.inl ⟨by rfl, ?_⟩) (by assumption) ?_
                rotate_left 1
                · (intro w hSw; (try dsimp only at hSw); go_simp; try with_reducible rfl)
                try simp only [Act.put, List.setIfInBounds_toArray, List.set_cons_zero, List.set_cons_succ]
                refine wpAnyH_take (i := 9) (v := ?_) (by first | (simp only [List.getElem?_toArray, List.getElem?_cons_succ, List.getElem?_cons_zero]; done) | (simp only [List.getElem?_toArray, List.getElem?_cons_succ, List.getElem?_cons_zero]; rfl)) (by kernel_rfl) (by kernel_rfl) (by kernel_rfl) (by intro _ _ _ h; exact h) (Or.inl ⟨by rfl, ?_⟩) (by assumption) ?_
                rotate_left 1
                · (intro w hSw; (try dsimp only at hSw); go_simp; try with_reducible rfl)
                try simp only [Act.put, List.setIfInBounds_toArray, List.set_cons_zero, List.set_cons_succ]
                refine wpAnyH_take (i := 10) (v := ?_) (by first | (simp only [List.getElem?_toArray, List.getElem?_cons_succ, List.getElem?_cons_zero]; done) | (simp only [List.getElem?_toArray, List.getElem?_cons_succ, List.getElem?_cons_zero]; rfl)) (by kernel_rfl) (by kernel_rfl) (by kernel_rfl) (by intro _ _ _ h; exact h) (Or.inl ⟨by rfl, ?_⟩) (by assumption) ?_
                rotate_left 1
                · (intro w hSw; (try dsimp only at hSw); go_simp; try with_reducible rfl)
                try simp only [Act.put, List.setIfInBounds_toArray, List.set_cons_zero, List.set_cons_succ]
                refine wpAnyH_take (i := 11) (v := ?_) (by first | (simp only [List.getElem?_toArray, List.getElem?_cons_succ, List.getElem?_cons_zero]; done) | (simp only [List.getElem?_toArray, List.getElem?_cons_succ, List.getElem?_cons_zero]; rfl)) (by kernel_rfl) (by kernel_rfl) (by kernel_rfl) (by intro _ _ _ h; exact h) (Or.inl ⟨by rfl, ?_⟩) (by assumption) ?_
                rotate_left 1
                · (intro w hSw; (try dsimp only at hSw); go_simp; try with_reducible rfl)
                try simp only [Act.put, List.setIfInBounds_toArray, List.set_cons_zero, List.set_cons_succ]
                refine wpAnyH_ready (rs := [12]) (by kernel_rfl) (by simp) ?_
                refine AllReadyH.cons (by first | (simp only [List.getElem?_toArray, List.getElem?_cons_succ, List.getElem?_cons_zero]; done) | (simp only [List.getElem?_toArray, List.getElem?_cons_succ, List.getElem?_cons_zero]; rfl)) (fun K hK => ?_) AllReadyH.nil
                go_simp
                (go_at_call 24; ((with_reducible refine (SO.out _ B5.out).mono ?_); (rintro ee w6 ⟨rfl, h6⟩; have B6 := hid_of (B5.out.trans (h6.mono B5.out.size)); have C6 := CE.out _ B6.out; clear h6)))
                refine hK.out _ _ ?_ (fun hHeld => ?_)
                · exact C6
                clear hK K
                try simp only [Act.put, List.setIfInBounds_toArray, List.set_cons_zero, List.set_cons_succ]
                refine wpAnyH_take (i := 13) (v := ?_) (by first | (simp only [List.getElem?_toArray, List.getElem?_cons_succ, List.getElem?_cons_zero]; done) | (simp only [List.getElem?_toArray, List.getElem?_cons_succ, List.getElem?_cons_zero]; rfl)) (by kernel_rfl) (by kernel_rfl) (by kernel_rfl) (by intro _ _ _ h; exact h) (Or.inl ⟨by rfl, ?_⟩) (by assumption) ?_
                rotate_left 1
                · (intro w hSw; (try dsimp only at hSw); go_simp; try with_reducible rfl)
                try simp only [Act.put, List.setIfInBounds_toArray, List.set_cons_zero, List.set_cons_succ]
                refine wpAnyH_take (i := 14) (v := ?_) (by first | (simp only [List.getElem?_toArray, List.getElem?_cons_succ, List.getElem?_cons_zero]; done) | (simp only [List.getElem?_toArray, List.getElem?_cons_succ, List.getElem?_cons_zero]; rfl)) (by kernel_rfl) (by kernel_rfl) (by kernel_rfl) (by intro _ _ _ h; exact h) (Or.inl ⟨by rfl, ?_⟩) (by assumption) ?_
                rotate_left 1
                · (intro w hSw; (try dsimp only at hSw); go_simp; try with_reducible rfl)
                try simp only [Act.put, List.setIfInBounds_toArray, List.set_cons_zero, List.set_cons_succ]
                refine wpAnyH_take (i := 15) (v := ?_) (by first | (simp only [List.getElem?_toArray, List.getElem?_cons_succ, List.getElem?_cons_zero]; done) | (simp only [List.getElem?_toArray, List.getElem?_cons_succ, List.getElem?_cons_zero]; rfl)) (by kernel_rfl) (by kernel_rfl) (by kernel_rfl) (by intro _ _ _ h; exact h) (Or.inl ⟨by rfl, ?_⟩) (by assumption) ?_
                rotate_left 1
                · (intro w hSw; (try dsimp only at hSw); go_simp; try with_reducible rfl)
                try simp only [Act.put, List.setIfInBounds_toArray, List.set_cons_zero, List.set_cons_succ]
                refine wpAnyH_take (i := 16) (v := ?_) (by first | (simp only [List.getElem?_toArray, List.getElem?_cons_succ, List.getElem?_cons_zero]; done) | (simp only [List.getElem?_toArray, List.getElem?_cons_succ, List.getElem?_cons_zero]; rfl)) (by kernel_rfl) (by kernel_rfl) (by kernel_rfl) (by intro _ _ _ h; exact h) (Or.inl ⟨by rfl, ?_⟩) (by assumption) ?_
                rotate_left 1
                · (intro w hSw; (try dsimp only at hSw); go_simp; try with_reducible rfl)
                try simp only [Act.put, List.setIfInBounds_toArray, List.set_cons_zero, List.set_cons_succ]
                refine wpAnyH_take (i := 17) (v := ?_) (by first | (simp only [List.getElem?_toArray, List.getElem?_cons_succ, List.getElem?_cons_zero]; done) | (simp only [List.getElem?_toArray, List.getElem?_cons_succ, List.getElem?_cons_zero]; rfl)) (by kernel_rfl) (by kernel_rfl) (by kernel_rfl) (by intro _ _ _ h; exact h) (Or.inl ⟨by rfl, ?_⟩) (by assumption) ?_
                rotate_left 1
                · (intro w hSw; (try dsimp only at hSw); go_simp; try with_reducible rfl)
                try simp only [Act.put, List.setIfInBounds_toArray, List.set_cons_zero, List.set_cons_succ]
                refine wpAnyH_take (i := 18) (v := ?_) (by first | (simp only [List.getElem?_toArray, List.getElem?_cons_succ, List.getElem?_cons_zero]; done) | (simp only [List.getElem?_toArray, List.getElem?_cons_succ, List.getElem?_cons_zero]; rfl)) (by kernel_rfl) (by kernel_rfl) (by kernel_rfl) (by intro _ _ _ h; exact h) (Or.inl ⟨by rfl, ?_⟩) (by assumption) ?_
                rotate_left 1
                · (intro w hSw; (try dsimp only at hSw); go_simp; try with_reducible rfl)
                try simp only [Act.put, List.setIfInBounds_toArray, List.set_cons_zero, List.set_cons_succ]
                refine wpAnyH_take (i := 19) (v := undef) (by first | (simp only [List.getElem?_toArray, List.getElem?_cons_succ, List.getElem?_cons_zero]; done) | (simp only [List.getElem?_toArray, List.getElem?_cons_succ, List.getElem?_cons_zero]; rfl)) (by kernel_rfl) (by kernel_rfl) (by kernel_rfl) (by intro _ _ _ h; exact h) (Or.inr ⟨by rfl, rfl⟩) (by assumption) ?_
                try simp only [Act.put, List.setIfInBounds_toArray, List.set_cons_zero, List.set_cons_succ]
                refine wpAnyH_take (i := 20) (v := undef) (by first | (simp only [List.getElem?_toArray, List.getElem?_cons_succ, List.getElem?_cons_zero]; done) | (simp only [List.getElem?_toArray, List.getElem?_cons_succ, List.getElem?_cons_zero]; rfl)) (by kernel_rfl) (by kernel_rfl) (by kernel_rfl) (by intro _ _ _ h; exact h) (Or.inr ⟨by rfl, rfl⟩) (by assumption) ?_
                try simp only [Act.put, List.setIfInBounds_toArray, List.set_cons_zero, List.set_cons_succ]
                refine wpAnyH_take (i := 21) (v := undef) (by first | (simp only [List.getElem?_toArray, List.getElem?_cons_succ, List.getElem?_cons_zero]; done) | (simp only [List.getElem?_toArray, List.getElem?_cons_succ, List.getElem?_cons_zero]; rfl)) (by kernel_rfl) (by kernel_rfl) (by kernel_rfl) (by intro _ _ _ h; exact h) (Or.inr ⟨by rfl, rfl⟩) (by assumption) ?_
                try simp only [Act.put, List.setIfInBounds_toArray, List.set_cons_zero, List.set_cons_succ]
                refine wpAnyH_take (i := 22) (v := undef) (by first | (simp only [List.getElem?_toArray, List.getElem?_cons_succ, List.getElem?_cons_zero]; done) | (simp only [List.getElem?_toArray, List.getElem?_cons_succ, List.getElem?_cons_zero]; rfl)) (by kernel_rfl) (by kernel_rfl) (by kernel_rfl) (by intro _ _ _ h; exact h) (Or.inr ⟨by rfl, rfl⟩) (by assumption) ?_
                try simp only [Act.put, List.setIfInBounds_toArray, List.set_cons_zero, List.set_cons_succ]
                refine wpAnyH_take (i := 23) (v := undef) (by first | (simp only [List.getElem?_toArray, List.getElem?_cons_succ, List.getElem?_cons_zero]; done) | (simp only [List.getElem?_toArray, List.getElem?_cons_succ, List.getElem?_cons_zero]; rfl)) (by kernel_rfl) (by kernel_rfl) (by kernel_rfl) (by intro _ _ _ h; exact h) (Or.inr ⟨by rfl, rfl⟩) (by assumption) ?_
                try simp only [Act.put, List.setIfInBounds_toArray, List.set_cons_zero, List.set_cons_succ]
                refine wpAnyH_take (i := 24) (v := undef) (by first | (simp only [List.getElem?_toArray, List.getElem?_cons_succ, List.getElem?_cons_zero]; done) | (simp only [List.getElem?_toArray, List.getElem?_cons_succ, List.getElem?_cons_zero]; rfl)) (by kernel_rfl) (by kernel_rfl) (by kernel_rfl) (by intro _ _ _ h; exact h) (Or.inr ⟨by rfl, rfl⟩) (by assumption) ?_
                try simp only [Act.put, List.setIfInBounds_toArray, List.set_cons_zero, List.set_cons_succ]
                refine wpAnyH_take (i := 25) (v := undef) (by first | (simp only [List.getElem?_toArray, List.getElem?_cons_succ, List.getElem?_cons_zero]; done) | (simp only [List.getElem?_toArray, List.getElem?_cons_succ, List.getElem?_cons_zero]; rfl)) (by kernel_rfl) (by kernel_rfl) (by kernel_rfl) (by intro _ _ _ h; exact h) (Or.inr ⟨by rfl, rfl⟩) (by assumption) ?_
                try simp only [Act.put, List.setIfInBounds_toArray, List.set_cons_zero, List.set_cons_succ]
                refine wpAnyH_take (i := 26) (v := undef) (by first | (simp only [List.getElem?_toArray, List.getElem?_cons_succ, List.getElem?_cons_zero]; done) | (simp only [List.getElem?_toArray, List.getElem?_cons_succ, List.getElem?_cons_zero]; rfl)) (by kernel_rfl) (by kernel_rfl) (by kernel_rfl) (by intro _ _ _ h; exact h) (Or.inr ⟨by rfl, rfl⟩) (by assumption) ?_
                try simp only [Act.put, List.setIfInBounds_toArray, List.set_cons_zero, List.set_cons_succ]
                refine wpAnyH_take (i := 27) (v := undef) (by first | (simp only [List.getElem?_toArray, List.getElem?_cons_succ, List.getElem?_cons_zero]; done) | (simp only [List.getElem?_toArray, List.getElem?_cons_succ, List.getElem?_cons_zero]; rfl)) (by kernel_rfl) (by kernel_rfl) (by kernel_rfl) (by intro _ _ _ h; exact h) (Or.inr ⟨by rfl, rfl⟩) (by assumption) ?_
                try simp only [Act.put, List.setIfInBounds_toArray, List.set_cons_zero, List.set_cons_succ]
                refine wpAnyH_take (i := 28) (v := undef) (by first | (simp only [List.getElem?_toArray, List.getElem?_cons_succ, List.getElem?_cons_zero]; done) | (simp only [List.getElem?_toArray, List.getElem?_cons_succ, List.getElem?_cons_zero]; rfl)) (by kernel_rfl) (by kernel_rfl) (by kernel_rfl) (by intro _ _ _ h; exact h) (Or.inr ⟨by rfl, rfl⟩) (by assumption) ?_
                try simp only [Act.put, List.setIfInBounds_toArray, List.set_cons_zero, List.set_cons_succ]
                refine wpAnyH_take (i := 29) (v := undef) (by first | (simp only [List.getElem?_toArray, List.getElem?_cons_succ, List.getElem?_cons_zero]; done) | (simp only [List.getElem?_toArray, List.getElem?_cons_succ, List.getElem?_cons_zero]; rfl)) (by kernel_rfl) (by kernel_rfl) (by kernel_rfl) (by intro _ _ _ h; exact h) (Or.inr ⟨by rfl, rfl⟩) (by assumption) ?_
                try simp only [Act.put, List.setIfInBounds_toArray, List.set_cons_zero, List.set_cons_succ]
                refine wpAnyH_take (i := 30) (v := ?_) (by first | (simp only [List.getElem?_toArray, List.getElem?_cons_succ, List.getElem?_cons_zero]; done) | (simp only [List.getElem?_toArray, List.getElem?_cons_succ, List.getElem?_cons_zero]; rfl)) (by kernel_rfl) (by kernel_rfl) (by kernel_rfl) (by intro _ _ _ h; exact h) (Or.inl ⟨by rfl, ?_⟩) (by assumption) ?_
                rotate_left 1
                · (intro w hSw; (try dsimp only at hSw); go_simp; try with_reducible rfl)
                try simp only [Act.put, List.setIfInBounds_toArray, List.set_cons_zero, List.set_cons_succ]
                refine wpAnyH_take (i := 31) (v := ?_) (by first | (simp only [List.getElem?_toArray, List.getElem?_cons_succ, List.getElem?_cons_zero]; done) | (simp only [List.getElem?_toArray, List.getElem?_cons_succ, List.getElem?_cons_zero]; rfl)) (by kernel_rfl) (by kernel_rfl) (by kernel_rfl) (by intro _ _ _ h; exact h) (Or.inl ⟨by rfl, ?_⟩) (by assumption) ?_
                rotate_left 1
                · (intro w hSw; (try dsimp only at hSw); go_simp; try with_reducible rfl)
                try simp only [Act.put, List.setIfInBounds_toArray, List.set_cons_zero, List.set_cons_succ]
                refine wpAnyH_done (by kernel_rfl) ?_ _
                all_goals
                  go_wp2
                  go_roundw
                  case rel => exact ⟨1, by omega, by go_num, B6⟩
                  case measure => simp [intOf]; omega
              · have g0 : decide (0 < k) = true := by simp; omega
                obtain ⟨j, hj⟩ : ∃ j, j + 1 = k := ⟨k - 1, by omega⟩
                have hjl : j < all.length := by omega
                obtain ⟨zo, zc, p2, q2⟩ := GT.out j hjl w2 (Below.refl _ _)
                have hinc := HAL.out.2.2 j (by omega)
                rw [hj, ← HT.out] at hinc
                obtain ⟨Z, hZ⟩ : ∃ Z, Z = all.getD j [] := ⟨_, rfl⟩
                have hgz := HAL.out.2.1 (all.getD j []) (by rw [getDl hjl]; exact List.getElem_mem hjl)
                rw [← hZ] at p2 q2 hinc hgz
                obtain ⟨zl, hzl⟩ : ∃ n, n = Z.length := ⟨_, rfl⟩
                rw [← hzl] at p2 q2
                have P2 := hid_of p2
                have Q2 := hid_of q2
                have HZ9 : Hid (Z.length ≤ big) := hid_of (by have := ss_sub_le Z A hgz.1 hgz.2; have := HM.out; unfold big; omega)
                have HIN := hid_of hinc
                have HGZ := hid_of hgz
                have CM : Hid (∀ wx, Below w2.heap.size w2 wx → Calls Try.prog 28 #[.slice zo zl zc, .slice yp tl ypc] wx fun e w' => e = .returned (.int .i64 (-1)) ∧ Below wx.heap.size wx w') := hid_of (fun wx h => by
                  have := rcompare_any zo zl zc yp tl ypc Z T wx (Q2.out.at h) (Q1.out.at h) HZ9.out HTL.out
                  rw [setOf_self HGZ.out.1, setOf_self HG.out.1, HIN.out] at this; exact this)
                have s1 : IntKind.i64.wrap ((k : Int) - 1) = (j : Int) := by rw [IntWalk.i64_in _ (by omega)]; omega
                have b3 : (j : Int) < (all.length : Int) := by omega
                have b4 : (0 : Int) ≤ (j : Int) := by omega
                have CE : Hid (∀ wx, Below w2.heap.size w2 wx → wx.cell? ⟨g, k, none⟩ = some (.slice yp tl ypc) ∧ wx.cell? ⟨g, j, none⟩ = some (.slice zo zl zc)) := hid_of (fun wx h => ⟨(h.cell (p := ⟨g, k, none⟩) (World.block_lt_of_cell? _ _ P1.out)).trans P1.out, (h.cell (p := ⟨g, j, none⟩) (World.block_lt_of_cell? _ _ P2.out)).trans P2.out⟩)
                obtain ⟨C1, C2⟩ := CE.out _ hb.out
                clear hj p2 q2 hinc hgz hZ hzl h0
                go_wp2
                go_region_held_law (fun W => W.cell? ⟨g, k, none⟩ = some (.slice yp tl ypc) ∧ W.cell? ⟨g, j, none⟩ = some (.slice zo zl zc)) (first | exact C7 | exact C6 | exact C5 | exact ⟨C1, C2⟩ | go_keep) (first
                  | (go_at_call 31; ((with_reducible refine (SU.out _ (hb.out.drew)).mono ?_); (rintro ee w5 ⟨rfl, h5⟩; have B5 := hid_of (hb.out.drew.trans (h5.mono hb.out.size)); have C5 := CE.out _ B5.out; clear h5)))
                  | (go_at_call 24; ((with_reducible refine (SO.out _ B5.out).mono ?_); (rintro ee w6 ⟨rfl, h6⟩; have B6 := hid_of (B5.out.trans (h6.mono B5.out.size)); have C6 := CE.out _ B6.out; clear h6)))
                  | (go_at_call 28; ((with_reducible refine (CM.out _ B6.out).mono ?_); (rintro ee w7 ⟨rfl, h7⟩; have B7 := hid_of (B6.out.trans (h7.mono B6.out.size)); have C7 := CE.out _ B7.out; clear h7))))
                all_goals
                  go_wp2
                  go_roundw
                  case rel => exact ⟨k + 1, by omega, by go_num, B7⟩
                  case measure => simp [intOf]; omega
            · have hd : decide (k < all.length) = false := by simp; omega
              have BZ := hid_of (FA.out.later hb.out).bel
              go_wp2_with (go_at_call 12; ((with_reducible refine (awake_any _).mono ?_); (rintro ee w9 ⟨rfl, h1⟩; have BY := hid_of (step_b BZ.out h1 BZ.out.size); clear h1)))
              go_ret
              exact ⟨rfl, BY.out⟩
end Go.Proofs.Ytpbjnbceloibnaa
