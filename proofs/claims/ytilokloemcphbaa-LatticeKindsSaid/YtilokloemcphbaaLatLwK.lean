/- The law on kinds. Bounds on sizes alone. -/
import Derived.Test.YtilokloemcphbaaLatAwk
import Derived.Test.YtilokloemcphbaaLatPrt
import Derived.Test.YtilokloemcphbaaLatRfi
import Derived.Test.YtilokloemcphbaaLatRde
import Derived.Test.YtilokloemcphbaaLatOpn
namespace Go.Proofs.Ytilokloemcphbaa
open Go.RowKit

theorem redrew {w0 w : World} (h : Below w0.heap.size w0 w) : Below w0.heap.size w0 w.drew := ⟨h.os, h.tape, h.output, h.size, h.block⟩
set_option maxRecDepth 100000 in
set_option maxHeartbeats 12800000 in
theorem kinds_law (t : Lat) (k lo hi : Int) (an : Option Addr) (nn cn : Nat) (ap : Option Addr) (np cp : Nat) (ar : Option Addr) (nr cr : Nat) (w : World) (H1 : LO w k lo hi an nn cn ap np cp ar nr cr t) : Calls Try.prog 5 #[.agg #[.int .i64 k, .int .i64 lo, .int .i64 hi, .slice an nn cn, .slice ap np cp, .slice ar nr cr]] w (BoP true w) := by
  have HBB := hid_of (bel_alloc w (.cells #[.int .i64 k, .int .i64 lo, .int .i64 hi, .slice an nn cn, .slice ap np cp, .slice ar nr cr] 26))
  have HC := hid_of (fun (w' : World) (h : Below (w.alloc (.cells #[.int .i64 k, .int .i64 lo, .int .i64 hi, .slice an nn cn, .slice ap np cp, .slice ar nr cr] 26)).heap.size (w.alloc (.cells #[.int .i64 k, .int .i64 lo, .int .i64 hi, .slice an nn cn, .slice ap np cp, .slice ar nr cr] 26)) w') => box6 k lo hi an nn cn ap np cp ar nr cr h)
  have AW := hid_of (fun w => awake_any w)
  have RH := hid_of (fun (wz : World) (hz : Below (w.alloc (.cells #[.int .i64 k, .int .i64 lo, .int .i64 hi, .slice an nn cn, .slice ap np cp, .slice ar nr cr] 26)).heap.size (w.alloc (.cells #[.int .i64 k, .int .i64 lo, .int .i64 hi, .slice an nn cn, .slice ap np cp, .slice ar nr cr] 26)) wz) => rcheck_any t k lo hi an nn cn ap np cp ar nr cr wz (H1.at (HBB.out.trans (hz.mono HBB.out.size))))
  obtain ⟨r, hr⟩ : ∃ r, r = chkL t := ⟨_, rfl⟩
  rw [← hr] at RH
  obtain ⟨cs00, cs01, cs02, cs03, cs04, cs05⟩ := HC.out (w.alloc (.cells #[.int .i64 k, .int .i64 lo, .int .i64 hi, .slice an nn cn, .slice ap np cp, .slice ar nr cr] 26)) (Below.refl _ _)
  by_cases h0 : r = 0
  case neg =>
    have e0 : (r == 0) = false := beq_eq_false_iff_ne.2 h0
    have e0' : (r != 0) = true := bne_iff_ne.2 h0
    clear hr H1 h0
    go_enter Try.func5, Try.ntmps5
    go_wp2_with (first
      | (go_at_call 11; ((with_reducible refine (AW.out _).mono ?_); (rintro e w1 ⟨rfl, h1⟩); (have E1 := hid_of (h1)); (have cs1 := HC.out w1 E1.out); (obtain ⟨cs10, cs11, cs12, cs13, cs14, cs15⟩ := HC.out w1 E1.out); clear h1))
      | (go_at_call 13; ((with_reducible refine (RH.out w1 E1.out).mono ?_); (rintro e w2 ⟨rfl, h2⟩); (have E2 := hid_of (E1.out.trans (h2.mono E1.out.size))); (have cs2 := HC.out w2 E2.out); clear h2)))
    go_ret
    exact ⟨rfl, HBB.out.trans (E2.out.mono HBB.out.size)⟩
  subst h0
  have hok := okay_of t 1 0 hr.symm
  have hdp := chkT_depth t 1 0 hr.symm
  have C1 := hid_of (fun (wz : World) (hz : Below (w.alloc (.cells #[.int .i64 k, .int .i64 lo, .int .i64 hi, .slice an nn cn, .slice ap np cp, .slice ar nr cr] 26)).heap.size (w.alloc (.cells #[.int .i64 k, .int .i64 lo, .int .i64 hi, .slice an nn cn, .slice ap np cp, .slice ar nr cr] 26)) wz) => chain_any t k lo hi an nn cn ap np cp ar nr cr wz (H1.at (HBB.out.trans (hz.mono HBB.out.size))))
  have R1 := hid_of (fun (wz : World) (hz : Below (w.alloc (.cells #[.int .i64 k, .int .i64 lo, .int .i64 hi, .slice an nn cn, .slice ap np cp, .slice ar nr cr] 26)).heap.size (w.alloc (.cells #[.int .i64 k, .int .i64 lo, .int .i64 hi, .slice an nn cn, .slice ap np cp, .slice ar nr cr] 26)) wz) => rchain_any t k lo hi an nn cn ap np cp ar nr cr wz (H1.at (HBB.out.trans (hz.mono HBB.out.size))))
  have C2 := hid_of (fun (wz : World) (hz : Below (w.alloc (.cells #[.int .i64 k, .int .i64 lo, .int .i64 hi, .slice an nn cn, .slice ap np cp, .slice ar nr cr] 26)).heap.size (w.alloc (.cells #[.int .i64 k, .int .i64 lo, .int .i64 hi, .slice an nn cn, .slice ap np cp, .slice ar nr cr] 26)) wz) => finite_any t k lo hi an nn cn ap np cp ar nr cr wz (H1.at (HBB.out.trans (hz.mono HBB.out.size))))
  have R2 := hid_of (fun (wz : World) (hz : Below (w.alloc (.cells #[.int .i64 k, .int .i64 lo, .int .i64 hi, .slice an nn cn, .slice ap np cp, .slice ar nr cr] 26)).heap.size (w.alloc (.cells #[.int .i64 k, .int .i64 lo, .int .i64 hi, .slice an nn cn, .slice ap np cp, .slice ar nr cr] 26)) wz) => rfin_any t k lo hi an nn cn ap np cp ar nr cr wz (H1.at (HBB.out.trans (hz.mono HBB.out.size))))
  have C3 := hid_of (fun (wz : World) (hz : Below (w.alloc (.cells #[.int .i64 k, .int .i64 lo, .int .i64 hi, .slice an nn cn, .slice ap np cp, .slice ar nr cr] 26)).heap.size (w.alloc (.cells #[.int .i64 k, .int .i64 lo, .int .i64 hi, .slice an nn cn, .slice ap np cp, .slice ar nr cr] 26)) wz) => dist_any t k lo hi an nn cn ap np cp ar nr cr wz (H1.at (HBB.out.trans (hz.mono HBB.out.size))))
  have R3 := hid_of (fun (wz : World) (hz : Below (w.alloc (.cells #[.int .i64 k, .int .i64 lo, .int .i64 hi, .slice an nn cn, .slice ap np cp, .slice ar nr cr] 26)).heap.size (w.alloc (.cells #[.int .i64 k, .int .i64 lo, .int .i64 hi, .slice an nn cn, .slice ap np cp, .slice ar nr cr] 26)) wz) => rdist_any t k lo hi an nn cn ap np cp ar nr cr wz (H1.at (HBB.out.trans (hz.mono HBB.out.size))))
  obtain ⟨q4, hq4⟩ : ∃ q4, q4 = depthL t := ⟨_, rfl⟩
  have C4 : Hid (∀ (wz : World) (hz : Below (w.alloc (.cells #[.int .i64 k, .int .i64 lo, .int .i64 hi, .slice an nn cn, .slice ap np cp, .slice ar nr cr] 26)).heap.size (w.alloc (.cells #[.int .i64 k, .int .i64 lo, .int .i64 hi, .slice an nn cn, .slice ap np cp, .slice ar nr cr] 26)) wz), Calls Try.prog 22 #[.agg #[.int .i64 k, .int .i64 lo, .int .i64 hi, .slice an nn cn, .slice ap np cp, .slice ar nr cr]] wz fun e w' => e = .returned (.int .i64 (q4 : Nat)) ∧ Below wz.heap.size wz w') := hid_of (fun wz hz => by rw [hq4]; exact depth_any t k lo hi an nn cn ap np cp ar nr cr wz (H1.at (HBB.out.trans (hz.mono HBB.out.size))) (by omega))
  have R4 : Hid (∀ (wz : World) (hz : Below (w.alloc (.cells #[.int .i64 k, .int .i64 lo, .int .i64 hi, .slice an nn cn, .slice ap np cp, .slice ar nr cr] 26)).heap.size (w.alloc (.cells #[.int .i64 k, .int .i64 lo, .int .i64 hi, .slice an nn cn, .slice ap np cp, .slice ar nr cr] 26)) wz), Calls Try.prog 23 #[.agg #[.int .i64 k, .int .i64 lo, .int .i64 hi, .slice an nn cn, .slice ap np cp, .slice ar nr cr]] wz fun e w' => e = .returned (.int .i64 (q4 : Nat)) ∧ Below wz.heap.size wz w') := hid_of (fun wz hz => by rw [hq4]; exact rdepth_any t k lo hi an nn cn ap np cp ar nr cr wz (H1.at (HBB.out.trans (hz.mono HBB.out.size))) (by omega))
  have h44 : (q4 == q4) = true := beq_self_eq_true q4
  have h44i : ((q4 : Int) == (q4 : Int)) = true := beq_self_eq_true (q4 : Int)
  have hcd := chain_dist t hok
  rw [← fin_eq t hok] at R2
  obtain ⟨q1, hq1⟩ : ∃ q1, q1 = chainL t := ⟨_, rfl⟩
  obtain ⟨q2, hq2⟩ : ∃ q2, q2 = finL t := ⟨_, rfl⟩
  obtain ⟨q3, hq3⟩ : ∃ q3, q3 = distL t := ⟨_, rfl⟩
  rw [← hq1, ← hq3] at hcd
  rw [← hq1] at C1 R1
  rw [← hq2] at C2 R2
  rw [← hq3] at C3 R3
  clear hr H1 hok hdp hq1 hq2 hq3 hq4
  cases q1
  · clear hcd
    cases q2 <;> cases q3
    all_goals
      go_enter Try.func5, Try.ntmps5
      go_wp2_with (first
            | (go_at_call 11; ((with_reducible refine (AW.out _).mono ?_); (rintro e w1 ⟨rfl, h1⟩); (have E1 := hid_of (h1)); (have cs1 := HC.out w1 E1.out); (obtain ⟨cs10, cs11, cs12, cs13, cs14, cs15⟩ := HC.out w1 E1.out); clear h1))
            | (go_at_call 13; ((with_reducible refine (RH.out w1 E1.out).mono ?_); (rintro e w2 ⟨rfl, h2⟩); (have E2 := hid_of (E1.out.trans (h2.mono E1.out.size))); (have cs2 := HC.out w2 E2.out); clear h2)))
      refine wp_region_held_drew (S := (fun wz => wz.cell? ⟨w.heap.size, 0, none⟩ = some (.int .i64 k) ∧ wz.cell? ⟨w.heap.size, 1, none⟩ = some (.int .i64 lo) ∧ wz.cell? ⟨w.heap.size, 2, none⟩ = some (.int .i64 hi) ∧ wz.cell? ⟨w.heap.size, 3, none⟩ = some (.slice an nn cn) ∧ wz.cell? ⟨w.heap.size, 4, none⟩ = some (.slice ap np cp) ∧ wz.cell? ⟨w.heap.size, 5, none⟩ = some (.slice ar nr cr))) (by kernel_rfl) ?hs (fun hHeld => ?_)
      case hs => exact cs2
      refine wpAnyH_take (i := 0) (oi := ⟨some 8, _, _, _, _, _⟩) (v := ?_) rfl (by kernel_rfl) (by kernel_rfl) (by kernel_rfl) (fun _ _ _ h => h) (Or.inl ⟨by rfl, ?hy⟩) (by assumption) ?_
      case hy => ((intro w hSw); (try dsimp only at hSw); go_simp <;> with_reducible rfl)
      (try simp only [Act.put, List.setIfInBounds_toArray, List.set_cons_zero, List.set_cons_succ])
      refine wpAnyH_take (i := 2) (oi := ⟨some 10, _, _, _, _, _⟩) (v := ?_) rfl (by kernel_rfl) (by kernel_rfl) (by kernel_rfl) (fun _ _ _ h => h) (Or.inl ⟨by rfl, ?hy⟩) (by assumption) ?_
      case hy => ((intro w hSw); (try dsimp only at hSw); go_simp <;> with_reducible rfl)
      (try simp only [Act.put, List.setIfInBounds_toArray, List.set_cons_zero, List.set_cons_succ])
      refine wpAnyH_ready (rs := [1]) (by kernel_rfl) (by simp) ?_
      refine AllReadyH.cons (o := _) rfl (fun K hK => ?_) AllReadyH.nil
      go_simp
      (go_at_call 16; ((with_reducible refine (C1.out w2.drew (redrew E2.out)).mono ?_); (rintro e w3 ⟨rfl, h3⟩); (have E3 := hid_of (E2.out.trans ((undrew h3).mono E2.out.size))); (have cs3 := HC.out w3 E3.out); clear h3))
      (try go_wp2_with fail)
      refine hK.out _ _ ?hs (fun hHeld => ?_)
      case hs => exact cs3
      clear hK K
      (try simp only [Act.put, List.setIfInBounds_toArray, List.set_cons_zero, List.set_cons_succ])
      refine wpAnyH_ready (rs := [3]) (by kernel_rfl) (by simp) ?_
      refine AllReadyH.cons (o := _) rfl (fun K hK => ?_) AllReadyH.nil
      go_simp
      (go_at_call 17; ((with_reducible refine (R1.out w3 E3.out).mono ?_); (rintro e w4 ⟨rfl, h4⟩); (have E4 := hid_of (E3.out.trans (h4.mono E3.out.size))); (have cs4 := HC.out w4 E4.out); clear h4))
      (try go_wp2_with fail)
      refine hK.out _ _ ?hs (fun hHeld => ?_)
      case hs => exact cs4
      clear hK K
      (try simp only [Act.put, List.setIfInBounds_toArray, List.set_cons_zero, List.set_cons_succ])
      refine wpAnyH_take (i := 4) (oi := ⟨some 12, _, _, _, _, _⟩) (v := ?_) rfl (by kernel_rfl) (by kernel_rfl) (by kernel_rfl) (fun _ _ _ h => h) (Or.inl ⟨by rfl, ?hy⟩) (by assumption) ?_
      case hy => ((intro w hSw); (try dsimp only at hSw); go_simp <;> with_reducible rfl)
      (try simp only [Act.put, List.setIfInBounds_toArray, List.set_cons_zero, List.set_cons_succ])
      refine wpAnyH_take (i := 5) (oi := ⟨some 13, _, _, _, _, _⟩) (v := ?_) rfl (by kernel_rfl) (by kernel_rfl) (by kernel_rfl) (fun _ _ _ h => h) (Or.inl ⟨by rfl, ?hy⟩) (by assumption) ?_
      case hy => ((intro w hSw); (try dsimp only at hSw); go_simp <;> with_reducible rfl)
      (try simp only [Act.put, List.setIfInBounds_toArray, List.set_cons_zero, List.set_cons_succ])
      refine wpAnyH_take (i := 6) (oi := ⟨some 14, _, _, _, _, _⟩) (v := ?_) rfl (by kernel_rfl) (by kernel_rfl) (by kernel_rfl) (fun _ _ _ h => h) (Or.inl ⟨by rfl, ?hy⟩) (by assumption) ?_
      case hy => ((intro w hSw); (try dsimp only at hSw); go_simp <;> with_reducible rfl)
      (try simp only [Act.put, List.setIfInBounds_toArray, List.set_cons_zero, List.set_cons_succ])
      refine wpAnyH_take (i := 8) (oi := ⟨some 16, _, _, _, _, _⟩) (v := ?_) rfl (by kernel_rfl) (by kernel_rfl) (by kernel_rfl) (fun _ _ _ h => h) (Or.inl ⟨by rfl, ?hy⟩) (by assumption) ?_
      case hy => ((intro w hSw); (try dsimp only at hSw); go_simp <;> with_reducible rfl)
      (try simp only [Act.put, List.setIfInBounds_toArray, List.set_cons_zero, List.set_cons_succ])
      refine wpAnyH_ready (rs := [7]) (by kernel_rfl) (by simp) ?_
      refine AllReadyH.cons (o := _) rfl (fun K hK => ?_) AllReadyH.nil
      go_simp
      (go_at_call 18; ((with_reducible refine (C2.out w4 E4.out).mono ?_); (rintro e w5 ⟨rfl, h5⟩); (have E5 := hid_of (E4.out.trans (h5.mono E4.out.size))); (have cs5 := HC.out w5 E5.out); clear h5))
      (try go_wp2_with fail)
      refine hK.out _ _ ?hs (fun hHeld => ?_)
      case hs => exact cs5
      clear hK K
      (try simp only [Act.put, List.setIfInBounds_toArray, List.set_cons_zero, List.set_cons_succ])
      refine wpAnyH_ready (rs := [9]) (by kernel_rfl) (by simp) ?_
      refine AllReadyH.cons (o := _) rfl (fun K hK => ?_) AllReadyH.nil
      go_simp
      (go_at_call 19; ((with_reducible refine (R2.out w5 E5.out).mono ?_); (rintro e w6 ⟨rfl, h6⟩); (have E6 := hid_of (E5.out.trans (h6.mono E5.out.size))); (have cs6 := HC.out w6 E6.out); clear h6))
      (try go_wp2_with fail)
      refine hK.out _ _ ?hs (fun hHeld => ?_)
      case hs => exact cs6
      clear hK K
      (try simp only [Act.put, List.setIfInBounds_toArray, List.set_cons_zero, List.set_cons_succ])
      refine wpAnyH_take (i := 10) (oi := ⟨some 18, _, _, _, _, _⟩) (v := ?_) rfl (by kernel_rfl) (by kernel_rfl) (by kernel_rfl) (fun _ _ _ h => h) (Or.inl ⟨by rfl, ?hy⟩) (by assumption) ?_
      case hy => ((intro w hSw); (try dsimp only at hSw); go_simp <;> with_reducible rfl)
      (try simp only [Act.put, List.setIfInBounds_toArray, List.set_cons_zero, List.set_cons_succ])
      refine wpAnyH_take (i := 11) (oi := ⟨some 19, _, _, _, _, _⟩) (v := ?_) rfl (by kernel_rfl) (by kernel_rfl) (by kernel_rfl) (fun _ _ _ h => h) (Or.inl ⟨by rfl, ?hy⟩) (by assumption) ?_
      case hy => ((intro w hSw); (try dsimp only at hSw); go_simp <;> with_reducible rfl)
      (try simp only [Act.put, List.setIfInBounds_toArray, List.set_cons_zero, List.set_cons_succ])
      refine wpAnyH_take (i := 12) (oi := ⟨some 20, _, _, _, _, _⟩) (v := ?_) rfl (by kernel_rfl) (by kernel_rfl) (by kernel_rfl) (fun _ _ _ h => h) (Or.inl ⟨by rfl, ?hy⟩) (by assumption) ?_
      case hy => ((intro w hSw); (try dsimp only at hSw); go_simp <;> with_reducible rfl)
      (try simp only [Act.put, List.setIfInBounds_toArray, List.set_cons_zero, List.set_cons_succ])
      refine wpAnyH_take (i := 13) (oi := ⟨some 21, _, _, _, _, _⟩) (v := ?_) rfl (by kernel_rfl) (by kernel_rfl) (by kernel_rfl) (fun _ _ _ h => h) (Or.inl ⟨by rfl, ?hy⟩) (by assumption) ?_
      case hy => ((intro w hSw); (try dsimp only at hSw); go_simp <;> with_reducible rfl)
      (try simp only [Act.put, List.setIfInBounds_toArray, List.set_cons_zero, List.set_cons_succ])
      refine wpAnyH_take (i := 15) (oi := ⟨some 23, _, _, _, _, _⟩) (v := ?_) rfl (by kernel_rfl) (by kernel_rfl) (by kernel_rfl) (fun _ _ _ h => h) (Or.inl ⟨by rfl, ?hy⟩) (by assumption) ?_
      case hy => ((intro w hSw); (try dsimp only at hSw); go_simp <;> with_reducible rfl)
      (try simp only [Act.put, List.setIfInBounds_toArray, List.set_cons_zero, List.set_cons_succ])
      refine wpAnyH_ready (rs := [14]) (by kernel_rfl) (by simp) ?_
      refine AllReadyH.cons (o := _) rfl (fun K hK => ?_) AllReadyH.nil
      go_simp
      (go_at_call 20; ((with_reducible refine (C3.out w6 E6.out).mono ?_); (rintro e w7 ⟨rfl, h7⟩); (have E7 := hid_of (E6.out.trans (h7.mono E6.out.size))); (have cs7 := HC.out w7 E7.out); clear h7))
      (try go_wp2_with fail)
      refine hK.out _ _ ?hs (fun hHeld => ?_)
      case hs => exact cs7
      clear hK K
      (try simp only [Act.put, List.setIfInBounds_toArray, List.set_cons_zero, List.set_cons_succ])
      refine wpAnyH_ready (rs := [16]) (by kernel_rfl) (by simp) ?_
      refine AllReadyH.cons (o := _) rfl (fun K hK => ?_) AllReadyH.nil
      go_simp
      (go_at_call 21; ((with_reducible refine (R3.out w7 E7.out).mono ?_); (rintro e w8 ⟨rfl, h8⟩); (have E8 := hid_of (E7.out.trans (h8.mono E7.out.size))); (have cs8 := HC.out w8 E8.out); clear h8))
      (try go_wp2_with fail)
      refine hK.out _ _ ?hs (fun hHeld => ?_)
      case hs => exact cs8
      clear hK K
      (try simp only [Act.put, List.setIfInBounds_toArray, List.set_cons_zero, List.set_cons_succ])
      refine wpAnyH_take (i := 17) (oi := ⟨some 25, _, _, _, _, _⟩) (v := ?_) rfl (by kernel_rfl) (by kernel_rfl) (by kernel_rfl) (fun _ _ _ h => h) (Or.inl ⟨by rfl, ?hy⟩) (by assumption) ?_
      case hy => ((intro w hSw); (try dsimp only at hSw); go_simp <;> with_reducible rfl)
      (try simp only [Act.put, List.setIfInBounds_toArray, List.set_cons_zero, List.set_cons_succ])
      refine wpAnyH_take (i := 18) (oi := ⟨some 26, _, _, _, _, _⟩) (v := ?_) rfl (by kernel_rfl) (by kernel_rfl) (by kernel_rfl) (fun _ _ _ h => h) (Or.inl ⟨by rfl, ?hy⟩) (by assumption) ?_
      case hy => ((intro w hSw); (try dsimp only at hSw); go_simp <;> with_reducible rfl)
      (try simp only [Act.put, List.setIfInBounds_toArray, List.set_cons_zero, List.set_cons_succ])
      refine wpAnyH_take (i := 19) (oi := ⟨some 27, _, _, _, _, _⟩) (v := ?_) rfl (by kernel_rfl) (by kernel_rfl) (by kernel_rfl) (fun _ _ _ h => h) (Or.inl ⟨by rfl, ?hy⟩) (by assumption) ?_
      case hy => ((intro w hSw); (try dsimp only at hSw); go_simp <;> with_reducible rfl)
      (try simp only [Act.put, List.setIfInBounds_toArray, List.set_cons_zero, List.set_cons_succ])
      refine wpAnyH_take (i := 20) (oi := ⟨some 28, _, _, _, _, _⟩) (v := ?_) rfl (by kernel_rfl) (by kernel_rfl) (by kernel_rfl) (fun _ _ _ h => h) (Or.inl ⟨by rfl, ?hy⟩) (by assumption) ?_
      case hy => ((intro w hSw); (try dsimp only at hSw); go_simp <;> with_reducible rfl)
      (try simp only [Act.put, List.setIfInBounds_toArray, List.set_cons_zero, List.set_cons_succ])
      refine wpAnyH_take (i := 22) (oi := ⟨some 30, _, _, _, _, _⟩) (v := ?_) rfl (by kernel_rfl) (by kernel_rfl) (by kernel_rfl) (fun _ _ _ h => h) (Or.inl ⟨by rfl, ?hy⟩) (by assumption) ?_
      case hy => ((intro w hSw); (try dsimp only at hSw); go_simp <;> with_reducible rfl)
      (try simp only [Act.put, List.setIfInBounds_toArray, List.set_cons_zero, List.set_cons_succ])
      refine wpAnyH_ready (rs := [21]) (by kernel_rfl) (by simp) ?_
      refine AllReadyH.cons (o := _) rfl (fun K hK => ?_) AllReadyH.nil
      go_simp
      (go_at_call 22; ((with_reducible refine (C4.out w8 E8.out).mono ?_); (rintro e w9 ⟨rfl, h9⟩); (have E9 := hid_of (E8.out.trans (h9.mono E8.out.size))); (have cs9 := HC.out w9 E9.out); clear h9))
      (try go_wp2_with fail)
      refine hK.out _ _ ?hs (fun hHeld => ?_)
      case hs => exact cs9
      clear hK K
      (try simp only [Act.put, List.setIfInBounds_toArray, List.set_cons_zero, List.set_cons_succ])
      refine wpAnyH_ready (rs := [23]) (by kernel_rfl) (by simp) ?_
      refine AllReadyH.cons (o := _) rfl (fun K hK => ?_) AllReadyH.nil
      go_simp
      (go_at_call 23; ((with_reducible refine (R4.out w9 E9.out).mono ?_); (rintro e w10 ⟨rfl, h10⟩); (have E10 := hid_of (E9.out.trans (h10.mono E9.out.size))); (have cs10 := HC.out w10 E10.out); clear h10))
      (try go_wp2_with fail)
      refine hK.out _ _ ?hs (fun hHeld => ?_)
      case hs => exact cs10
      clear hK K
      (try simp only [Act.put, List.setIfInBounds_toArray, List.set_cons_zero, List.set_cons_succ])
      refine wpAnyH_take (i := 24) (oi := ⟨some 32, _, _, _, _, _⟩) (v := ?_) rfl (by kernel_rfl) (by kernel_rfl) (by kernel_rfl) (fun _ _ _ h => h) (Or.inl ⟨by rfl, ?hy⟩) (by assumption) ?_
      case hy => ((intro w hSw); (try dsimp only at hSw); go_simp <;> with_reducible rfl)
      (try simp only [Act.put, List.setIfInBounds_toArray, List.set_cons_zero, List.set_cons_succ])
      refine wpAnyH_take (i := 25) (oi := ⟨some 33, _, _, _, _, _⟩) (v := ?_) rfl (by kernel_rfl) (by kernel_rfl) (by kernel_rfl) (fun _ _ _ h => h) (Or.inl ⟨by rfl, ?hy⟩) (by assumption) ?_
      case hy => ((intro w hSw); (try dsimp only at hSw); go_simp <;> with_reducible rfl)
      (try simp only [Act.put, List.setIfInBounds_toArray, List.set_cons_zero, List.set_cons_succ])
      refine wpAnyH_take (i := 26) (oi := ⟨some 34, _, _, _, _, _⟩) (v := ?_) rfl (by kernel_rfl) (by kernel_rfl) (by kernel_rfl) (fun _ _ _ h => h) (Or.inl ⟨by rfl, ?hy⟩) (by assumption) ?_
      case hy => ((intro w hSw); (try dsimp only at hSw); go_simp <;> with_reducible rfl)
      (try simp only [Act.put, List.setIfInBounds_toArray, List.set_cons_zero, List.set_cons_succ])
      refine wpAnyH_take (i := 27) (oi := ⟨some 35, _, _, _, _, _⟩) (v := ?_) rfl (by kernel_rfl) (by kernel_rfl) (by kernel_rfl) (fun _ _ _ h => h) (Or.inl ⟨by rfl, ?hy⟩) (by assumption) ?_
      case hy => ((intro w hSw); (try dsimp only at hSw); go_simp <;> with_reducible rfl)
      (try simp only [Act.put, List.setIfInBounds_toArray, List.set_cons_zero, List.set_cons_succ])
      refine wpAnyH_ready (rs := [28]) (by kernel_rfl) (by simp) ?_
      refine AllReadyH.cons (o := _) rfl (fun K hK => ?_) AllReadyH.nil
      go_simp
      (go_at_call 16; ((with_reducible refine (C1.out w10 E10.out).mono ?_); (rintro e w11 ⟨rfl, h11⟩); (have E11 := hid_of (E10.out.trans (h11.mono E10.out.size))); (have cs11 := HC.out w11 E11.out); clear h11))
      (try go_wp2_with fail)
      refine hK.out _ _ ?hs (fun hHeld => ?_)
      case hs => exact cs11
      clear hK K
      (try simp only [Act.put, List.setIfInBounds_toArray, List.set_cons_zero, List.set_cons_succ])
      refine wpAnyH_take (i := 29) (oi := ⟨some 37, _, _, _, _, _⟩) (v := ?_) rfl (by kernel_rfl) (by kernel_rfl) (by kernel_rfl) (fun _ _ _ h => h) (Or.inl ⟨by rfl, ?hy⟩) (by assumption) ?_
      case hy => ((intro w hSw); (try dsimp only at hSw); go_simp <;> with_reducible rfl)
      (try simp only [Act.put, List.setIfInBounds_toArray, List.set_cons_zero, List.set_cons_succ])
      refine wpAnyH_take (i := 30) (oi := ⟨some 38, _, _, _, _, _⟩) (v := ?_) rfl (by kernel_rfl) (by kernel_rfl) (by kernel_rfl) (fun _ _ _ h => h) (Or.inl ⟨by rfl, ?hy⟩) (by assumption) ?_
      case hy => ((intro w hSw); (try dsimp only at hSw); go_simp <;> with_reducible rfl)
      (try simp only [Act.put, List.setIfInBounds_toArray, List.set_cons_zero, List.set_cons_succ])
      refine wpAnyH_take (i := 31) (oi := ⟨some 39, _, _, _, _, _⟩) (v := undef) rfl (by kernel_rfl) (by kernel_rfl) (by kernel_rfl) (fun _ _ _ h => h) (Or.inr ⟨by rfl, rfl⟩) (by assumption) ?_
      (try simp only [Act.put, List.setIfInBounds_toArray, List.set_cons_zero, List.set_cons_succ])
      refine wpAnyH_take (i := 32) (oi := ⟨some 40, _, _, _, _, _⟩) (v := undef) rfl (by kernel_rfl) (by kernel_rfl) (by kernel_rfl) (fun _ _ _ h => h) (Or.inr ⟨by rfl, rfl⟩) (by assumption) ?_
      (try simp only [Act.put, List.setIfInBounds_toArray, List.set_cons_zero, List.set_cons_succ])
      refine wpAnyH_take (i := 33) (oi := ⟨some 41, _, _, _, _, _⟩) (v := ?_) rfl (by kernel_rfl) (by kernel_rfl) (by kernel_rfl) (fun _ _ _ h => h) (Or.inl ⟨by rfl, ?hy⟩) (by assumption) ?_
      case hy => ((intro w hSw); (try dsimp only at hSw); go_simp <;> with_reducible rfl)
      (try simp only [Act.put, List.setIfInBounds_toArray, List.set_cons_zero, List.set_cons_succ])
      refine wpAnyH_take (i := 34) (oi := ⟨some 42, _, _, _, _, _⟩) (v := ?_) rfl (by kernel_rfl) (by kernel_rfl) (by kernel_rfl) (fun _ _ _ h => h) (Or.inl ⟨by rfl, ?hy⟩) (by assumption) ?_
      case hy => ((intro w hSw); (try dsimp only at hSw); go_simp <;> with_reducible rfl)
      (try simp only [Act.put, List.setIfInBounds_toArray, List.set_cons_zero, List.set_cons_succ])
      refine wpAnyH_take (i := 35) (oi := ⟨some 2, _, _, _, _, _⟩) (v := ?_) rfl (by kernel_rfl) (by kernel_rfl) (by kernel_rfl) (fun _ _ _ h => h) (Or.inl ⟨by rfl, ?hy⟩) (by assumption) ?_
      case hy => ((intro w hSw); (try dsimp only at hSw); go_simp <;> with_reducible rfl)
      (try simp only [Act.put, List.setIfInBounds_toArray, List.set_cons_zero, List.set_cons_succ])
      refine wpAnyH_done (by kernel_rfl) ?_ _
      go_wp2
      go_ret
      exact ⟨rfl, HBB.out.trans (E11.out.mono HBB.out.size)⟩
  · obtain rfl := hcd rfl
    clear hcd
    cases q2
    all_goals
      go_enter Try.func5, Try.ntmps5
      go_wp2_with (first
            | (go_at_call 11; ((with_reducible refine (AW.out _).mono ?_); (rintro e w1 ⟨rfl, h1⟩); (have E1 := hid_of (h1)); (have cs1 := HC.out w1 E1.out); (obtain ⟨cs10, cs11, cs12, cs13, cs14, cs15⟩ := HC.out w1 E1.out); clear h1))
            | (go_at_call 13; ((with_reducible refine (RH.out w1 E1.out).mono ?_); (rintro e w2 ⟨rfl, h2⟩); (have E2 := hid_of (E1.out.trans (h2.mono E1.out.size))); (have cs2 := HC.out w2 E2.out); clear h2)))
      go_region_held3 (fun wz => wz.cell? ⟨w.heap.size, 0, none⟩ = some (.int .i64 k) ∧ wz.cell? ⟨w.heap.size, 1, none⟩ = some (.int .i64 lo) ∧ wz.cell? ⟨w.heap.size, 2, none⟩ = some (.int .i64 hi) ∧ wz.cell? ⟨w.heap.size, 3, none⟩ = some (.slice an nn cn) ∧ wz.cell? ⟨w.heap.size, 4, none⟩ = some (.slice ap np cp) ∧ wz.cell? ⟨w.heap.size, 5, none⟩ = some (.slice ar nr cr)) (first | exact cs2 | exact cs3 | exact cs4 | exact cs5 | exact cs6 | exact cs7 | exact cs8 | exact cs9 | exact cs10 | exact cs11 | exact cs12 | go_keep) (first
        | (go_at_call 16; ((with_reducible refine (C1.out w2.drew (redrew E2.out)).mono ?_); (rintro e w3 ⟨rfl, h3⟩); (have E3 := hid_of (E2.out.trans ((undrew h3).mono E2.out.size))); (have cs3 := HC.out w3 E3.out); clear h3))
        | (go_at_call 17; ((with_reducible refine (R1.out w2.drew (redrew E2.out)).mono ?_); (rintro e w3 ⟨rfl, h3⟩); (have E3 := hid_of (E2.out.trans ((undrew h3).mono E2.out.size))); (have cs3 := HC.out w3 E3.out); clear h3))
        | (go_at_call 17; ((with_reducible refine (R1.out w3 E3.out).mono ?_); (rintro e w4 ⟨rfl, h4⟩); (have E4 := hid_of (E3.out.trans (h4.mono E3.out.size))); (have cs4 := HC.out w4 E4.out); clear h4))
        | (go_at_call 16; ((with_reducible refine (C1.out w3 E3.out).mono ?_); (rintro e w4 ⟨rfl, h4⟩); (have E4 := hid_of (E3.out.trans (h4.mono E3.out.size))); (have cs4 := HC.out w4 E4.out); clear h4))
        | (go_at_call 18; ((with_reducible refine (C2.out w4 E4.out).mono ?_); (rintro e w5 ⟨rfl, h5⟩); (have E5 := hid_of (E4.out.trans (h5.mono E4.out.size))); (have cs5 := HC.out w5 E5.out); clear h5))
        | (go_at_call 19; ((with_reducible refine (R2.out w4 E4.out).mono ?_); (rintro e w5 ⟨rfl, h5⟩); (have E5 := hid_of (E4.out.trans (h5.mono E4.out.size))); (have cs5 := HC.out w5 E5.out); clear h5))
        | (go_at_call 19; ((with_reducible refine (R2.out w5 E5.out).mono ?_); (rintro e w6 ⟨rfl, h6⟩); (have E6 := hid_of (E5.out.trans (h6.mono E5.out.size))); (have cs6 := HC.out w6 E6.out); clear h6))
        | (go_at_call 18; ((with_reducible refine (C2.out w5 E5.out).mono ?_); (rintro e w6 ⟨rfl, h6⟩); (have E6 := hid_of (E5.out.trans (h6.mono E5.out.size))); (have cs6 := HC.out w6 E6.out); clear h6))
        | (go_at_call 20; ((with_reducible refine (C3.out w6 E6.out).mono ?_); (rintro e w7 ⟨rfl, h7⟩); (have E7 := hid_of (E6.out.trans (h7.mono E6.out.size))); (have cs7 := HC.out w7 E7.out); clear h7))
        | (go_at_call 21; ((with_reducible refine (R3.out w6 E6.out).mono ?_); (rintro e w7 ⟨rfl, h7⟩); (have E7 := hid_of (E6.out.trans (h7.mono E6.out.size))); (have cs7 := HC.out w7 E7.out); clear h7))
        | (go_at_call 21; ((with_reducible refine (R3.out w7 E7.out).mono ?_); (rintro e w8 ⟨rfl, h8⟩); (have E8 := hid_of (E7.out.trans (h8.mono E7.out.size))); (have cs8 := HC.out w8 E8.out); clear h8))
        | (go_at_call 20; ((with_reducible refine (C3.out w7 E7.out).mono ?_); (rintro e w8 ⟨rfl, h8⟩); (have E8 := hid_of (E7.out.trans (h8.mono E7.out.size))); (have cs8 := HC.out w8 E8.out); clear h8))
        | (go_at_call 22; ((with_reducible refine (C4.out w8 E8.out).mono ?_); (rintro e w9 ⟨rfl, h9⟩); (have E9 := hid_of (E8.out.trans (h9.mono E8.out.size))); (have cs9 := HC.out w9 E9.out); clear h9))
        | (go_at_call 23; ((with_reducible refine (R4.out w8 E8.out).mono ?_); (rintro e w9 ⟨rfl, h9⟩); (have E9 := hid_of (E8.out.trans (h9.mono E8.out.size))); (have cs9 := HC.out w9 E9.out); clear h9))
        | (go_at_call 23; ((with_reducible refine (R4.out w9 E9.out).mono ?_); (rintro e w10 ⟨rfl, h10⟩); (have E10 := hid_of (E9.out.trans (h10.mono E9.out.size))); (have cs10 := HC.out w10 E10.out); clear h10))
        | (go_at_call 22; ((with_reducible refine (C4.out w9 E9.out).mono ?_); (rintro e w10 ⟨rfl, h10⟩); (have E10 := hid_of (E9.out.trans (h10.mono E9.out.size))); (have cs10 := HC.out w10 E10.out); clear h10))
        | (go_at_call 16; ((with_reducible refine (C1.out w10 E10.out).mono ?_); (rintro e w11 ⟨rfl, h11⟩); (have E11 := hid_of (E10.out.trans (h11.mono E10.out.size))); (have cs11 := HC.out w11 E11.out); clear h11))
        | (go_at_call 20; ((with_reducible refine (C3.out w11 E11.out).mono ?_); (rintro e w12 ⟨rfl, h12⟩); (have E12 := hid_of (E11.out.trans (h12.mono E11.out.size))); (have cs12 := HC.out w12 E12.out); clear h12)))
      all_goals go_wp2
      all_goals go_ret
      all_goals exact ⟨rfl, HBB.out.trans (E12.out.mono HBB.out.size)⟩
end Go.Proofs.Ytilokloemcphbaa
