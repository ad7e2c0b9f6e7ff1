/- UnrankPermutation. Bounds on sizes alone. -/
import Derived.Test.YtpmajdgabpmooaaRanDel
namespace Go.Proofs.Ytpmajdgabpmooaa
open Go.RowKit

theorem getD_left {a b : List Int} {j : Nat} (h : j < a.length) : (a ++ b).getD j 0 = a.getD j 0 := by simp [List.getD, List.getElem?_append, h]
theorem unr_succ (n : Nat) (left : List Nat) (r : Nat) : unr (n + 1) left r = left.getD (r / fac n) 0 :: unr n (left.eraseIdx (r / fac n)) (r % fac n) := rfl

set_option maxRecDepth 100000 in
set_option maxHeartbeats 3200000 in
theorem unrankPerm_ok (n r : Nat) (z : Int) (w : World) (hz : z = n) (hn : n ≤ 20) (hr : r < fac n) :
    Calls Try.prog 31 #[.int .i64 z, .int .u64 (r : Int)] w fun e w' => ∃ g, e = .returned (.tuple #[.slice (some ⟨g, 0, none⟩) n n, .int .i64 0]) ∧ w.heap.size ≤ g ∧ Blk w' g (nI (unr n (List.range n) r)) ∧ Below w.heap.size w w' := by
  subst hz
  obtain ⟨i0, hi, hz0, hz1, hz2⟩ := info_parts intsE.info
  have HFA : Hid (∀ w, Calls Try.prog 44 #[.int .i64 (n : Int)] w fun e w' => e = .returned (.int .u64 ((fac n : Nat) : Int)) ∧ w = w') := hid_of (fun w => fac_any n n w rfl hn)
  obtain ⟨L, hL⟩ : ∃ L, L = unr n (List.range n) r := ⟨_, rfl⟩
  have HL := hid_of hL
  have HLL : Hid (L.length = n) := hid_of (by rw [hL, unr_length])
  have HRN := hid_of hr
  obtain ⟨C, hC⟩ : ∃ C, C = fac n := ⟨_, rfl⟩
  rw [← hL]
  rw [← hC] at HFA hr
  have HC := hid_of hC
  have hge : decide (C ≤ r) = false := by simp; omega
  have d0 : decide ((n : Int) < 0) = false := by simp
  have d1 : decide ((20 : Int) < (n : Int)) = false := by simp; omega
  clear hL hC hr
  go_enter Try.func31, Try.ntmps31
  go_wp2_with (first
    | (go_at_call 44; ((with_reducible refine (HFA.out w).mono ?_); (rintro e w' ⟨rfl, rfl⟩)))
    | (at_make; refine wpList_make_full _ rfl _ _ 34 rfl w.heap.size 3 i0 (.int .i64 0) 1 Try.underlying34 hi hz0 hz1 .i64 .i64 n n n rfl rfl rfl rfl ?b2 ?b3 ?b4 ?_))
  case b2 => rw [hz2]; omega
  case b3 => unfold maxLen; omega
  case b4 => exact Nat.le_refl _
  intro w1 hown hgrow
  have HP : Hid (Blk w1 w.heap.size (nI [] ++ List.replicate n 0)) := hid_of (by
    have := made_row hown
    unfold Blk
    rw [this]
    simp [nI, is])
  have HB : Hid (Below w.heap.size w w1) := hid_of ((Below.refl _ _).grown hgrow (Nat.le_refl _) (fun k h => by cases h))
  clear hown hgrow
  go_wp2_with (go_at_call 41; ((refine (numbers_any n _ w1 rfl (by omega)).mono ?_); (rintro e w2 ⟨rfl, h2, hb2⟩; have HQ := hid_of h2; have HP2 := hid_of (HP.out.bel hb2); have HB2 := hid_of (step_b HB.out hb2 (Nat.le_refl _)); have HG := hid_of (HP.out.lt); clear h2 hb2)))
  go_loopw [1, 7, 28] (fun rv lv iv wr => ∃ (i q : Nat) (pre lf : List Nat) (tail : List Int), i ≤ n ∧ iv = .int .i64 i ∧ rv = .int .u64 (q : Int) ∧ lv = .slice (some ⟨w1.heap.size, 0, none⟩) lf.length n ∧
      Hid (pre.length = i ∧ lf.length = n - i ∧ tail.length = i ∧ pre ++ unr (n - i) lf q = L ∧ q < fac (n - i)) ∧ Hid (Blk wr w.heap.size (nI pre ++ List.replicate (n - i) 0)) ∧ Hid (Blk wr w1.heap.size (nI lf ++ tail)) ∧ Hid (Below w.heap.size w wr)) (fun _ _ iv _ => n - (intOf iv).toNat)
  case atStart => exact ⟨0, r, [], List.range n, [], Nat.zero_le _, rfl, rfl, by simp, hid_of ⟨rfl, by simp, rfl, by rw [HL.out]; rfl, HRN.out⟩, HP2, hid_of (by rw [List.append_nil]; exact HQ.out), HB2⟩
  case round =>
    obtain ⟨i, q, pre, lf, tail, hi, rfl, rfl, rfl, hf, hp, hq, hb⟩ := hrel
    obtain ⟨m, hm⟩ : ∃ m, m = lf.length := ⟨_, rfl⟩
    have HM := hid_of hm
    rw [← hm]
    clear hm
    by_cases hlt : i < n
    · have hd : decide (i < n) = true := by simp; omega
      obtain ⟨d, hdd⟩ : ∃ d, n - i = d + 1 := ⟨n - i - 1, by omega⟩
      have HD := hid_of hdd
      have hd20 : d ≤ 20 := by omega
      have hfp := fac_pos d
      have hfm := fac20 hd20
      have hqf : q / fac d < d + 1 := by
        have := hf.out.2.2.2.2
        rw [hdd, fac] at this
        rwa [Nat.div_lt_iff_lt_mul hfp]
      have hql : q < 18446744073709551616 := by
        have := hf.out.2.2.2.2
        have := fac20 (show n - i ≤ 20 by omega)
        omega
      have HUN : Hid (pre ++ lf.getD (q / fac d) 0 :: unr d (lf.eraseIdx (q / fac d)) (q % fac d) = L) := hid_of (by
        have := hf.out.2.2.2.1
        rwa [hdd, unr_succ] at this)
      have HFC : Hid (∀ w, Calls Try.prog 44 #[.int .i64 ((n : Int) - 1 - (i : Int))] w fun e w' => e = .returned (.int .u64 ((fac d : Nat) : Int)) ∧ w = w') := hid_of (fun w => fac_any d _ w (by omega) hd20)
      have HQM : Hid (q % fac d < fac d) := hid_of (Nat.mod_lt _ hfp)
      obtain ⟨f, hff⟩ : ∃ f, f = fac d := ⟨_, rfl⟩
      rw [← hff] at hfp hfm hqf HUN HFC HQM
      obtain ⟨a, ha⟩ : ∃ a, a = q / f := ⟨_, rfl⟩
      obtain ⟨b, hb2⟩ : ∃ b, b = q % f := ⟨_, rfl⟩
      rw [← ha] at hqf HUN
      rw [← hb2] at HUN HQM
      have s1 : IntKind.u64.wrap ((q : Int).tdiv (f : Int)) = (a : Int) := by
        rw [Int.tdiv_eq_ediv_of_nonneg (by omega), ← Int.natCast_ediv, ← ha]; exact wrapu (by rw [ha]; exact Nat.lt_of_le_of_lt (Nat.div_le_self _ _) hql)
      have s2 : IntKind.u64.wrap ((q : Int).tmod (f : Int)) = (b : Int) := by
        rw [Int.tmod_eq_emod_of_nonneg (by omega), ← Int.natCast_emod, ← hb2]; exact wrapu (by rw [hb2]; exact Nat.lt_of_le_of_lt (Nat.mod_le _ _) hql)
      have s1b : (q : Int) / (f : Int) = (a : Int) := by rw [ha]; exact (Int.natCast_ediv q f).symm
      have s2b : (q : Int) % (f : Int) = (b : Int) := by rw [hb2]; exact (Int.natCast_emod q f).symm
      have s3 : IntKind.i64.wrap (a : Int) = (a : Int) := IntWalk.i64_in _ (by omega)
      have s4 : IntKind.u64.wrap (a : Int) = (a : Int) := wrapu (by omega)
      have s5 : IntKind.u64.wrap (b : Int) = (b : Int) := wrapu (by rw [hb2]; exact Nat.lt_of_le_of_lt (Nat.mod_le _ _) hql)
      have ha20 : (a : Int) ≤ 20 := by omega
      have hne : ((f : Int) == 0) = false := by simp; omega
      have hne2 : ¬ (f : Int) = 0 := by omega
      have hfb : (f : Int) ≤ 2432902008176640000 := by omega
      have HAM : Hid (a < m) := hid_of (by rw [HM.out, hf.out.2.1, hdd]; exact hqf)
      have ha0 : (0 : Int) ≤ (a : Int) := by omega
      have ha1 : (a : Int) < (m : Int) := by have := HAM.out; omega
      have ha1n : a < m := HAM.out
      have hi1 : (i : Int) < (n : Int) := by omega
      have hi2 : (0 : Int) ≤ (i : Int) := by omega
      have c1 : wr.cell? ⟨w1.heap.size, a, none⟩ = some (.int .i64 ((lf.getD a 0 : Nat) : Int)) := by
        have := hq.out.cell (j := a) (by rw [List.length_append, nI_length, ← HM.out]; have := HAM.out; omega)
        rw [getD_left (by rw [nI_length, ← HM.out]; exact HAM.out), nI_at] at this
        exact this
      obtain ⟨x, hx⟩ : ∃ x, x = lf.getD a 0 := ⟨_, rfl⟩
      rw [← hx] at c1 HUN
      have hplen : (nI pre ++ List.replicate (n - i) 0).length = n := by rw [List.length_append, nI_length, List.length_replicate, hf.out.1]; omega
      obtain ⟨old, c2⟩ : ∃ old, wr.cell? ⟨w.heap.size, i, none⟩ = some old := ⟨_, hp.out.cell (j := i) (by rw [hplen]; omega)⟩
      have f2 : wr.frozen? ⟨w.heap.size, i, none⟩ = false := hp.out.free
      have HG' := HG.out
      have HP3 : Hid (Blk (wr.setCell ⟨w.heap.size, i, none⟩ (.int .i64 (x : Int))) w.heap.size (nI (pre ++ [x]) ++ List.replicate (n - (i + 1)) 0)) := hid_of (by
        have h := hp.out.set (j := i) (x : Int)
        have e : (nI pre ++ List.replicate (n - i) 0).set i (x : Int) = nI (pre ++ [x]) ++ List.replicate (n - (i + 1)) 0 := by
          have e1 : (nI pre).length = i := by rw [nI_length]; exact hf.out.1
          rw [List.set_append_right _ _ (by omega), e1, Nat.sub_self, hdd, List.replicate_succ, List.set_cons_zero, show n - (i + 1) = d by omega]
          simp [nI]
        rwa [e] at h)
      have HQ3 : Hid (Blk (wr.setCell ⟨w.heap.size, i, none⟩ (.int .i64 (x : Int))) w1.heap.size (nI lf ++ tail)) := hid_of (hq.out.kept (Kept.set wr w.heap.size i _) (by omega))
      have HB3 : Hid (Below w.heap.size w (wr.setCell ⟨w.heap.size, i, none⟩ (.int .i64 (x : Int)))) := hid_of (hb.out.setCell (Nat.le_refl _) _)
      have HDL : Hid (∀ (z : Int) (w2 : World), z = ((a + 1 : Nat) : Int) → Blk w2 w1.heap.size (nI lf ++ tail) → Calls Try.prog 45 #[.slice (some ⟨w1.heap.size, 0, none⟩) m n, .int .i64 a, .int .i64 z] w2 fun e w' => e = .returned (.slice (some ⟨w1.heap.size, 0, none⟩) (m - 1) n) ∧ Blk w' w1.heap.size (nI (lf.eraseIdx a) ++ 0 :: tail) ∧ Kept (fun k => k = w1.heap.size) w2 w') := hid_of (fun z w2 hz h => by
        have h3 := delete_any w1.heap.size n a lf tail z w2 h (by rw [hf.out.2.1, hf.out.2.2.1]; omega) (by rw [← HM.out]; exact HAM.out) (by omega) hz
        rw [← HM.out] at h3; exact h3)
      have HEL : Hid ((lf.eraseIdx a).length = m - 1) := hid_of (by rw [List.length_eraseIdx, if_pos (by rw [← HM.out]; exact HAM.out), HM.out])
      have HFF := hid_of hff
      clear hff ha hb2 hx hplen hqf hfp hql hdd
      go_wp2_with (first
        | (go_at_call 44; ((with_reducible refine (HFC.out wr).mono ?_); (rintro e w' ⟨rfl, rfl⟩)))
        | (go_at_call 45; ((refine (HDL.out _ (wr.setCell ⟨w.heap.size, i, none⟩ (.int .i64 (x : Int))) (by omega) HQ3.out).mono ?_); (rintro e w4 ⟨rfl, h4, hk4⟩; have HQ4 := hid_of h4; have HP4 := hid_of (HP3.out.kept hk4 (by have := HG.out; omega)); have HB4 := hid_of (step_k HB3.out hk4 (Nat.le_refl _) (by have := HG.out; omega)); clear h4 hk4))))
      go_roundw
      case rel =>
        refine ⟨i + 1, b, pre ++ [x], lf.eraseIdx a, 0 :: tail, by omega, by go_num, rfl, by rw [HEL.out], hid_of ⟨by rw [List.length_append, hf.out.1]; rfl, ?_, by rw [List.length_cons, hf.out.2.2.1], ?_, ?_⟩, HP4, HQ4, HB4⟩
        · have := HD.out; rw [HEL.out, HM.out, hf.out.2.1]; omega
        · have := HD.out
          rw [show n - (i + 1) = d by omega, List.append_assoc, List.singleton_append]; exact HUN.out
        · have := HD.out
          rw [show n - (i + 1) = d by omega, ← HFF.out]; exact HQM.out
      case measure => simp [intOf]; omega
    · obtain rfl : i = n := by omega
      have hd : decide (i < i) = false := by simp
      have HFIN : Hid (Blk wr w.heap.size (nI L)) := hid_of (by
        have h := hp.out
        have e : pre = L := by have := hf.out.2.2.2.1; rw [Nat.sub_self] at this; simpa [unr] using this
        rw [e, Nat.sub_self] at h
        simpa using h)
      go_wp2
      go_ret2
      exact ⟨_, rfl, Nat.le_refl _, HFIN.out, hb.out⟩
theorem unrankPerm_bad (z : Int) (r : Nat) (w : World) (h : z < 0 ∨ 20 < z ∨ ∃ n : Nat, z = n ∧ n ≤ 20 ∧ fac n ≤ r) :
    Calls Try.prog 31 #[.int .i64 z, .int .u64 (r : Int)] w fun e w' => e = .returned (.tuple #[.slice none 0 0, .int .i64 1]) ∧ w = w' := by
  by_cases h0 : z < 0
  · have d0 : decide (z < 0) = true := by simp; omega
    clear h
    go_enter Try.func31, Try.ntmps31
    go_wp2
    go_ret2
    exact ⟨rfl, rfl⟩
  · have d0 : decide (z < 0) = false := by simp; omega
    by_cases h1 : 20 < z
    · have d1 : decide ((20 : Int) < z) = true := by simp; omega
      clear h
      go_enter Try.func31, Try.ntmps31
      go_wp2
      go_ret2
      exact ⟨rfl, rfl⟩
    · obtain ⟨n, rfl, hn, hc⟩ : ∃ n : Nat, z = n ∧ n ≤ 20 ∧ fac n ≤ r := by
        rcases h with h | h | h
        · exact absurd h h0
        · exact absurd h h1
        · exact h
      have d1 : decide ((20 : Int) < (n : Int)) = false := by simp; omega
      have HFA : Hid (∀ w, Calls Try.prog 44 #[.int .i64 (n : Int)] w fun e w' => e = .returned (.int .u64 ((fac n : Nat) : Int)) ∧ w = w') := hid_of (fun w => fac_any n n w rfl hn)
      obtain ⟨C, hC⟩ : ∃ C, C = fac n := ⟨_, rfl⟩
      rw [← hC] at HFA hc
      have hge : decide (C ≤ r) = true := by simp; omega
      clear hC hc h h0 h1
      go_enter Try.func31, Try.ntmps31
      go_wp2_with (go_at_call 44; ((with_reducible refine (HFA.out w).mono ?_); (rintro e w' ⟨rfl, rfl⟩)))
      go_ret2
      exact ⟨rfl, rfl⟩
end Go.Proofs.Ytpmajdgabpmooaa
