/- The law of the ranks of permutations. No condition. -/
import Derived.Test.YtpmajdgabpmooaaRanUnp
namespace Go.Proofs.Ytpmajdgabpmooaa
open Go.RowKit

theorem rank_val (ao : Option Addr) (n cap : Nat) (l : List Int) (x : Nat) (w : World) (R : Rd w (.slice ao n cap) (is l)) (h20 : n ≤ 20) (hp : permB l = true) (hx : x = rkM l n) :
    Calls Try.prog 29 #[.slice ao n cap] w fun e w' => e = .returned (.tuple #[.int .u64 (x : Int), .int .i64 0]) ∧ Below w.heap.size w w' := by
  subst hx; exact rankPerm_ok ao n cap l w R h20 hp
theorem rrank_val (ao : Option Addr) (n cap : Nat) (l : List Int) (x : Nat) (w : World) (R : Rd w (.slice ao n cap) (is l)) (h20 : n ≤ 20) (hp : permB l = true) (hx : x = rkM l n) :
    Calls Try.prog 30 #[.slice ao n cap] w fun e w' => e = .returned (.tuple #[.int .u64 (x : Int), .int .i64 0]) ∧ Below w.heap.size w w' := by
  subst hx; exact refRank_ok ao n cap l w R h20 hp
theorem permB_unr {n r : Nat} (hr : r < fac n) (h20 : n ≤ 20) : permB (nI (unr n (List.range n) r)) = true ∧ rkM (nI (unr n (List.range n) r)) n = r := by
  obtain ⟨h1, h2⟩ := rk_unr n (List.range n) r (by simp) (sorted_range n) hr
  refine ⟨permB_yes (okTo_permF (perm_permF h1)), ?_⟩
  have := rkM_all (unr n (List.range n) r) (by rw [unr_length]; exact h20)
  rw [unr_length, h2] at this
  exact this

theorem perm_big (a0 : Option Addr) (len0 cap0 : Nat) (n : Int) (r : Nat) (w : World) (hm : 40 < len0) :
    Calls Try.prog 10 #[.slice a0 len0 cap0, .int .i64 n, .int .u64 (r : Int)] w fun e w' => e = .returned (.bool true) ∧ Below w.heap.size w w' := by
  have d1 : decide ((40 : Int) < (len0 : Int)) = true := by simp; omega
  go_enter Try.func10, Try.ntmps10
  go_wp2_with (go_at_call 16; ((with_reducible refine (awake_any w).mono ?_); (rintro e w2 ⟨rfl, h2⟩; have B2 := hid_of h2; clear h2)))
  go_ret
  exact ⟨rfl, B2.out⟩

set_option maxRecDepth 100000 in
set_option maxHeartbeats 16000000 in
theorem perm_good (a0 : Option Addr) (len0 cap0 : Nat) (n : Int) (r : Nat) (l : List Int) (w : World) (R : Rd w (.slice a0 len0 cap0) (is l)) (hm : len0 ≤ 40) (hr : r < 18446744073709551616) :
    Calls Try.prog 10 #[.slice a0 len0 cap0, .int .i64 n, .int .u64 (r : Int)] w fun e w' => e = .returned (.bool true) ∧ Below w.heap.size w w' := by
  have d1 : decide ((40 : Int) < (len0 : Int)) = false := by simp; omega
  have HR := hid_of R
  have hlen : len0 = l.length := (rd_open R).1
  have HW : Hid (w.heap.size ≤ w.heap.size) := hid_of (Nat.le_refl _)
  have HRC : Hid ((∀ w', Below w.heap.size w w' → Calls Try.prog 29 #[.slice a0 len0 cap0] w' (fun e w'' => e = .returned (.tuple #[.int .u64 0, .int .i64 1]) ∧ Below w'.heap.size w' w'')) ∧ (∀ w', Below w.heap.size w w' → Calls Try.prog 30 #[.slice a0 len0 cap0] w' (fun e w'' => e = .returned (.tuple #[.int .u64 0, .int .i64 1]) ∧ Below w'.heap.size w' w'')) ∨
    ∃ (x c : Nat), len0 ≤ 20 ∧ x < c ∧ (∀ w', Below w.heap.size w w' → Calls Try.prog 29 #[.slice a0 len0 cap0] w' (fun e w'' => e = .returned (.tuple #[.int .u64 (x : Int), .int .i64 0]) ∧ Below w'.heap.size w' w'')) ∧ (∀ w', Below w.heap.size w w' → Calls Try.prog 30 #[.slice a0 len0 cap0] w' (fun e w'' => e = .returned (.tuple #[.int .u64 (x : Int), .int .i64 0]) ∧ Below w'.heap.size w' w'')) ∧
      (∀ w, Calls Try.prog 31 #[.int .i64 (len0 : Int), .int .u64 (x : Int)] w fun e w' => ∃ g, e = .returned (.tuple #[.slice (some ⟨g, 0, none⟩) len0 len0, .int .i64 0]) ∧ w.heap.size ≤ g ∧ Blk w' g l ∧ Below w.heap.size w w') ∧
      (∀ w, Calls Try.prog 32 #[.int .i64 (len0 : Int)] w fun e w' => e = .returned (.int .u64 (c : Int)) ∧ w = w')) := hid_of (by
    by_cases hi : len0 ≤ 20 ∧ permB l = true
    · obtain ⟨h20, hp⟩ := hi
      obtain ⟨p, hlp, hp2⟩ := okTo_open (permB_iff.1 hp)
      have e4 : len0 = p.length := by rw [hlen, hlp, nI_length]
      have e3 : rkM l len0 = rk p := by rw [hlp, e4]; exact rkM_all p (by omega)
      have e5 : rk p < fac len0 := by rw [e4]; exact rk_lt p
      have e6 : unr len0 (List.range len0) (rk p) = p := by rw [e4]; exact unr_rk p _ (sorted_range _) (permF_perm hp2)
      refine .inr ⟨rk p, fac len0, h20, e5, fun w' hb => rank_val a0 len0 cap0 l _ w' (R.at hb) h20 hp e3.symm, fun w' hb => rrank_val a0 len0 cap0 l _ w' (R.at hb) h20 hp e3.symm, fun w => ?_, fun w => rfac_any len0 len0 w rfl h20⟩
      have := unrankPerm_ok len0 (rk p) len0 w rfl h20 e5
      rw [e6, ← hlp] at this
      exact this
    · have hbad : 20 < len0 ∨ permB l = false := by
        by_cases h20 : 20 < len0
        · exact .inl h20
        · exact .inr (by cases hp : permB l with
            | true => exact absurd ⟨by omega, hp⟩ hi
            | false => rfl)
      exact .inl ⟨fun w' hb => rankPerm_bad a0 len0 cap0 l w' (R.at hb) hbad, fun w' hb => refRank_bad a0 len0 cap0 l w' (R.at hb) hbad (by omega)⟩)
  have HKC : Hid ((∀ w, Calls Try.prog 31 #[.int .i64 n, .int .u64 (r : Int)] w fun e w' => e = .returned (.tuple #[.slice none 0 0, .int .i64 1]) ∧ w = w') ∧ (n < 0 ∨ 20 < n ∨ ∃ y d : Nat, n = y ∧ y ≤ 20 ∧ d ≤ r ∧ (∀ w, Calls Try.prog 32 #[.int .i64 (y : Int)] w fun e w' => e = .returned (.int .u64 (d : Int)) ∧ w = w')) ∨
    ∃ (y d : Nat) (q : List Int), n = y ∧ y ≤ 20 ∧ r < d ∧ q.length = y ∧ (∀ w, Calls Try.prog 32 #[.int .i64 (y : Int)] w fun e w' => e = .returned (.int .u64 (d : Int)) ∧ w = w') ∧
      (∀ w, Calls Try.prog 31 #[.int .i64 (y : Int), .int .u64 (r : Int)] w fun e w' => ∃ g, e = .returned (.tuple #[.slice (some ⟨g, 0, none⟩) y y, .int .i64 0]) ∧ w.heap.size ≤ g ∧ Blk w' g q ∧ Below w.heap.size w w') ∧
      (∀ ao cap w, Rd w (.slice ao y cap) (is q) → Calls Try.prog 29 #[.slice ao y cap] w fun e w' => e = .returned (.tuple #[.int .u64 (r : Int), .int .i64 0]) ∧ Below w.heap.size w w')) := hid_of (by
    by_cases h0 : n < 0
    · exact .inl ⟨fun w => unrankPerm_bad n r w (.inl h0), .inl h0⟩
    · by_cases h1 : 20 < n
      · exact .inl ⟨fun w => unrankPerm_bad n r w (.inr (.inl h1)), .inr (.inl h1)⟩
      · obtain ⟨y, rfl⟩ := Int.eq_ofNat_of_zero_le (show 0 ≤ n by omega)
        have hfa := fun w => rfac_any y y w rfl (by omega)
        by_cases h2 : r < fac y
        · obtain ⟨u1, u2⟩ := permB_unr h2 (show y ≤ 20 by omega)
          exact .inr ⟨y, fac y, nI (unr y (List.range y) r), rfl, by omega, h2, by rw [nI_length, unr_length], hfa, fun w => unrankPerm_ok y r y w rfl (by omega) h2, fun ao cap w R => rank_val ao y cap _ r w R (by omega) u1 u2.symm⟩
        · exact .inl ⟨fun w => unrankPerm_bad y r w (.inr (.inr ⟨y, rfl, by omega, by omega⟩)), .inr (.inr ⟨y, fac y, rfl, by omega, by omega, hfa⟩)⟩)
  have HLL : Hid (l.length ≤ 9223372036854775807) := hid_of (by omega)
  have HLEN : Hid (len0 = l.length) := hid_of hlen
  have hrc := HRC.out
  have hkc := HKC.out
  clear HRC HKC R hlen hr
  rcases hrc with ⟨rc1, rc2⟩ | ⟨x, c, hl20, hxc, rc1, rc2, rc3, rc4⟩ <;>
    rcases hkc with ⟨kc1, hk0 | hk0 | ⟨y, d, rfl, hyn, hdr, kc2⟩⟩ | ⟨y, d, q, rfl, hyn, hrd, hql, kc2, kc1, kc3⟩
  all_goals
    have RC1 := hid_of rc1
    have RC2 := hid_of rc2
    have KC1 := hid_of kc1
    clear rc1 rc2 kc1
    (try (have KC2 := hid_of kc2; clear kc2))
    (try (have KC3 := hid_of kc3; have HQL := hid_of hql; clear kc3 hql))
    (try (have RC3 := hid_of rc3; have RC4 := hid_of rc4; clear rc3 rc4))
    (try (have g1 : decide (c ≤ x) = false := (by simp; omega); clear hxc hl20))
    (try (have g2 : decide (n < 0) = true := (by simp; omega); clear hk0))
    (try (have g3 : decide (n < 0) = false := (by simp; omega); have g3b : decide (20 < n) = true := (by simp; omega); clear hk0))
    (try (have g4 : decide ((y : Int) < 0) = false := (by simp); have g4b : decide ((20 : Int) < (y : Int)) = false := (by simp; omega)))
    (try (have HYN := hid_of hyn; clear hyn))
    (try (have g6 : decide (d ≤ r) = true := (by simp; omega); clear hdr))
    (try (have g7 : decide (d ≤ r) = false := (by simp; omega); clear hrd))
    go_enter Try.func10, Try.ntmps10
    go_wp2_with (first
      | (go_at_call 29; (first
        | ((with_reducible refine (RC1.out w (Below.refl _ _)).mono ?_); (rintro e w1 ⟨rfl, h1⟩; have B1 := hid_of h1; clear h1))
        | ((with_reducible refine (KC3.out (some ⟨g6, 0, none⟩) y w6 (X6.out.rd HQL.out.symm (by rw [HQL.out]; have := HYN.out; omega))).mono ?_); (rintro e w7 ⟨rfl, h7⟩; have B7 := hid_of (step_b B6.out h7 HW.out); clear h7))))
      | (go_at_call 30; ((with_reducible refine (RC2.out w1 B1.out).mono ?_); (rintro e w2 ⟨rfl, h2⟩; have B2 := hid_of (step_b B1.out h2 HW.out); clear h2)))
      | (go_at_call 31; (first
        | ((with_reducible refine (RC3.out w2).mono ?_); (rintro e w3 ⟨g3, rfl, hg3, h3, hb3⟩; have X3 := hid_of h3; have B3 := hid_of (step_b B2.out hb3 HW.out); clear hg3 h3 hb3))
        | ((with_reducible refine (KC1.out w4).mono ?_); (first | (rintro e w' ⟨rfl, rfl⟩) | (rintro e w6 ⟨g6, rfl, hg6, h6, hb6⟩; have X6 := hid_of h6; have B6 := hid_of (step_b B4.out hb6 HW.out); clear hg6 h6 hb6)))
        | ((with_reducible refine (KC1.out w2).mono ?_); (first | (rintro e w' ⟨rfl, rfl⟩) | (rintro e w6 ⟨g6, rfl, hg6, h6, hb6⟩; have X6 := hid_of h6; have B6 := hid_of (step_b B2.out hb6 HW.out); clear hg6 h6 hb6)))))
      | (go_at_call 24; ((with_reducible refine (same_yes a0 (some ⟨g3, 0, none⟩) len0 cap0 len0 l w3 (HR.out.at B3.out) (X3.out.rd HLEN.out HLL.out)).mono ?_); (rintro e w4 ⟨rfl, h4⟩; have B4 := hid_of (step_b B3.out h4 HW.out); clear h4)))
      | (go_at_call 32; (first
        | ((with_reducible refine (RC4.out w4).mono ?_); (rintro e w' ⟨rfl, rfl⟩))
        | ((refine (KC2.out _).mono ?_); (rintro e w' ⟨rfl, rfl⟩))))
      | (go_at_call 16; ((refine (awake_any _).mono ?_); (rintro e w8 ⟨rfl, h8⟩; have B8 := hid_of (show Below w.heap.size w w8 from (by first | exact step_b B7.out h8 HW.out | exact step_b B6.out h8 HW.out | exact step_b B5.out h8 HW.out | exact step_b B4.out h8 HW.out | exact step_b B3.out h8 HW.out | exact step_b B2.out h8 HW.out | exact step_b B1.out h8 HW.out)); clear h8))))
    go_ret
    exact ⟨rfl, B8.out⟩

theorem perm_law (a0 : Option Addr) (len0 cap0 : Nat) (a1 a2 : Int) (z0 : List Int) (w : World) (w0 : IsRow .i64 w a0 len0 cap0 z0) (w1 : (Lit.int .i64 a1).wf = true) (w2 : (Lit.int .u64 a2).wf = true) :
    Calls Try.prog 10 #[.slice a0 len0 cap0, .int .i64 a1, .int .u64 a2] w fun e w' => e = .returned (.bool true) ∧ Below w.heap.size w w' := by
  obtain ⟨l, e2, k2, r2⟩ := w0.rd
  obtain ⟨r, rfl, hr⟩ := u64_nat w2
  by_cases hm : 40 < len0
  · exact perm_big a0 len0 cap0 a1 r w hm
  · exact perm_good a0 len0 cap0 a1 r l w r2 (by omega) hr
end Go.Proofs.Ytpmajdgabpmooaa
