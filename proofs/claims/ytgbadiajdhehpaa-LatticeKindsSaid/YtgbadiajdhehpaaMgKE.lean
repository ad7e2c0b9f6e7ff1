/- Texts in one: LatRno, LatRnx, LatRck, LatRde, LatOpn, LatLwK. -/
import Derived.Test.YtgbadiajdhehpaaMgKD
import Derived.SliceStrings
import Derived.Deep.Strs
import Derived.ProofKit
import Derived.SizedLaws
import Derived.Test.YtgbadiajdhehpaaRows
set_option linter.unusedVariables false
set_option linter.unusedSimpArgs false
/- The reference's node. Bounds on sizes alone. -/
namespace Go.Proofs.Ytgbadiajdhehpaa
open Go.RowKit

def rnodeE (t : Lat) (d c : Nat) : Int := if 6 < d ∨ 64 ≤ c then 6 else nodeE t
set_option maxRecDepth 100000 in
set_option maxHeartbeats 6400000 in
theorem rnode6 (t : Lat) (k lo hi : Int) (an : Option Addr) (nn cn : Nat) (ap : Option Addr) (np cp : Nat) (ar : Option Addr) (nr cr : Nat) (d c : Nat) (w : World) (H : LO w k lo hi an nn cn ap np cp ar nr cr t) (hd : d ≤ 9) (hc : c ≤ 64) (hk : k = 6) : Calls Try.prog 52 #[.agg #[.int .i64 k, .int .i64 lo, .int .i64 hi, .slice an nn cn, .slice ap np cp, .slice ar nr cr], .int .i64 (d : Nat), .int .i64 (c : Nat)] w (ErP (rnodeE t d c) w) := by
  obtain ⟨r, hr⟩ : ∃ r, r = rnodeE t d c := ⟨_, rfl⟩
  rw [← hr]
  have HB := hid_of (bel_alloc w (.cells #[.int .i64 k, .int .i64 lo, .int .i64 hi, .slice an nn cn, .slice ap np cp, .slice ar nr cr] 26))
  have HC : Hid (∀ w', Below (w.alloc (.cells #[.int .i64 k, .int .i64 lo, .int .i64 hi, .slice an nn cn, .slice ap np cp, .slice ar nr cr] 26)).heap.size (w.alloc (.cells #[.int .i64 k, .int .i64 lo, .int .i64 hi, .slice an nn cn, .slice ap np cp, .slice ar nr cr] 26)) w' → _) := hid_of (fun w' h => box6 k lo hi an nn cn ap np cp ar nr cr h)
  have FA := hid_of (fun w => rshape_any k lo hi an nn cn ap np cp ar nr cr w)
  have hlim : limL k = 8 := by unfold limL; rw [if_pos hk]
  have HLK : Hid (limL t.k = 8) := hid_of (by rw [← H.hk]; exact hlim)
  have e6 : (k == 6) = true := beq_iff_eq.2 hk
  have e10 : (k == 10) = false := beq_eq_false_iff_ne.2 (by omega)
  have e7 : (k == 7) = false := beq_eq_false_iff_ne.2 (by omega)
  have hcn : nn ≤ 9223372036854775807 := by have := rds_open H.n; omega
  have hcr : nr ≤ 9223372036854775807 := by have := H.r.len; omega
  have hcp : np ≤ 9223372036854775807 := by have := H.p.len; omega
  have HH := hid_of H
  have HK := hid_of hk
  unfold rnodeE at hr
  clear hlim
  by_cases hdc : 6 < d
  · have RE : Hid (6 = r) := hid_of (by rw [hr, if_pos (.inl hdc)])
    have d1 : decide (6 < d) = true := decide_eq_true hdc
    have d1i : decide ((6 : Int) < (d : Int)) = true := decide_eq_true (by omega)
    clear hr hdc H hk
    go_enter Try.func52, Try.ntmps52
    go_wp2
    go_ret
    exact ⟨ret_i RE.out, HB.out⟩
  by_cases hcc : 64 ≤ c
  · have RE : Hid (6 = r) := hid_of (by rw [hr, if_pos (.inr hcc)])
    have d1 : decide (6 < d) = false := decide_eq_false hdc
    have d1i : decide ((6 : Int) < (d : Int)) = false := decide_eq_false (by omega)
    have d2 : decide (64 ≤ c) = true := decide_eq_true hcc
    have d2i : decide ((64 : Int) ≤ (c : Int)) = true := decide_eq_true (by omega)
    clear hr hdc hcc H hk
    go_enter Try.func52, Try.ntmps52
    go_wp2
    go_ret
    exact ⟨ret_i RE.out, HB.out⟩
  rw [if_neg (by omega)] at hr
  have HR := hid_of (hr.trans (nodeE.eq_1 t))
  have d1 : decide (6 < d) = false := decide_eq_false hdc
  have d1i : decide ((6 : Int) < (d : Int)) = false := decide_eq_false (by omega)
  have d2 : decide (64 ≤ c) = false := decide_eq_false hcc
  have d2i : decide ((64 : Int) ≤ (c : Int)) = false := decide_eq_false (by omega)
  have hsf : shapeB t = fieldsB k lo hi nn np nr := by rw [shape_fields, H.hk, H.hlo, H.hhi, H.ln, H.lp, H.lr]
  obtain ⟨qf, hqf⟩ : ∃ q, q = fieldsB k lo hi nn np nr := ⟨_, rfl⟩
  rw [← hqf] at hsf FA
  have HSF := hid_of hsf
  clear hr hqf hsf hdc hcc H hk
  cases qf
  · have RE : Hid (1 = r) := hid_of (by rw [HR.out, if_pos HSF.out])
    go_enter Try.func52, Try.ntmps52
    go_wp2_with (go_at_call 73; ((with_reducible refine (FA.out _).mono ?_); (rintro e w2 ⟨rfl, h2⟩)); (have K2 := hid_of h2); (obtain ⟨s0, s1, s2, s3, s4, s5⟩ := HC.out w2 h2); clear h2)
    go_ret
    exact ⟨ret_i RE.out, HB.out.trans (K2.out.mono HB.out.size)⟩
  have HR2 : Hid (r = _) := hid_of (HR.out.trans (if_neg (by rw [HSF.out]; simp)))
  by_cases h1 : 8 < nn
  · have RE : Hid (6 = r) := hid_of (by rw [HR2.out, if_pos (.inl (by rw [HLK.out, ← HH.out.ln]; exact h1))])
    have l1 : decide (8 < nn) = true := decide_eq_true h1
    have l1i : decide ((8 : Int) < (nn : Int)) = true := decide_eq_true (by omega)
    clear h1
    go_enter Try.func52, Try.ntmps52
    go_wp2_with (go_at_call 73; ((with_reducible refine (FA.out _).mono ?_); (rintro e w2 ⟨rfl, h2⟩)); (have K2 := hid_of h2); (obtain ⟨s0, s1, s2, s3, s4, s5⟩ := HC.out w2 h2); clear h2)
    go_ret
    exact ⟨ret_i RE.out, HB.out.trans (K2.out.mono HB.out.size)⟩
  have l1 : decide (8 < nn) = false := decide_eq_false h1
  have l1i : decide ((8 : Int) < (nn : Int)) = false := decide_eq_false (by omega)
  by_cases h2 : 32 < nr
  · have RE : Hid (6 = r) := hid_of (by rw [HR2.out, if_pos (.inr (by rw [← HH.out.lr]; exact h2))])
    have l2 : decide (32 < nr) = true := decide_eq_true h2
    have l2i : decide ((32 : Int) < (nr : Int)) = true := decide_eq_true (by omega)
    clear h1 h2
    go_enter Try.func52, Try.ntmps52
    go_wp2_with (go_at_call 73; ((with_reducible refine (FA.out _).mono ?_); (rintro e w2 ⟨rfl, h2⟩)); (have K2 := hid_of h2); (obtain ⟨s0, s1, s2, s3, s4, s5⟩ := HC.out w2 h2); clear h2)
    go_ret
    exact ⟨ret_i RE.out, HB.out.trans (K2.out.mono HB.out.size)⟩
  have l2 : decide (32 < nr) = false := decide_eq_false h2
  have l2i : decide ((32 : Int) < (nr : Int)) = false := decide_eq_false (by omega)
  have HR3 : Hid (r = _) := hid_of (HR2.out.trans (if_neg (by rw [HLK.out, ← HH.out.ln, ← HH.out.lr]; omega)))
  have NM := hid_of (fun (wz : World) (hz : Below (w.alloc (.cells #[.int .i64 k, .int .i64 lo, .int .i64 hi, .slice an nn cn, .slice ap np cp, .slice ar nr cr] 26)).heap.size (w.alloc (.cells #[.int .i64 k, .int .i64 lo, .int .i64 hi, .slice an nn cn, .slice ap np cp, .slice ar nr cr] 26)) wz) => rnamed_any t k lo hi an nn cn ap np cp ar nr cr wz (HH.out.at (HB.out.trans (hz.mono HB.out.size))))
  rw [rnamed_eq HSF.out] at NM
  obtain ⟨qn, hqn⟩ : ∃ q, q = (namesB t && rulesB t.ns t.rs) := ⟨_, rfl⟩
  rw [← hqn] at NM HR3
  clear hqn h1 h2
  cases qn
  · have RE : Hid (3 = r) := hid_of (by rw [HR3.out, if_pos rfl])
    go_enter Try.func52, Try.ntmps52
    go_wp2_with (first | (go_at_call 73; ((with_reducible refine (FA.out _).mono ?_); (rintro e w2 ⟨rfl, h2⟩)); (have K2 := hid_of h2); (obtain ⟨s0, s1, s2, s3, s4, s5⟩ := HC.out w2 h2); clear h2) | (go_at_call 74; ((with_reducible refine (NM.out _ K2.out).mono ?_); (rintro e w4 ⟨rfl, h4⟩)); (have K4 := hid_of (K2.out.trans (h4.mono K2.out.size))); (obtain ⟨v0, v1, v2, v3, v4, v5⟩ := HC.out w4 K4.out); clear h4 s0 s1 s2 s3 s4 s5))
    go_ret
    exact ⟨ret_i RE.out, HB.out.trans (K4.out.mono HB.out.size)⟩
  have HR4 : Hid (r = _) := hid_of (HR3.out.trans (if_neg (by simp)))
  by_cases h1 : hi < lo
  · have RE : Hid (5 = r) := hid_of (by rw [HR4.out, if_pos (by rw [← HH.out.hlo, ← HH.out.hhi]; exact .inl h1)])
    have d3 : decide (hi < lo) = true := decide_eq_true h1
    clear h1
    go_enter Try.func52, Try.ntmps52
    go_wp2_with (first | (go_at_call 73; ((with_reducible refine (FA.out _).mono ?_); (rintro e w2 ⟨rfl, h2⟩)); (have K2 := hid_of h2); (obtain ⟨s0, s1, s2, s3, s4, s5⟩ := HC.out w2 h2); clear h2) | (go_at_call 74; ((with_reducible refine (NM.out _ K2.out).mono ?_); (rintro e w4 ⟨rfl, h4⟩)); (have K4 := hid_of (K2.out.trans (h4.mono K2.out.size))); (obtain ⟨v0, v1, v2, v3, v4, v5⟩ := HC.out w4 K4.out); clear h4 s0 s1 s2 s3 s4 s5))
    go_ret
    exact ⟨ret_i RE.out, HB.out.trans (K4.out.mono HB.out.size)⟩
  have d3 : decide (hi < lo) = false := decide_eq_false h1
  by_cases h2 : lo < -1000000000
  · have RE : Hid (5 = r) := hid_of (by rw [HR4.out, if_pos (by rw [← HH.out.hlo, ← HH.out.hhi]; exact .inr (.inl h2))])
    have d4 : decide (lo < -1000000000) = true := decide_eq_true h2
    clear h1 h2
    go_enter Try.func52, Try.ntmps52
    go_wp2_with (first | (go_at_call 73; ((with_reducible refine (FA.out _).mono ?_); (rintro e w2 ⟨rfl, h2⟩)); (have K2 := hid_of h2); (obtain ⟨s0, s1, s2, s3, s4, s5⟩ := HC.out w2 h2); clear h2) | (go_at_call 74; ((with_reducible refine (NM.out _ K2.out).mono ?_); (rintro e w4 ⟨rfl, h4⟩)); (have K4 := hid_of (K2.out.trans (h4.mono K2.out.size))); (obtain ⟨v0, v1, v2, v3, v4, v5⟩ := HC.out w4 K4.out); clear h4 s0 s1 s2 s3 s4 s5))
    go_ret
    exact ⟨ret_i RE.out, HB.out.trans (K4.out.mono HB.out.size)⟩
  have d4 : decide (lo < -1000000000) = false := decide_eq_false h2
  by_cases h3 : 1000000000 < hi
  · have RE : Hid (5 = r) := hid_of (by rw [HR4.out, if_pos (by rw [← HH.out.hlo, ← HH.out.hhi]; exact .inr (.inr h3))])
    have d5 : decide (1000000000 < hi) = true := decide_eq_true h3
    clear h1 h2 h3
    go_enter Try.func52, Try.ntmps52
    go_wp2_with (first | (go_at_call 73; ((with_reducible refine (FA.out _).mono ?_); (rintro e w2 ⟨rfl, h2⟩)); (have K2 := hid_of h2); (obtain ⟨s0, s1, s2, s3, s4, s5⟩ := HC.out w2 h2); clear h2) | (go_at_call 74; ((with_reducible refine (NM.out _ K2.out).mono ?_); (rintro e w4 ⟨rfl, h4⟩)); (have K4 := hid_of (K2.out.trans (h4.mono K2.out.size))); (obtain ⟨v0, v1, v2, v3, v4, v5⟩ := HC.out w4 K4.out); clear h4 s0 s1 s2 s3 s4 s5))
    go_ret
    exact ⟨ret_i RE.out, HB.out.trans (K4.out.mono HB.out.size)⟩
  have d5 : decide (1000000000 < hi) = false := decide_eq_false h3
  have HR5 : Hid (r = _) := hid_of (HR4.out.trans (if_neg (by rw [← HH.out.hlo, ← HH.out.hhi]; omega)))
  clear h1 h2 h3
  have RE : Hid (0 = r) := hid_of (by rw [HR5.out, if_neg (by rw [← HH.out.hk, HK.out]; simp)])
  go_enter Try.func52, Try.ntmps52
  go_wp2_with (first | (go_at_call 73; ((with_reducible refine (FA.out _).mono ?_); (rintro e w2 ⟨rfl, h2⟩)); (have K2 := hid_of h2); (obtain ⟨s0, s1, s2, s3, s4, s5⟩ := HC.out w2 h2); clear h2) | (go_at_call 74; ((with_reducible refine (NM.out _ K2.out).mono ?_); (rintro e w4 ⟨rfl, h4⟩)); (have K4 := hid_of (K2.out.trans (h4.mono K2.out.size))); (obtain ⟨v0, v1, v2, v3, v4, v5⟩ := HC.out w4 K4.out); clear h4 s0 s1 s2 s3 s4 s5))
  go_ret
  exact ⟨ret_i RE.out, HB.out.trans (K4.out.mono HB.out.size)⟩
set_option maxRecDepth 100000 in
set_option maxHeartbeats 6400000 in
theorem rnode10 (t : Lat) (k lo hi : Int) (an : Option Addr) (nn cn : Nat) (ap : Option Addr) (np cp : Nat) (ar : Option Addr) (nr cr : Nat) (d c : Nat) (w : World) (H : LO w k lo hi an nn cn ap np cp ar nr cr t) (hd : d ≤ 9) (hc : c ≤ 64) (hk : k = 10) : Calls Try.prog 52 #[.agg #[.int .i64 k, .int .i64 lo, .int .i64 hi, .slice an nn cn, .slice ap np cp, .slice ar nr cr], .int .i64 (d : Nat), .int .i64 (c : Nat)] w (ErP (rnodeE t d c) w) := by
  obtain ⟨r, hr⟩ : ∃ r, r = rnodeE t d c := ⟨_, rfl⟩
  rw [← hr]
  have HB := hid_of (bel_alloc w (.cells #[.int .i64 k, .int .i64 lo, .int .i64 hi, .slice an nn cn, .slice ap np cp, .slice ar nr cr] 26))
  have HC : Hid (∀ w', Below (w.alloc (.cells #[.int .i64 k, .int .i64 lo, .int .i64 hi, .slice an nn cn, .slice ap np cp, .slice ar nr cr] 26)).heap.size (w.alloc (.cells #[.int .i64 k, .int .i64 lo, .int .i64 hi, .slice an nn cn, .slice ap np cp, .slice ar nr cr] 26)) w' → _) := hid_of (fun w' h => box6 k lo hi an nn cn ap np cp ar nr cr h)
  have FA := hid_of (fun w => rshape_any k lo hi an nn cn ap np cp ar nr cr w)
  have hlim : limL k = 12 := by unfold limL; rw [if_neg (by omega), if_pos hk]
  have HLK : Hid (limL t.k = 12) := hid_of (by rw [← H.hk]; exact hlim)
  have e6 : (k == 6) = false := beq_eq_false_iff_ne.2 (by omega)
  have e10 : (k == 10) = true := beq_iff_eq.2 hk
  have e7 : (k == 7) = false := beq_eq_false_iff_ne.2 (by omega)
  have hcn : nn ≤ 9223372036854775807 := by have := rds_open H.n; omega
  have hcr : nr ≤ 9223372036854775807 := by have := H.r.len; omega
  have hcp : np ≤ 9223372036854775807 := by have := H.p.len; omega
  have HH := hid_of H
  have HK := hid_of hk
  unfold rnodeE at hr
  clear hlim
  by_cases hdc : 6 < d
  · have RE : Hid (6 = r) := hid_of (by rw [hr, if_pos (.inl hdc)])
    have d1 : decide (6 < d) = true := decide_eq_true hdc
    have d1i : decide ((6 : Int) < (d : Int)) = true := decide_eq_true (by omega)
    clear hr hdc H hk
    go_enter Try.func52, Try.ntmps52
    go_wp2
    go_ret
    exact ⟨ret_i RE.out, HB.out⟩
  by_cases hcc : 64 ≤ c
  · have RE : Hid (6 = r) := hid_of (by rw [hr, if_pos (.inr hcc)])
    have d1 : decide (6 < d) = false := decide_eq_false hdc
    have d1i : decide ((6 : Int) < (d : Int)) = false := decide_eq_false (by omega)
    have d2 : decide (64 ≤ c) = true := decide_eq_true hcc
    have d2i : decide ((64 : Int) ≤ (c : Int)) = true := decide_eq_true (by omega)
    clear hr hdc hcc H hk
    go_enter Try.func52, Try.ntmps52
    go_wp2
    go_ret
    exact ⟨ret_i RE.out, HB.out⟩
  rw [if_neg (by omega)] at hr
  have HR := hid_of (hr.trans (nodeE.eq_1 t))
  have d1 : decide (6 < d) = false := decide_eq_false hdc
  have d1i : decide ((6 : Int) < (d : Int)) = false := decide_eq_false (by omega)
  have d2 : decide (64 ≤ c) = false := decide_eq_false hcc
  have d2i : decide ((64 : Int) ≤ (c : Int)) = false := decide_eq_false (by omega)
  have hsf : shapeB t = fieldsB k lo hi nn np nr := by rw [shape_fields, H.hk, H.hlo, H.hhi, H.ln, H.lp, H.lr]
  obtain ⟨qf, hqf⟩ : ∃ q, q = fieldsB k lo hi nn np nr := ⟨_, rfl⟩
  rw [← hqf] at hsf FA
  have HSF := hid_of hsf
  clear hr hqf hsf hdc hcc H hk
  cases qf
  · have RE : Hid (1 = r) := hid_of (by rw [HR.out, if_pos HSF.out])
    go_enter Try.func52, Try.ntmps52
    go_wp2_with (go_at_call 73; ((with_reducible refine (FA.out _).mono ?_); (rintro e w2 ⟨rfl, h2⟩)); (have K2 := hid_of h2); (obtain ⟨s0, s1, s2, s3, s4, s5⟩ := HC.out w2 h2); clear h2)
    go_ret
    exact ⟨ret_i RE.out, HB.out.trans (K2.out.mono HB.out.size)⟩
  have HR2 : Hid (r = _) := hid_of (HR.out.trans (if_neg (by rw [HSF.out]; simp)))
  by_cases h1 : 12 < nn
  · have RE : Hid (6 = r) := hid_of (by rw [HR2.out, if_pos (.inl (by rw [HLK.out, ← HH.out.ln]; exact h1))])
    have l1 : decide (12 < nn) = true := decide_eq_true h1
    have l1i : decide ((12 : Int) < (nn : Int)) = true := decide_eq_true (by omega)
    clear h1
    go_enter Try.func52, Try.ntmps52
    go_wp2_with (go_at_call 73; ((with_reducible refine (FA.out _).mono ?_); (rintro e w2 ⟨rfl, h2⟩)); (have K2 := hid_of h2); (obtain ⟨s0, s1, s2, s3, s4, s5⟩ := HC.out w2 h2); clear h2)
    go_ret
    exact ⟨ret_i RE.out, HB.out.trans (K2.out.mono HB.out.size)⟩
  have l1 : decide (12 < nn) = false := decide_eq_false h1
  have l1i : decide ((12 : Int) < (nn : Int)) = false := decide_eq_false (by omega)
  by_cases h2 : 32 < nr
  · have RE : Hid (6 = r) := hid_of (by rw [HR2.out, if_pos (.inr (by rw [← HH.out.lr]; exact h2))])
    have l2 : decide (32 < nr) = true := decide_eq_true h2
    have l2i : decide ((32 : Int) < (nr : Int)) = true := decide_eq_true (by omega)
    clear h1 h2
    go_enter Try.func52, Try.ntmps52
    go_wp2_with (go_at_call 73; ((with_reducible refine (FA.out _).mono ?_); (rintro e w2 ⟨rfl, h2⟩)); (have K2 := hid_of h2); (obtain ⟨s0, s1, s2, s3, s4, s5⟩ := HC.out w2 h2); clear h2)
    go_ret
    exact ⟨ret_i RE.out, HB.out.trans (K2.out.mono HB.out.size)⟩
  have l2 : decide (32 < nr) = false := decide_eq_false h2
  have l2i : decide ((32 : Int) < (nr : Int)) = false := decide_eq_false (by omega)
  have HR3 : Hid (r = _) := hid_of (HR2.out.trans (if_neg (by rw [HLK.out, ← HH.out.ln, ← HH.out.lr]; omega)))
  have NM := hid_of (fun (wz : World) (hz : Below (w.alloc (.cells #[.int .i64 k, .int .i64 lo, .int .i64 hi, .slice an nn cn, .slice ap np cp, .slice ar nr cr] 26)).heap.size (w.alloc (.cells #[.int .i64 k, .int .i64 lo, .int .i64 hi, .slice an nn cn, .slice ap np cp, .slice ar nr cr] 26)) wz) => rnamed_any t k lo hi an nn cn ap np cp ar nr cr wz (HH.out.at (HB.out.trans (hz.mono HB.out.size))))
  rw [rnamed_eq HSF.out] at NM
  obtain ⟨qn, hqn⟩ : ∃ q, q = (namesB t && rulesB t.ns t.rs) := ⟨_, rfl⟩
  rw [← hqn] at NM HR3
  clear hqn h1 h2
  cases qn
  · have RE : Hid (3 = r) := hid_of (by rw [HR3.out, if_pos rfl])
    go_enter Try.func52, Try.ntmps52
    go_wp2_with (first | (go_at_call 73; ((with_reducible refine (FA.out _).mono ?_); (rintro e w2 ⟨rfl, h2⟩)); (have K2 := hid_of h2); (obtain ⟨s0, s1, s2, s3, s4, s5⟩ := HC.out w2 h2); clear h2) | (go_at_call 74; ((with_reducible refine (NM.out _ K2.out).mono ?_); (rintro e w4 ⟨rfl, h4⟩)); (have K4 := hid_of (K2.out.trans (h4.mono K2.out.size))); (obtain ⟨v0, v1, v2, v3, v4, v5⟩ := HC.out w4 K4.out); clear h4 s0 s1 s2 s3 s4 s5))
    go_ret
    exact ⟨ret_i RE.out, HB.out.trans (K4.out.mono HB.out.size)⟩
  have HR4 : Hid (r = _) := hid_of (HR3.out.trans (if_neg (by simp)))
  by_cases h1 : hi < lo
  · have RE : Hid (5 = r) := hid_of (by rw [HR4.out, if_pos (by rw [← HH.out.hlo, ← HH.out.hhi]; exact .inl h1)])
    have d3 : decide (hi < lo) = true := decide_eq_true h1
    clear h1
    go_enter Try.func52, Try.ntmps52
    go_wp2_with (first | (go_at_call 73; ((with_reducible refine (FA.out _).mono ?_); (rintro e w2 ⟨rfl, h2⟩)); (have K2 := hid_of h2); (obtain ⟨s0, s1, s2, s3, s4, s5⟩ := HC.out w2 h2); clear h2) | (go_at_call 74; ((with_reducible refine (NM.out _ K2.out).mono ?_); (rintro e w4 ⟨rfl, h4⟩)); (have K4 := hid_of (K2.out.trans (h4.mono K2.out.size))); (obtain ⟨v0, v1, v2, v3, v4, v5⟩ := HC.out w4 K4.out); clear h4 s0 s1 s2 s3 s4 s5))
    go_ret
    exact ⟨ret_i RE.out, HB.out.trans (K4.out.mono HB.out.size)⟩
  have d3 : decide (hi < lo) = false := decide_eq_false h1
  by_cases h2 : lo < -1000000000
  · have RE : Hid (5 = r) := hid_of (by rw [HR4.out, if_pos (by rw [← HH.out.hlo, ← HH.out.hhi]; exact .inr (.inl h2))])
    have d4 : decide (lo < -1000000000) = true := decide_eq_true h2
    clear h1 h2
    go_enter Try.func52, Try.ntmps52
    go_wp2_with (first | (go_at_call 73; ((with_reducible refine (FA.out _).mono ?_); (rintro e w2 ⟨rfl, h2⟩)); (have K2 := hid_of h2); (obtain ⟨s0, s1, s2, s3, s4, s5⟩ := HC.out w2 h2); clear h2) | (go_at_call 74; ((with_reducible refine (NM.out _ K2.out).mono ?_); (rintro e w4 ⟨rfl, h4⟩)); (have K4 := hid_of (K2.out.trans (h4.mono K2.out.size))); (obtain ⟨v0, v1, v2, v3, v4, v5⟩ := HC.out w4 K4.out); clear h4 s0 s1 s2 s3 s4 s5))
    go_ret
    exact ⟨ret_i RE.out, HB.out.trans (K4.out.mono HB.out.size)⟩
  have d4 : decide (lo < -1000000000) = false := decide_eq_false h2
  by_cases h3 : 1000000000 < hi
  · have RE : Hid (5 = r) := hid_of (by rw [HR4.out, if_pos (by rw [← HH.out.hlo, ← HH.out.hhi]; exact .inr (.inr h3))])
    have d5 : decide (1000000000 < hi) = true := decide_eq_true h3
    clear h1 h2 h3
    go_enter Try.func52, Try.ntmps52
    go_wp2_with (first | (go_at_call 73; ((with_reducible refine (FA.out _).mono ?_); (rintro e w2 ⟨rfl, h2⟩)); (have K2 := hid_of h2); (obtain ⟨s0, s1, s2, s3, s4, s5⟩ := HC.out w2 h2); clear h2) | (go_at_call 74; ((with_reducible refine (NM.out _ K2.out).mono ?_); (rintro e w4 ⟨rfl, h4⟩)); (have K4 := hid_of (K2.out.trans (h4.mono K2.out.size))); (obtain ⟨v0, v1, v2, v3, v4, v5⟩ := HC.out w4 K4.out); clear h4 s0 s1 s2 s3 s4 s5))
    go_ret
    exact ⟨ret_i RE.out, HB.out.trans (K4.out.mono HB.out.size)⟩
  have d5 : decide (1000000000 < hi) = false := decide_eq_false h3
  have HR5 : Hid (r = _) := hid_of (HR4.out.trans (if_neg (by rw [← HH.out.hlo, ← HH.out.hhi]; omega)))
  clear h1 h2 h3
  have RE : Hid (0 = r) := hid_of (by rw [HR5.out, if_neg (by rw [← HH.out.hk, HK.out]; simp)])
  go_enter Try.func52, Try.ntmps52
  go_wp2_with (first | (go_at_call 73; ((with_reducible refine (FA.out _).mono ?_); (rintro e w2 ⟨rfl, h2⟩)); (have K2 := hid_of h2); (obtain ⟨s0, s1, s2, s3, s4, s5⟩ := HC.out w2 h2); clear h2) | (go_at_call 74; ((with_reducible refine (NM.out _ K2.out).mono ?_); (rintro e w4 ⟨rfl, h4⟩)); (have K4 := hid_of (K2.out.trans (h4.mono K2.out.size))); (obtain ⟨v0, v1, v2, v3, v4, v5⟩ := HC.out w4 K4.out); clear h4 s0 s1 s2 s3 s4 s5))
  go_ret
  exact ⟨ret_i RE.out, HB.out.trans (K4.out.mono HB.out.size)⟩
end Go.Proofs.Ytgbadiajdhehpaa

/- The reference's node. Bounds on sizes alone. -/
namespace Go.Proofs.Ytgbadiajdhehpaa
open Go.RowKit

set_option maxRecDepth 100000 in
set_option maxHeartbeats 6400000 in
theorem rnodeX (t : Lat) (k lo hi : Int) (an : Option Addr) (nn cn : Nat) (ap : Option Addr) (np cp : Nat) (ar : Option Addr) (nr cr : Nat) (d c : Nat) (w : World) (H : LO w k lo hi an nn cn ap np cp ar nr cr t) (hd : d ≤ 9) (hc : c ≤ 64) (hk : k ≠ 6 ∧ k ≠ 10) : Calls Try.prog 52 #[.agg #[.int .i64 k, .int .i64 lo, .int .i64 hi, .slice an nn cn, .slice ap np cp, .slice ar nr cr], .int .i64 (d : Nat), .int .i64 (c : Nat)] w (ErP (rnodeE t d c) w) := by
  obtain ⟨r, hr⟩ : ∃ r, r = rnodeE t d c := ⟨_, rfl⟩
  rw [← hr]
  have HB := hid_of (bel_alloc w (.cells #[.int .i64 k, .int .i64 lo, .int .i64 hi, .slice an nn cn, .slice ap np cp, .slice ar nr cr] 26))
  have HC : Hid (∀ w', Below (w.alloc (.cells #[.int .i64 k, .int .i64 lo, .int .i64 hi, .slice an nn cn, .slice ap np cp, .slice ar nr cr] 26)).heap.size (w.alloc (.cells #[.int .i64 k, .int .i64 lo, .int .i64 hi, .slice an nn cn, .slice ap np cp, .slice ar nr cr] 26)) w' → _) := hid_of (fun w' h => box6 k lo hi an nn cn ap np cp ar nr cr h)
  have FA := hid_of (fun w => rshape_any k lo hi an nn cn ap np cp ar nr cr w)
  have hlim : limL k = 32 := by unfold limL; rw [if_neg (by omega), if_neg (by omega)]
  have HLK : Hid (limL t.k = 32) := hid_of (by rw [← H.hk]; exact hlim)
  have e6 : (k == 6) = false := beq_eq_false_iff_ne.2 hk.1
  have e10 : (k == 10) = false := beq_eq_false_iff_ne.2 hk.2
  have hcn : nn ≤ 9223372036854775807 := by have := rds_open H.n; omega
  have hcr : nr ≤ 9223372036854775807 := by have := H.r.len; omega
  have hcp : np ≤ 9223372036854775807 := by have := H.p.len; omega
  have HH := hid_of H
  have HK := hid_of hk
  unfold rnodeE at hr
  clear hlim
  by_cases hdc : 6 < d
  · have RE : Hid (6 = r) := hid_of (by rw [hr, if_pos (.inl hdc)])
    have d1 : decide (6 < d) = true := decide_eq_true hdc
    have d1i : decide ((6 : Int) < (d : Int)) = true := decide_eq_true (by omega)
    clear hr hdc H hk
    go_enter Try.func52, Try.ntmps52
    go_wp2
    go_ret
    exact ⟨ret_i RE.out, HB.out⟩
  by_cases hcc : 64 ≤ c
  · have RE : Hid (6 = r) := hid_of (by rw [hr, if_pos (.inr hcc)])
    have d1 : decide (6 < d) = false := decide_eq_false hdc
    have d1i : decide ((6 : Int) < (d : Int)) = false := decide_eq_false (by omega)
    have d2 : decide (64 ≤ c) = true := decide_eq_true hcc
    have d2i : decide ((64 : Int) ≤ (c : Int)) = true := decide_eq_true (by omega)
    clear hr hdc hcc H hk
    go_enter Try.func52, Try.ntmps52
    go_wp2
    go_ret
    exact ⟨ret_i RE.out, HB.out⟩
  rw [if_neg (by omega)] at hr
  have HR := hid_of (hr.trans (nodeE.eq_1 t))
  have d1 : decide (6 < d) = false := decide_eq_false hdc
  have d1i : decide ((6 : Int) < (d : Int)) = false := decide_eq_false (by omega)
  have d2 : decide (64 ≤ c) = false := decide_eq_false hcc
  have d2i : decide ((64 : Int) ≤ (c : Int)) = false := decide_eq_false (by omega)
  have hsf : shapeB t = fieldsB k lo hi nn np nr := by rw [shape_fields, H.hk, H.hlo, H.hhi, H.ln, H.lp, H.lr]
  obtain ⟨qf, hqf⟩ : ∃ q, q = fieldsB k lo hi nn np nr := ⟨_, rfl⟩
  rw [← hqf] at hsf FA
  have HSF := hid_of hsf
  clear hr hqf hsf hdc hcc H hk
  cases qf
  · have RE : Hid (1 = r) := hid_of (by rw [HR.out, if_pos HSF.out])
    go_enter Try.func52, Try.ntmps52
    go_wp2_with (go_at_call 73; ((with_reducible refine (FA.out _).mono ?_); (rintro e w2 ⟨rfl, h2⟩)); (have K2 := hid_of h2); (obtain ⟨s0, s1, s2, s3, s4, s5⟩ := HC.out w2 h2); clear h2)
    go_ret
    exact ⟨ret_i RE.out, HB.out.trans (K2.out.mono HB.out.size)⟩
  have HR2 : Hid (r = _) := hid_of (HR.out.trans (if_neg (by rw [HSF.out]; simp)))
  by_cases h1 : 32 < nn
  · have RE : Hid (6 = r) := hid_of (by rw [HR2.out, if_pos (.inl (by rw [HLK.out, ← HH.out.ln]; exact h1))])
    have l1 : decide (32 < nn) = true := decide_eq_true h1
    have l1i : decide ((32 : Int) < (nn : Int)) = true := decide_eq_true (by omega)
    clear h1
    go_enter Try.func52, Try.ntmps52
    go_wp2_with (go_at_call 73; ((with_reducible refine (FA.out _).mono ?_); (rintro e w2 ⟨rfl, h2⟩)); (have K2 := hid_of h2); (obtain ⟨s0, s1, s2, s3, s4, s5⟩ := HC.out w2 h2); clear h2)
    go_ret
    exact ⟨ret_i RE.out, HB.out.trans (K2.out.mono HB.out.size)⟩
  have l1 : decide (32 < nn) = false := decide_eq_false h1
  have l1i : decide ((32 : Int) < (nn : Int)) = false := decide_eq_false (by omega)
  by_cases h2 : 32 < nr
  · have RE : Hid (6 = r) := hid_of (by rw [HR2.out, if_pos (.inr (by rw [← HH.out.lr]; exact h2))])
    have l2 : decide (32 < nr) = true := decide_eq_true h2
    have l2i : decide ((32 : Int) < (nr : Int)) = true := decide_eq_true (by omega)
    clear h1 h2
    go_enter Try.func52, Try.ntmps52
    go_wp2_with (go_at_call 73; ((with_reducible refine (FA.out _).mono ?_); (rintro e w2 ⟨rfl, h2⟩)); (have K2 := hid_of h2); (obtain ⟨s0, s1, s2, s3, s4, s5⟩ := HC.out w2 h2); clear h2)
    go_ret
    exact ⟨ret_i RE.out, HB.out.trans (K2.out.mono HB.out.size)⟩
  have l2 : decide (32 < nr) = false := decide_eq_false h2
  have l2i : decide ((32 : Int) < (nr : Int)) = false := decide_eq_false (by omega)
  have HR3 : Hid (r = _) := hid_of (HR2.out.trans (if_neg (by rw [HLK.out, ← HH.out.ln, ← HH.out.lr]; omega)))
  have NM := hid_of (fun (wz : World) (hz : Below (w.alloc (.cells #[.int .i64 k, .int .i64 lo, .int .i64 hi, .slice an nn cn, .slice ap np cp, .slice ar nr cr] 26)).heap.size (w.alloc (.cells #[.int .i64 k, .int .i64 lo, .int .i64 hi, .slice an nn cn, .slice ap np cp, .slice ar nr cr] 26)) wz) => rnamed_any t k lo hi an nn cn ap np cp ar nr cr wz (HH.out.at (HB.out.trans (hz.mono HB.out.size))))
  rw [rnamed_eq HSF.out] at NM
  obtain ⟨qn, hqn⟩ : ∃ q, q = (namesB t && rulesB t.ns t.rs) := ⟨_, rfl⟩
  rw [← hqn] at NM HR3
  clear hqn h1 h2
  cases qn
  · have RE : Hid (3 = r) := hid_of (by rw [HR3.out, if_pos rfl])
    go_enter Try.func52, Try.ntmps52
    go_wp2_with (first | (go_at_call 73; ((with_reducible refine (FA.out _).mono ?_); (rintro e w2 ⟨rfl, h2⟩)); (have K2 := hid_of h2); (obtain ⟨s0, s1, s2, s3, s4, s5⟩ := HC.out w2 h2); clear h2) | (go_at_call 74; ((with_reducible refine (NM.out _ K2.out).mono ?_); (rintro e w4 ⟨rfl, h4⟩)); (have K4 := hid_of (K2.out.trans (h4.mono K2.out.size))); (obtain ⟨v0, v1, v2, v3, v4, v5⟩ := HC.out w4 K4.out); clear h4 s0 s1 s2 s3 s4 s5))
    go_ret
    exact ⟨ret_i RE.out, HB.out.trans (K4.out.mono HB.out.size)⟩
  have HR4 : Hid (r = _) := hid_of (HR3.out.trans (if_neg (by simp)))
  by_cases h1 : hi < lo
  · have RE : Hid (5 = r) := hid_of (by rw [HR4.out, if_pos (by rw [← HH.out.hlo, ← HH.out.hhi]; exact .inl h1)])
    have d3 : decide (hi < lo) = true := decide_eq_true h1
    clear h1
    go_enter Try.func52, Try.ntmps52
    go_wp2_with (first | (go_at_call 73; ((with_reducible refine (FA.out _).mono ?_); (rintro e w2 ⟨rfl, h2⟩)); (have K2 := hid_of h2); (obtain ⟨s0, s1, s2, s3, s4, s5⟩ := HC.out w2 h2); clear h2) | (go_at_call 74; ((with_reducible refine (NM.out _ K2.out).mono ?_); (rintro e w4 ⟨rfl, h4⟩)); (have K4 := hid_of (K2.out.trans (h4.mono K2.out.size))); (obtain ⟨v0, v1, v2, v3, v4, v5⟩ := HC.out w4 K4.out); clear h4 s0 s1 s2 s3 s4 s5))
    go_ret
    exact ⟨ret_i RE.out, HB.out.trans (K4.out.mono HB.out.size)⟩
  have d3 : decide (hi < lo) = false := decide_eq_false h1
  by_cases h2 : lo < -1000000000
  · have RE : Hid (5 = r) := hid_of (by rw [HR4.out, if_pos (by rw [← HH.out.hlo, ← HH.out.hhi]; exact .inr (.inl h2))])
    have d4 : decide (lo < -1000000000) = true := decide_eq_true h2
    clear h1 h2
    go_enter Try.func52, Try.ntmps52
    go_wp2_with (first | (go_at_call 73; ((with_reducible refine (FA.out _).mono ?_); (rintro e w2 ⟨rfl, h2⟩)); (have K2 := hid_of h2); (obtain ⟨s0, s1, s2, s3, s4, s5⟩ := HC.out w2 h2); clear h2) | (go_at_call 74; ((with_reducible refine (NM.out _ K2.out).mono ?_); (rintro e w4 ⟨rfl, h4⟩)); (have K4 := hid_of (K2.out.trans (h4.mono K2.out.size))); (obtain ⟨v0, v1, v2, v3, v4, v5⟩ := HC.out w4 K4.out); clear h4 s0 s1 s2 s3 s4 s5))
    go_ret
    exact ⟨ret_i RE.out, HB.out.trans (K4.out.mono HB.out.size)⟩
  have d4 : decide (lo < -1000000000) = false := decide_eq_false h2
  by_cases h3 : 1000000000 < hi
  · have RE : Hid (5 = r) := hid_of (by rw [HR4.out, if_pos (by rw [← HH.out.hlo, ← HH.out.hhi]; exact .inr (.inr h3))])
    have d5 : decide (1000000000 < hi) = true := decide_eq_true h3
    clear h1 h2 h3
    go_enter Try.func52, Try.ntmps52
    go_wp2_with (first | (go_at_call 73; ((with_reducible refine (FA.out _).mono ?_); (rintro e w2 ⟨rfl, h2⟩)); (have K2 := hid_of h2); (obtain ⟨s0, s1, s2, s3, s4, s5⟩ := HC.out w2 h2); clear h2) | (go_at_call 74; ((with_reducible refine (NM.out _ K2.out).mono ?_); (rintro e w4 ⟨rfl, h4⟩)); (have K4 := hid_of (K2.out.trans (h4.mono K2.out.size))); (obtain ⟨v0, v1, v2, v3, v4, v5⟩ := HC.out w4 K4.out); clear h4 s0 s1 s2 s3 s4 s5))
    go_ret
    exact ⟨ret_i RE.out, HB.out.trans (K4.out.mono HB.out.size)⟩
  have d5 : decide (1000000000 < hi) = false := decide_eq_false h3
  have HR5 : Hid (r = _) := hid_of (HR4.out.trans (if_neg (by rw [← HH.out.hlo, ← HH.out.hhi]; omega)))
  clear h1 h2 h3
  by_cases h7 : k = 7
  case neg =>
    have RE : Hid (0 = r) := hid_of (by rw [HR5.out, if_neg (by rw [← HH.out.hk]; exact fun h => h7 h.1)])
    have e7 : (k == 7) = false := beq_eq_false_iff_ne.2 h7
    clear h7
    go_enter Try.func52, Try.ntmps52
    go_wp2_with (first | (go_at_call 73; ((with_reducible refine (FA.out _).mono ?_); (rintro e w2 ⟨rfl, h2⟩)); (have K2 := hid_of h2); (obtain ⟨s0, s1, s2, s3, s4, s5⟩ := HC.out w2 h2); clear h2) | (go_at_call 74; ((with_reducible refine (NM.out _ K2.out).mono ?_); (rintro e w4 ⟨rfl, h4⟩)); (have K4 := hid_of (K2.out.trans (h4.mono K2.out.size))); (obtain ⟨v0, v1, v2, v3, v4, v5⟩ := HC.out w4 K4.out); clear h4 s0 s1 s2 s3 s4 s5))
    go_ret
    exact ⟨ret_i RE.out, HB.out.trans (K4.out.mono HB.out.size)⟩
  subst h7
  have hsh := HSF.out
  obtain ⟨p0, p1, hps⟩ : ∃ p0 p1, t.ps = [p0, p1] := by
    have h2 : t.ps.length = 2 := by
      unfold shapeB at hsh
      simp only [← HH.out.hk] at hsh
      have := of_decide_eq_true hsh
      exact this.2.2.2.1
    match hm : t.ps, h2 with
    | [a, b], _ => exact ⟨a, b, rfl⟩
  have h2 : np = 2 := by rw [HH.out.lp, hps]; rfl
  subst h2
  obtain ⟨g, o, kA, loA, hiA, anA, nnA, cnA, apA, npA, cpA, arA, nrA, crA, rfl, LA, hcA⟩ := HH.out.p.get (show t.ps[0]? = some p0 by rw [hps]; rfl)
  have CH := hid_of (fun (wz : World) (hz : Below (w.alloc (.cells #[.int .i64 7, .int .i64 lo, .int .i64 hi, .slice an nn cn, .slice (some ⟨g, o, none⟩) 2 cp, .slice ar nr cr] 26)).heap.size (w.alloc (.cells #[.int .i64 7, .int .i64 lo, .int .i64 hi, .slice an nn cn, .slice (some ⟨g, o, none⟩) 2 cp, .slice ar nr cr] 26)) wz) => rchain_any p0 kA loA hiA anA nnA cnA apA npA cpA arA nrA crA wz (LA.at (HB.out.trans (hz.mono HB.out.size))))
  have HCA : Hid (∀ wz, Below (w.alloc (.cells #[.int .i64 7, .int .i64 lo, .int .i64 hi, .slice an nn cn, .slice (some ⟨g, o, none⟩) 2 cp, .slice ar nr cr] 26)).heap.size (w.alloc (.cells #[.int .i64 7, .int .i64 lo, .int .i64 hi, .slice an nn cn, .slice (some ⟨g, o, none⟩) 2 cp, .slice ar nr cr] 26)) wz → _) := hid_of (fun wz hz => hcA wz (HB.out.trans (hz.mono HB.out.size)))
  simp only [Nat.zero_mul, Nat.add_zero] at HCA
  have hch : chainsL (t.ps.take 1) = chainL p0 := by rw [hps, chainsL_all]; simp
  obtain ⟨qc, hqc⟩ : ∃ q, q = chainL p0 := ⟨_, rfl⟩
  rw [hch, ← hqc] at HR5
  rw [← hqc] at CH
  clear hqc hch hps hsh hcA LA
  cases qc
  · have RE : Hid (4 = r) := hid_of (by rw [HR5.out, if_pos (by rw [← HH.out.hk]; exact ⟨rfl, rfl⟩)])
    go_enter Try.func52, Try.ntmps52
    go_wp2_with (first | (go_at_call 73; ((with_reducible refine (FA.out _).mono ?_); (rintro e w2 ⟨rfl, h2⟩)); (have K2 := hid_of h2); (obtain ⟨s0, s1, s2, s3, s4, s5⟩ := HC.out w2 h2); clear h2) | (go_at_call 74; ((with_reducible refine (NM.out _ K2.out).mono ?_); (rintro e w4 ⟨rfl, h4⟩)); (have K4 := hid_of (K2.out.trans (h4.mono K2.out.size))); (obtain ⟨v0, v1, v2, v3, v4, v5⟩ := HC.out w4 K4.out); (obtain ⟨y0, y1, y2, y3, y4, y5⟩ := HCA.out w4 K4.out); clear h4 s0 s1 s2 s3 s4 s5) | (go_at_call 15; ((with_reducible refine (CH.out _ K4.out).mono ?_); (rintro e w6 ⟨rfl, h6⟩)); (have K6 := hid_of (K4.out.trans (h6.mono K4.out.size))); clear h6))
    go_ret
    exact ⟨ret_i RE.out, HB.out.trans (K6.out.mono HB.out.size)⟩
  · have RE : Hid (0 = r) := hid_of (by rw [HR5.out, if_neg (by simp)])
    go_enter Try.func52, Try.ntmps52
    go_wp2_with (first | (go_at_call 73; ((with_reducible refine (FA.out _).mono ?_); (rintro e w2 ⟨rfl, h2⟩)); (have K2 := hid_of h2); (obtain ⟨s0, s1, s2, s3, s4, s5⟩ := HC.out w2 h2); clear h2) | (go_at_call 74; ((with_reducible refine (NM.out _ K2.out).mono ?_); (rintro e w4 ⟨rfl, h4⟩)); (have K4 := hid_of (K2.out.trans (h4.mono K2.out.size))); (obtain ⟨v0, v1, v2, v3, v4, v5⟩ := HC.out w4 K4.out); (obtain ⟨y0, y1, y2, y3, y4, y5⟩ := HCA.out w4 K4.out); clear h4 s0 s1 s2 s3 s4 s5) | (go_at_call 15; ((with_reducible refine (CH.out _ K4.out).mono ?_); (rintro e w6 ⟨rfl, h6⟩)); (have K6 := hid_of (K4.out.trans (h6.mono K4.out.size))); clear h6))
    go_ret
    exact ⟨ret_i RE.out, HB.out.trans (K6.out.mono HB.out.size)⟩
theorem rnode_any (t : Lat) (k lo hi : Int) (an : Option Addr) (nn cn : Nat) (ap : Option Addr) (np cp : Nat) (ar : Option Addr) (nr cr : Nat) (d c : Nat) (w : World) (H : LO w k lo hi an nn cn ap np cp ar nr cr t) (hd : d ≤ 9) (hc : c ≤ 64) : Calls Try.prog 52 #[.agg #[.int .i64 k, .int .i64 lo, .int .i64 hi, .slice an nn cn, .slice ap np cp, .slice ar nr cr], .int .i64 (d : Nat), .int .i64 (c : Nat)] w (ErP (rnodeE t d c) w) := by
  by_cases h6 : k = 6
  · exact rnode6 t k lo hi an nn cn ap np cp ar nr cr d c w H hd hc h6
  by_cases h10 : k = 10
  · exact rnode10 t k lo hi an nn cn ap np cp ar nr cr d c w H hd hc h10
  exact rnodeX t k lo hi an nn cn ap np cp ar nr cr d c w H hd hc ⟨h6, h10⟩
end Go.Proofs.Ytgbadiajdhehpaa

/- The reference's walk and Check. Bounds on sizes alone. -/
namespace Go.Proofs.Ytgbadiajdhehpaa
open Go.RowKit

/-- The reference counts no node that has an error. -/
def WkP (t : Lat) (d c : Nat) (w : World) (e : Ending) (w' : World) : Prop := (∃ n : Nat, e = .returned (.tuple #[.int .i64 (n : Nat), .int .i64 (chkT t d c).2]) ∧ ((chkT t d c).2 = 0 → n = (chkT t d c).1)) ∧ Below w.heap.size w w'
theorem rnode_0 {t : Lat} {d c : Nat} (h : rnodeE t d c ≠ 0) : (chkT t d c).2 = rnodeE t d c := by
  unfold rnodeE at h ⊢
  rw [chkT_eq]
  split
  · rfl
  · rename_i h2
    rw [if_neg h2] at h
    rw [if_pos h]
theorem rnode_1 {t : Lat} {d c : Nat} (h : rnodeE t d c = 0) : chkT t d c = chkTs t.ps (d + 1) (c + 1) ∧ d ≤ 6 ∧ c < 64 := by
  unfold rnodeE at h
  split at h
  · cases h
  · rename_i h2
    rw [chkT_eq, if_neg h2, if_neg (by rw [h]; simp)]
    exact ⟨rfl, by omega, by omega⟩
theorem chkTs_snd {l : List Lat} {d c : Nat} {p : Lat} {i : Nat} (h : l[i]? = some p) (h2 : (chkT p d c).2 ≠ 0) : (chkTs (l.drop i) d c).2 = (chkT p d c).2 := by
  rw [chkTs_step h, if_pos h2]
set_option maxRecDepth 100000 in
set_option maxHeartbeats 6400000 in
theorem rwalk_any : ∀ (t : Lat) (k lo hi : Int) (an : Option Addr) (nn cn : Nat) (ap : Option Addr) (np cp : Nat) (ar : Option Addr) (nr cr : Nat) (d c : Nat) (w : World), LO w k lo hi an nn cn ap np cp ar nr cr t → d ≤ 7 → c ≤ 64 → Calls Try.prog 28 #[.agg #[.int .i64 k, .int .i64 lo, .int .i64 hi, .slice an nn cn, .slice ap np cp, .slice ar nr cr], .int .i64 (d : Nat), .int .i64 (c : Nat)] w (WkP t d c w) := by
  refine lat_ind ?_
  intro k' lo' hi' ns' ps' rs' ih k lo hi an nn cn ap np cp ar nr cr d c w H hd hc
  obtain ⟨T, hT⟩ : ∃ T, T = Lat.mk k' lo' hi' ns' ps' rs' := ⟨_, rfl⟩
  have hps : T.ps = ps' := by rw [hT]; rfl
  rw [← hT] at H ⊢
  clear hT
  have HBW := hid_of (bel_alloc w (.cells #[.int .i64 k, .int .i64 lo, .int .i64 hi, .slice an nn cn, .slice ap np cp, .slice ar nr cr] 26))
  have HX : Hid (∀ wz, Below (w.alloc (.cells #[.int .i64 k, .int .i64 lo, .int .i64 hi, .slice an nn cn, .slice ap np cp, .slice ar nr cr] 26)).heap.size (w.alloc (.cells #[.int .i64 k, .int .i64 lo, .int .i64 hi, .slice an nn cn, .slice ap np cp, .slice ar nr cr] 26)) wz → _) := hid_of (fun wz hz => box6 k lo hi an nn cn ap np cp ar nr cr hz)
  have ND := hid_of (rnode_any T k lo hi an nn cn ap np cp ar nr cr d c (w.alloc (.cells #[.int .i64 k, .int .i64 lo, .int .i64 hi, .slice an nn cn, .slice ap np cp, .slice ar nr cr] 26)) (H.at HBW.out) (by omega) hc)
  obtain ⟨E, hE⟩ : ∃ E, E = rnodeE T d c := ⟨_, rfl⟩
  rw [← hE] at ND
  have HE := hid_of hE
  have hl := H.p.len
  have hnp : np ≤ 9223372036854775807 := by omega
  have HP := hid_of H.p
  have HNP := hid_of hl.1
  rw [hps] at HP HNP
  have IH := hid_of ih
  have HPS := hid_of hps
  have hc9 : c ≤ 64 := hc
  have hd9 : d ≤ 7 := hd
  obtain ⟨WW, hWW⟩ : ∃ WW, WW = (w.alloc (.cells #[.int .i64 k, .int .i64 lo, .int .i64 hi, .slice an nn cn, .slice ap np cp, .slice ar nr cr] 26)) := ⟨_, rfl⟩
  have K0 : Hid (∀ w1, Below (w.alloc (.cells #[.int .i64 k, .int .i64 lo, .int .i64 hi, .slice an nn cn, .slice ap np cp, .slice ar nr cr] 26)).heap.size (w.alloc (.cells #[.int .i64 k, .int .i64 lo, .int .i64 hi, .slice an nn cn, .slice ap np cp, .slice ar nr cr] 26)) w1 → Below WW.heap.size WW w1) := hid_of (fun w1 h => by rw [hWW]; exact h)
  rw [← hWW] at HX HBW
  clear hE H ih hl hps hWW hc hd
  by_cases h0 : E = 0
  case neg =>
    have RE : Hid ((chkT T d c).2 = E) := hid_of (by rw [HE.out]; exact rnode_0 (by rw [← HE.out]; exact h0))
    have e0 : (E == 0) = false := beq_eq_false_iff_ne.2 h0
    have e0' : (E != 0) = true := bne_iff_ne.2 h0
    have HN0 := hid_of h0
    clear h0
    go_enter Try.func28, Try.ntmps28
    go_wp2_with (go_at_call 52; ((with_reducible refine (ND.out).mono ?_); (rintro e w1 ⟨rfl, h1⟩); (have E1 := hid_of (K0.out w1 h1)); clear h1))
    go_ret2
    exact ⟨⟨c, by rw [RE.out] <;> rfl, fun h => absurd (RE.out.symm.trans h) HN0.out⟩, HBW.out.trans (E1.out.mono HBW.out.size)⟩
  subst h0
  obtain ⟨hq1, hd6, hc64⟩ := rnode_1 HE.out.symm
  rw [HPS.out] at hq1
  have HQ := hid_of hq1
  obtain ⟨R, hR⟩ : ∃ R, R = chkT T d c := ⟨_, rfl⟩
  have HRR := hid_of hR
  clear hq1 hR
  go_enter Try.func28, Try.ntmps28
  go_wp2_with (go_at_call 52; ((with_reducible refine (ND.out).mono ?_); (rintro e w1 ⟨rfl, h1⟩); (have E1 := hid_of (K0.out w1 h1)); clear h1))
  clear ND
  go_loopw [9, 10] (fun nv iv wr => ∃ i ni : Nat, iv = .int .i64 i ∧ nv = .int .i64 ni ∧ i ≤ np ∧ Hid (chkTs (ps'.drop i) (d + 1) ni = R) ∧ Hid (ni ≤ 64) ∧ Hid (Below WW.heap.size WW wr)) (fun _ iv _ => np - (intOf iv).toNat)
  case atStart => exact ⟨0, c + 1, rfl, by go_num, Nat.zero_le _, hid_of (by rw [HRR.out]; exact HQ.out.symm), hid_of hc64, E1⟩
  case round =>
    obtain ⟨i, ni, rfl, rfl, hin, hm, hni, hb⟩ := hrel
    obtain ⟨p0, p1, p2, p3, p4, p5⟩ := HX.out wr hb.out
    have HBWR : Hid (Below w.heap.size w wr) := hid_of (HBW.out.trans (hb.out.mono HBW.out.size))
    by_cases hlt : i < np
    · have d1 : decide (i < np) = true := decide_eq_true hlt
      have hlt' : (i : Int) < (np : Int) := by omega
      have HLT := hid_of hlt
      have hn9 : ni ≤ 64 := hni.out
      obtain ⟨u, hu⟩ : ∃ u, ps'[i]? = some u := ⟨_, List.getElem?_eq_getElem (by have := HNP.out; omega)⟩
      obtain ⟨g, o, kA, loA, hiA, anA, nnA, cnA, apA, npA, cpA, arA, nrA, crA, rfl, LA, hcA⟩ := HP.out.get hu
      obtain ⟨c0, c1, c2, c3, c4, c5⟩ := hcA wr HBWR.out
      have CALL := hid_of (IH.out u (List.mem_of_getElem? hu) kA loA hiA anA nnA cnA apA npA cpA arA nrA crA (d + 1) ni wr (LA.at HBWR.out) (by omega) hn9)
      unfold WkP at CALL
      have HS := hid_of (hm.out.symm.trans (chkTs_step hu))
      have HLE := hid_of (chkT_le u (d + 1) ni hni.out)
      obtain ⟨q, hq⟩ : ∃ q, q = chkT u (d + 1) ni := ⟨_, rfl⟩
      rw [← hq] at CALL HS HLE
      obtain ⟨qc, qe⟩ := q
      simp only at CALL HS HLE
      clear hq hlt hu hcA LA
      by_cases h0 : qe = 0
      · subst h0
        have HS2 : Hid (chkTs (ps'.drop (i + 1)) (d + 1) qc = R) := hid_of (HS.out.trans (if_neg (by simp))).symm
        go_wp2_with (go_at_call 28; go_loud (refine (CALL.out).mono ?_; rintro e w3 ⟨⟨m, rfl, hm2⟩, h4⟩; have HM2 := hid_of (hm2 rfl); have K3 := hid_of h4; clear hm2 h4))
        go_roundw
        case rel => exact ⟨i + 1, qc, by go_num, by rw [HM2.out], HLT.out, HS2, hid_of HLE.out.2, hid_of (hb.out.trans (K3.out.mono hb.out.size))⟩
        case measure => have := HLT.out; simp [intOf]; omega
      · have e0 : (qe == 0) = false := beq_eq_false_iff_ne.2 h0
        have e0' : (qe != 0) = true := bne_iff_ne.2 h0
        have RE : Hid (R = (qc, qe)) := hid_of (HS.out.trans (if_pos h0))
        have HN0 := hid_of h0
        clear h0
        go_wp2_with (go_at_call 28; go_loud (refine (CALL.out).mono ?_; rintro e w3 ⟨⟨m, rfl, hm2⟩, h4⟩; have K3 := hid_of h4; clear hm2 h4))
        go_ret2
        exact ⟨⟨ni, by rw [← HRR.out, RE.out] <;> rfl, fun h => absurd (by rw [← HRR.out, RE.out] at h; exact h) HN0.out⟩, HBWR.out.trans (K3.out.mono HBWR.out.size)⟩
    · have d1 : decide (i < np) = false := decide_eq_false hlt
      have RE : Hid (R = (ni, 0)) := hid_of (by rw [← hm.out, List.drop_eq_nil_of_le (by have := HNP.out; omega), chkTs])
      clear hlt
      go_wp2
      go_ret2
      exact ⟨⟨ni, by rw [← HRR.out, RE.out] <;> rfl, fun _ => by rw [← HRR.out, RE.out]⟩, HBWR.out⟩
set_option maxRecDepth 100000 in
set_option maxHeartbeats 3200000 in
theorem rcheck_any (t : Lat) (k lo hi : Int) (an : Option Addr) (nn cn : Nat) (ap : Option Addr) (np cp : Nat) (ar : Option Addr) (nr cr : Nat) (w : World) (H : LO w k lo hi an nn cn ap np cp ar nr cr t) : Calls Try.prog 11 #[.agg #[.int .i64 k, .int .i64 lo, .int .i64 hi, .slice an nn cn, .slice ap np cp, .slice ar nr cr]] w (ErP (chkL t) w) := by
  obtain ⟨r, hr⟩ : ∃ r, r = chkL t := ⟨_, rfl⟩
  rw [← hr]
  have HR := hid_of hr
  have HB := hid_of (bel_alloc w (.cells #[.int .i64 k, .int .i64 lo, .int .i64 hi, .slice an nn cn, .slice ap np cp, .slice ar nr cr] 26))
  have CALL := hid_of (rwalk_any t k lo hi an nn cn ap np cp ar nr cr 1 0 (w.alloc (.cells #[.int .i64 k, .int .i64 lo, .int .i64 hi, .slice an nn cn, .slice ap np cp, .slice ar nr cr] 26)) (H.at HB.out) (by omega) (by omega))
  obtain ⟨p0, p1, p2, p3, p4, p5⟩ := box6 k lo hi an nn cn ap np cp ar nr cr (Below.refl _ (w.alloc (.cells #[.int .i64 k, .int .i64 lo, .int .i64 hi, .slice an nn cn, .slice ap np cp, .slice ar nr cr] 26)))
  clear hr H
  go_enter Try.func11, Try.ntmps11
  go_wp2_with (go_at_call 28; go_loud (refine (CALL.out).mono ?_; rintro e w3 ⟨⟨m, rfl, hm2⟩, h4⟩; have K3 := hid_of h4; clear hm2 h4))
  go_ret
  exact ⟨ret_i (by rw [HR.out]; rfl), HB.out.trans (K3.out.mono HB.out.size)⟩
end Go.Proofs.Ytgbadiajdhehpaa

/- The reference's Depth. Bounds on sizes alone. -/
namespace Go.Proofs.Ytgbadiajdhehpaa
open Go.RowKit

set_option maxRecDepth 100000 in
set_option maxHeartbeats 3200000 in
theorem rdepth_any : ∀ (t : Lat) (k lo hi : Int) (an : Option Addr) (nn cn : Nat) (ap : Option Addr) (np cp : Nat) (ar : Option Addr) (nr cr : Nat) (w : World), LO w k lo hi an nn cn ap np cp ar nr cr t → depthL t ≤ 1000 → Calls Try.prog 21 #[.agg #[.int .i64 k, .int .i64 lo, .int .i64 hi, .slice an nn cn, .slice ap np cp, .slice ar nr cr]] w (DepP t w) := by
  refine lat_ind ?_
  intro k' lo' hi' ns' ps' rs' ih k lo hi an nn cn ap np cp ar nr cr w H hD
  rw [depthL_eq] at hD
  have hl := H.p.len
  have HN : Hid (np = ps'.length) := hid_of hl.1
  have hn : np ≤ 9223372036854775807 := by omega
  have HP := hid_of H.p
  have HD := hid_of hD
  have IH := hid_of ih
  simp only [Lat.ps] at HP HD
  have HE : Hid (depthL ⟨k', lo', hi', ns', ps', rs'⟩ = depthsL ps' + 1) := hid_of (depthL_eq _)
  generalize (Lat.mk k' lo' hi' ns' ps' rs') = T at HE
  clear hl H hD ih
  have HBW := hid_of (bel_alloc w (.cells #[.int .i64 k, .int .i64 lo, .int .i64 hi, .slice an nn cn, .slice ap np cp, .slice ar nr cr] 26))
  have HX : Hid (∀ wz, Below (w.alloc (.cells #[.int .i64 k, .int .i64 lo, .int .i64 hi, .slice an nn cn, .slice ap np cp, .slice ar nr cr] 26)).heap.size (w.alloc (.cells #[.int .i64 k, .int .i64 lo, .int .i64 hi, .slice an nn cn, .slice ap np cp, .slice ar nr cr] 26)) wz → _) := hid_of (fun wz hz => box6 k lo hi an nn cn ap np cp ar nr cr hz)
  obtain ⟨WW, hWW⟩ : ∃ WW, WW = (w.alloc (.cells #[.int .i64 k, .int .i64 lo, .int .i64 hi, .slice an nn cn, .slice ap np cp, .slice ar nr cr] 26)) := ⟨_, rfl⟩
  have K0 : Hid (Below WW.heap.size WW (w.alloc (.cells #[.int .i64 k, .int .i64 lo, .int .i64 hi, .slice an nn cn, .slice ap np cp, .slice ar nr cr] 26))) := hid_of (by rw [← hWW]; exact Below.refl _ _)
  rw [← hWW] at HX HBW
  clear hWW
  go_enter Try.func21, Try.ntmps21
  go_wp2
  go_loopw [3, 4] (fun mv iv wr => ∃ i m : Nat, iv = .int .i64 i ∧ i ≤ np ∧ mv = .int .i64 m ∧ Hid (m = depthsL (ps'.take i)) ∧ Hid (Below WW.heap.size WW wr)) (fun _ iv _ => np - (intOf iv).toNat)
  case atStart => exact ⟨0, 0, rfl, Nat.zero_le _, rfl, hid_of rfl, K0⟩
  case round =>
    obtain ⟨i, m, rfl, hin, rfl, HM, hbb⟩ := hrel
    obtain ⟨p0, p1, p2, p3, p4, p5⟩ := HX.out wr hbb.out
    have hb : Hid (Below w.heap.size w wr) := hid_of (HBW.out.trans (hbb.out.mono HBW.out.size))
    by_cases hlt : i < np
    · have d1 : decide (i < np) = true := decide_eq_true hlt
      have hlt' : (i : Int) < (np : Int) := by omega
      have HLT := hid_of hlt
      obtain ⟨u, hu⟩ : ∃ u, ps'[i]? = some u := ⟨_, List.getElem?_eq_getElem (by have := HN.out; omega)⟩
      obtain ⟨g, o, kA, loA, hiA, anA, nnA, cnA, apA, npA, cpA, arA, nrA, crA, rfl, LU, hc⟩ := HP.out.get hu
      obtain ⟨c0, c1, c2, c3, c4, c5⟩ := hc wr hb.out
      have hdu := depthsL_get _ _ _ hu
      obtain ⟨q, hq⟩ : ∃ q, q = depthL u := ⟨_, rfl⟩
      have hm : m ≤ 1000 := by
        rw [HM.out]
        have := depthsL_take ps' i
        have := HD.out
        omega
      have hqm : q ≤ 1000 := by have := HD.out; omega
      have CALL := hid_of (IH.out u (List.mem_of_getElem? hu) kA loA hiA anA nnA cnA apA npA cpA arA nrA crA)
      have HS : Hid (depthsL (ps'.take (i + 1)) = max m q) := hid_of (by rw [take_next hu, depthsL_snoc, HM.out, hq])
      have HQ := hid_of hq
      have LV := hid_of LU
      clear hlt hc hu hdu hq LU
      go_wp2_with (go_at_call 21; ((with_reducible refine (CALL.out _ (LV.out.at hb.out) (Nat.le_trans (Nat.le_of_eq HQ.out.symm) hqm)).mono ?_); (rintro e w2 ⟨rfl, h2⟩)); (rw [← HQ.out]); (have H2 := hid_of h2); clear h2)
      go_roundw
      case rel => exact ⟨i + 1, max m q, by go_num, HLT.out, by go_num, hid_of HS.out.symm, hid_of (hbb.out.trans (H2.out.mono hbb.out.size))⟩
      case measure => have := HLT.out; simp [intOf]; omega
    · have d1 : decide (i < np) = false := decide_eq_false hlt
      have HI : Hid (i = np) := hid_of (by omega)
      have hm : m ≤ 1000 := by
        rw [HM.out]
        have := depthsL_take ps' i
        have := HD.out
        omega
      go_wp2
      go_ret
      refine ⟨?_, hb.out⟩
      rw [HE.out]
      have h1 := HM.out
      rw [HI.out, HN.out, List.take_length] at h1
      rw [h1]
      go_num
end Go.Proofs.Ytgbadiajdhehpaa

/- Descriptions that came in, opened. What a row may take is asked of the form's own reach. -/
namespace Go.Proofs.Ytgbadiajdhehpaa
open Go.RowKit Go.ChangeShapes Go.WideShapes

theorem wf_r64 {n : Int} (h : (Lit.int .i64 n).wf = true) : R64 n := by
  have h1 : IntKind.i64.min = -9223372036854775808 := by rfl
  have h2 : IntKind.i64.max = 9223372036854775807 := by rfl
  have : (decide (IntKind.i64.min ≤ n) && decide (n ≤ IntKind.i64.max)) = true := h
  rw [h1, h2] at this
  simpa using this
section
variable {H : Type} {enc : TypeId × Value → H} {P : Program} {w : World} {base : Nat} {spare : TypeId → Bool} {held : Bool}
/-- Every weight is within the form's reach. -/
def Fits (P : Program) (t : TypeId) (d : DataW H) : Prop := ∀ n ∈ d.weights P t, n ≤ reachBytes
theorem fits_each : ∀ {ts : List TypeId} {ds : List (DataW H)}, (∀ n ∈ DataW.weightsEach P ts ds, n ≤ reachBytes) → ∀ (i : Nat) (t : TypeId) (d : DataW H), ts[i]? = some t → ds[i]? = some d → Fits P t d :=
  fun h _ _ _ ht hd n hn => h n (DataW.weights_mem_each ht hd n hn)
theorem fits_all : ∀ {e : TypeId} {ds : List (DataW H)}, (∀ n ∈ DataW.weightsAll P e ds, n ≤ reachBytes) → ∀ d ∈ ds, Fits P e d
  | _, [], _, d, hd => by cases hd
  | e, x :: r, h, d, hd => by
    simp only [DataW.weightsAll, List.mem_append] at h
    rcases List.mem_cons.1 hd with rfl | hd
    · exact fun n hn => h n (.inl hn)
    · exact fits_all (fun n hn => h n (.inr hn)) d hd
end
theorem Try.cellsLat : Try.prog.cellsOf 26 = 6 := by kernel_rfl
theorem Try.cellsRule : Try.prog.cellsOf 46 = 2 := by kernel_rfl
theorem Try.cellsStrs : Try.prog.cellsOf 22 = 1 := by kernel_rfl
theorem Try.cellsLats : Try.prog.cellsOf 23 = 1 := by kernel_rfl
theorem Try.cellsRules : Try.prog.cellsOf 24 = 1 := by kernel_rfl
theorem Try.cellsStr : Try.prog.cellsOf 9 = 1 := by kernel_rfl
theorem Try.cellsInt : Try.prog.cellsOf 3 = 1 := by kernel_rfl
theorem Try.cellsI64 : Try.prog.cellsOf 2 = 1 := by kernel_rfl
theorem Try.bytesStr : Try.prog.bytesOf 9 = 16 := by kernel_rfl
theorem plain_add (a o j : Nat) : (⟨a, o, none⟩ : Addr).add j = ⟨a, o + j, none⟩ := by unfold Addr.add; split <;> simp_all
/-- A slice that came in: nil, or a row of elements, each read with less fuel. -/
theorem open_row {H : Type} {enc : TypeId × Value → H} {w : World} {fuel : Nat} {S e : TypeId} {v : Value} {y : DataW H × List MemPlace} (ht : Try.prog.underlying S = some (.slice e)) (h : DataW.trod enc Try.prog w 0 (fun _ => true) true fuel S [v] = some y) :
    (v = .slice none 0 0 ∧ y.1 = .nil) ∨ ∃ (ad : Addr) (len cap n : Nat) (elems spare : List (DataW H)), v = .slice (some ad) len cap ∧ fuel = n + 1 ∧ y.1 = .slice elems spare ∧ elems.length = len ∧ elems.length + spare.length = cap ∧ len ≤ cap ∧ cap ≤ maxLen ∧
      ∀ i, i < len → ∃ cs' z, w.cells? 0 (ad.add (i * Try.prog.cellsOf e)) (Try.prog.cellsOf e) = some cs' ∧ DataW.trod enc Try.prog w 0 (fun _ => true) true n e cs' = some z ∧ elems[i]? = some z.1 := by
  rcases DataW.trod_slice ht h with ⟨e1, e2⟩ | ⟨a, len, cap, elems, rest, n, hf, e1, e2, _, hl, hm, hlen, hel, hsp, _⟩
  · simp only [List.cons.injEq, and_true] at e1
    exact .inl ⟨e1, by rw [e2]⟩
  · simp only [List.cons.injEq, and_true] at e1
    refine .inr ⟨a, len, cap, n, elems.map (·.1), rest.map (·.1), e1, hf, by rw [e2], by simp [hlen], by have := (hsp rfl).1; simp [hlen, this]; omega, hl, hm, fun i hi => ?_⟩
    have := hel i hi
    rw [List.getElem?_eq_getElem (by omega)] at this
    rw [Option.bind_eq_some_iff] at this
    obtain ⟨cs', h1, h2⟩ := this
    exact ⟨cs', elems[i]'(by omega), h1, h2, by rw [List.getElem?_map, List.getElem?_eq_getElem (by omega)]; rfl⟩
set_option maxRecDepth 100000 in
/-- A slice of strings. -/
theorem open_sl {H : Type} {enc : TypeId × Value → H} {w : World} {fuel : Nat} {v : Value} {x : DataW H × List MemPlace} (h : DataW.trod enc Try.prog w 0 (fun _ => true) true fuel 22 [v] = some x) :
    ∃ l : List Str, Rd w v (ss l) ∧ Ok l ∧ (Fits Try.prog 22 x.1 → l.length * 16 ≤ reachBytes) := by
  rcases open_row Try.underlying22 h with ⟨rfl, _⟩ | ⟨ad, len, cap, n, elems, sp, rfl, _, hd, hlen, hcap, hlc, hcm, hel⟩
  · exact ⟨[], ⟨none, 0, rfl, Nat.le_refl _, by omega, fun h => by simp [ss] at h⟩, (fun y hy => by cases hy), fun _ => by simp⟩
  unfold maxLen at hcm
  have hex : ∀ i, i < len → ∃ s : ByteArray, w.cell? (ad.add i) = some (.string s) ∧ s.size ≤ maxLen := by
    intro i hi
    obtain ⟨cs', z, h1, h2, _⟩ := hel i hi
    rw [Try.cellsStr, Nat.mul_one] at h1
    obtain ⟨s, e, _, hs⟩ := DataW.trod_string Try.underlying9 h2
    subst e
    obtain ⟨_, _, hc⟩ := World.cells?_some h1
    refine ⟨s, ?_, hs⟩
    have := hc 0 (by omega)
    simpa [Addr.add] using this
  have hfit : Fits Try.prog 22 x.1 → len * 16 ≤ reachBytes := fun hf => by
    rw [hd] at hf
    have := hf ((elems.length + sp.length) * Try.prog.bytesOf 9) (by simp [DataW.weights, Try.underlying22])
    rw [Try.bytesStr] at this
    omega
  haveI : Inhabited ByteArray := ⟨⟨#[]⟩⟩
  obtain ⟨f, hf⟩ := Go.Deep.choose_lt hex
  have hget : ∀ (i : Nat) (q : Nat), (List.range len)[i]? = some q → i < len ∧ q = i := by
    intro i q hr
    obtain ⟨h1, h2⟩ := List.getElem?_eq_some_iff.1 hr
    simp at h1 h2
    exact ⟨h1, h2.symm⟩
  refine ⟨(List.range len).map fun i => (f i).data.toList, ?_, fun y hy => ?_, fun h => by simpa using hfit h⟩
  · refine ⟨some ad, cap, by rw [ss_length]; simp, by rw [ss_length]; simpa using hlc, by omega, fun h0 => ?_⟩
    rw [ss_length, List.length_map, List.length_range] at h0
    have h6 := (hf 0 h0).1
    rw [show ad.add 0 = ad by rfl] at h6
    have hx := spot_none h6
    refine ⟨ad.block, ad.off, by rw [← hx], World.block_lt_of_cell? w _ h6, fun j u hu => ?_⟩
    simp only [ss, List.map_map, List.getElem?_map] at hu
    obtain ⟨q, hq, rfl⟩ := Option.map_eq_some_iff.1 hu
    obtain ⟨h1, rfl⟩ := hget j q hq
    have h7 := (hf q h1).1
    rw [hx, Addr.add_mid] at h7
    rw [h7]
    rfl
  · obtain ⟨q, hq, rfl⟩ := List.mem_map.1 hy
    have := (hf q (by simpa using hq)).2
    unfold maxLen at this
    have e : (f q).data.toList.length = (f q).size := Array.length_toList
    omega
set_option maxRecDepth 100000 in
theorem rule_fields : ∃ f0 f1 : Field, Try.prog.underlying 46 = some (.struct #[f0, f1]) ∧ f0.type = 22 ∧ f1.type = 9 ∧ f0.offset = 0 ∧ f1.offset = 1 :=
  ⟨_, _, Try.underlying46, rfl, rfl, rfl, rfl⟩
set_option maxRecDepth 100000 in
/-- A slice of rules. -/
theorem open_rl {H : Type} {enc : TypeId × Value → H} {w : World} {fuel : Nat} {v : Value} {x : DataW H × List MemPlace} (h : DataW.trod enc Try.prog w 0 (fun _ => true) true fuel 24 [v] = some x) (hfit : Fits Try.prog 24 x.1) :
    ∃ rs : List Gr, RuR w v rs ∧ OkR rs := by
  rcases open_row Try.underlying24 h with ⟨rfl, _⟩ | ⟨ad, len, cap, n, elems, sp, rfl, _, hd, hlen, hcap, hlc, hcm, hel⟩
  · exact ⟨[], rur_nil w, fun r hr => by cases hr⟩
  unfold maxLen at hcm
  have hfe : ∀ d ∈ elems, Fits Try.prog 46 d := by
    rw [hd] at hfit
    refine fits_all fun m hm => hfit m ?_
    simp only [DataW.weights, Try.underlying24, List.mem_cons, List.mem_append]
    exact .inr (.inl hm)
  have hex : ∀ i, i < len → ∃ q : Value × Gr, (w.cell? ((ad.add (i * 2)).add 0) = some q.1 ∧ w.cell? ((ad.add (i * 2)).add 1) = some (.string (ba q.2.2))) ∧ Rd w q.1 (ss q.2.1) ∧ Ok q.2.1 ∧ q.2.2.length ≤ 9223372036854775807 ∧ q.2.1.length ≤ 8796093021952 := by
    intro i hi
    obtain ⟨cs', z, h1, h2, h3⟩ := hel i hi
    rw [Try.cellsRule] at h1
    have hz := hfe z.1 (List.mem_of_getElem? h3)
    obtain ⟨f0, f1, hu, t0, t1, o0, o1⟩ := rule_fields
    obtain ⟨xs, m, _, hzz, hl, hlx, hf⟩ := DataW.trod_struct hu h2
    match xs, hlx with
    | [y0, y1], _ =>
      have g0 := hf 0 f0 rfl
      have g1 := hf 1 f1 rfl
      rw [t0, o0, Try.cellsStrs] at g0
      rw [t1, o1, Try.cellsStr] at g1
      rw [Try.cellsRule] at hl
      match cs', hl with
      | [v0, v1], _ =>
        simp only [List.drop_zero, List.drop_succ_cons, List.take_succ_cons, List.take_zero, List.getElem?_cons_zero, List.getElem?_cons_succ] at g0 g1
        obtain ⟨l, r1, r2, r3⟩ := open_sl g0
        obtain ⟨s, e, _, hs⟩ := DataW.trod_string Try.underlying9 g1
        simp only [List.cons.injEq, and_true] at e
        subst e
        obtain ⟨_, _, hc⟩ := World.cells?_some h1
        refine ⟨(v0, l, s.data.toList), ⟨by simpa using hc 0 (by omega), by simpa [ba_of] using hc 1 (by omega)⟩, r1, r2, ?_, ?_⟩
        · unfold maxLen at hs
          have e : s.data.toList.length = s.size := Array.length_toList
          show s.data.toList.length ≤ _
          omega
        · have hz0 : Fits Try.prog 22 y0.1 := by
            rw [hzz] at hz
            refine fits_each (ts := [22, 9]) (ds := [y0.1, y1.1]) (fun m hm => hz m ?_) 0 _ _ rfl rfl
            simp only [DataW.weights, hu, List.map_cons, List.map_nil, t0, t1]
            exact hm
          have := r3 hz0
          have hr : reachBytes = 140737488351232 := by rfl
          show l.length ≤ _
          omega
  by_cases h0 : len = 0
  · subst h0
    exact ⟨[], ⟨[], ⟨some ad, cap, rfl, hlc, by omega, fun h => by simp at h⟩, rfl, fun i t r ht => by simp at ht⟩, fun r hr => by cases hr⟩
  have hsp : ad.spot = none := by
    obtain ⟨y, hc, _⟩ := hex 0 (by omega)
    have := hc.1
    simpa [Addr.add] using World.cell?_spot (w := w) (a := (ad.add (0 * 2)).add 0) this
  obtain ⟨b, o, sp2⟩ := ad
  simp only at hsp
  subst hsp
  haveI : Inhabited (Value × Gr) := ⟨⟨.slice none 0 0, [], []⟩⟩
  obtain ⟨f, hf⟩ := Go.Deep.choose_lt hex
  have hget : ∀ (i : Nat) (q : Nat), (List.range len)[i]? = some q → i < len ∧ q = i := by
    intro i q hr
    obtain ⟨h1, h2⟩ := List.getElem?_eq_some_iff.1 hr
    simp at h1 h2
    exact ⟨h1, h2.symm⟩
  have c00 := (hf 0 (by omega)).1.1
  rw [plain_add, plain_add] at c00
  refine ⟨(List.range len).map fun i => (f i).2, ⟨(List.range len).map fun i => ((f i).1, .string (ba (f i).2.2)), ⟨_, _, by rw [List.length_map, List.length_range], by simpa using hlc, by omega, fun _ => ⟨b, o, rfl, World.block_lt_of_cell? w _ c00, fun i t ht => ?_⟩⟩, by simp, fun i t r ht hr => ?_⟩, fun r hr => ?_⟩
  · rw [List.getElem?_map] at ht
    obtain ⟨q, hq, rfl⟩ := Option.map_eq_some_iff.1 ht
    obtain ⟨h1, rfl⟩ := hget i q hq
    obtain ⟨⟨a1, a2⟩, _⟩ := hf q h1
    rw [plain_add, plain_add] at a1 a2
    exact ⟨a1, a2⟩
  · rw [List.getElem?_map] at ht hr
    obtain ⟨q, hq, rfl⟩ := Option.map_eq_some_iff.1 ht
    obtain ⟨q', hq', rfl⟩ := Option.map_eq_some_iff.1 hr
    obtain ⟨h1, rfl⟩ := hget i q hq
    obtain ⟨_, rfl⟩ := hget _ q' hq'
    exact ⟨(hf _ h1).2.1, rfl⟩
  · obtain ⟨q, hq, rfl⟩ := List.mem_map.1 hr
    exact (hf q (by simpa using hq)).2.2
set_option maxRecDepth 100000 in
theorem lat_fields : ∃ f0 f1 f2 f3 f4 f5 : Field, Try.prog.underlying 26 = some (.struct #[f0, f1, f2, f3, f4, f5]) ∧ f0.type = 3 ∧ f1.type = 2 ∧ f2.type = 2 ∧ f3.type = 22 ∧ f4.type = 23 ∧ f5.type = 24 ∧ f0.offset = 0 ∧ f1.offset = 1 ∧ f2.offset = 2 ∧ f3.offset = 3 ∧ f4.offset = 4 ∧ f5.offset = 5 :=
  ⟨_, _, _, _, _, _, Try.underlying26, rfl, rfl, rfl, rfl, rfl, rfl, rfl, rfl, rfl, rfl, rfl, rfl⟩
set_option maxRecDepth 100000 in
/-- A description. -/
theorem open_lat {H : Type} {enc : TypeId × Value → H} {w : World} : ∀ (F fuel : Nat), fuel < F → ∀ (cs : List Value) (x : DataW H × List MemPlace), DataW.trod enc Try.prog w 0 (fun _ => true) true fuel 26 cs = some x → Fits Try.prog 26 x.1 → ∃ (y : LX) (t : Lat), cs = y.q.cs ∧ LD w y t := by
  intro F
  induction F with
  | zero => intro fuel h; omega
  | succ F ih =>
    intro fuel hF cs x h hfit
    obtain ⟨f0, f1, f2, f3, f4, f5, hu, t0, t1, t2, t3, t4, t5, o0, o1, o2, o3, o4, o5⟩ := lat_fields
    obtain ⟨xs, m, hm, hxx, hl, hlx, hf⟩ := DataW.trod_struct hu h
    match xs, hlx with
    | [y0, y1, y2, y3, y4, y5], _ =>
      have g0 := hf 0 f0 rfl
      have g1 := hf 1 f1 rfl
      have g2 := hf 2 f2 rfl
      have g3 := hf 3 f3 rfl
      have g4 := hf 4 f4 rfl
      have g5 := hf 5 f5 rfl
      rw [Try.cellsLat] at hl
      match cs, hl with
      | [v0, v1, v2, v3, v4, v5], _ =>
        rw [t0, o0, Try.cellsInt] at g0
        rw [t1, o1, Try.cellsI64] at g1
        rw [t2, o2, Try.cellsI64] at g2
        rw [t3, o3, Try.cellsStrs] at g3
        rw [t4, o4, Try.cellsLats] at g4
        rw [t5, o5, Try.cellsRules] at g5
        simp only [List.drop_zero, List.drop_succ_cons, List.take_succ_cons, List.take_zero, List.getElem?_cons_zero, List.getElem?_cons_succ] at g0 g1 g2 g3 g4 g5
        obtain ⟨k0, e0, _, q0⟩ := DataW.trod_int Try.underlying3 g0
        obtain ⟨k1, e1, _, q1⟩ := DataW.trod_int Try.underlying2 g1
        obtain ⟨k2, e2, _, q2⟩ := DataW.trod_int Try.underlying2 g2
        simp only [List.cons.injEq, and_true] at e0 e1 e2
        subst e0 e1 e2
        have hz : ∀ (i : Nat) (t : TypeId) (d : DataW H), [3, 2, 2, 22, 23, 24][i]? = some t → [y0.1, y1.1, y2.1, y3.1, y4.1, y5.1][i]? = some d → Fits Try.prog t d := by
          refine fits_each (fun n hn => hfit n ?_)
          rw [hxx]
          simp only [DataW.weights, hu, List.map_cons, List.map_nil, t0, t1, t2, t3, t4, t5]
          exact hn
        obtain ⟨ns, n1, n2, _⟩ := open_sl g3
        obtain ⟨rs, r1, r2⟩ := open_rl g5 (hz 5 _ _ rfl rfl)
        have hp : ∃ ts, LDs w v4 ts := by
          rcases open_row Try.underlying23 g4 with ⟨rfl, _⟩ | ⟨ad, len, cap, n, elems, sp, rfl, hfu, hd, hlen, hcap, hlc, hcm, hel⟩
          · exact ⟨[], lds_nil w⟩
          unfold maxLen at hcm
          have hfe : ∀ d ∈ elems, Fits Try.prog 26 d := by
            have hz4 := hz 4 _ _ rfl rfl
            rw [hd] at hz4
            refine fits_all fun m hm => hz4 m ?_
            simp only [DataW.weights, Try.underlying23, List.mem_cons, List.mem_append]
            exact .inr (.inl hm)
          have hex : ∀ i, i < len → ∃ q : LX × Lat, (∀ j, j < 6 → w.cell? ((ad.add (i * 6)).add j) = q.1.q.cs[j]?) ∧ LD w q.1 q.2 := by
            intro i hi
            obtain ⟨cs', z, h1, h2, h3⟩ := hel i hi
            rw [Try.cellsLat] at h1
            obtain ⟨y, t, e, hy⟩ := ih n (by omega) cs' z h2 (hfe z.1 (List.mem_of_getElem? h3))
            obtain ⟨_, _, hc⟩ := World.cells?_some h1
            exact ⟨(y, t), fun j hj => by rw [hc j hj, e], hy⟩
          by_cases h0 : len = 0
          · subst h0
            exact ⟨[], [], ⟨some ad, cap, rfl, hlc, by omega, fun h => by simp at h⟩, rfl, fun i y u hy => by simp at hy⟩
          have hsp : ad.spot = none := by
            obtain ⟨y, hc, _⟩ := hex 0 (by omega)
            have := hc 0 (by omega)
            simpa [Addr.add] using World.cell?_spot (w := w) (a := (ad.add (0 * 6)).add 0) this
          obtain ⟨b, o, sp2⟩ := ad
          simp only at hsp
          subst hsp
          haveI : Inhabited (LX × Lat) := ⟨⟨⟨0, 0, 0, .slice none 0 0, .slice none 0 0, .slice none 0 0⟩, ⟨0, 0, 0, [], [], []⟩⟩⟩
          obtain ⟨f, hf⟩ := Go.Deep.choose_lt hex
          have hget : ∀ (i : Nat) (q : Nat), (List.range len)[i]? = some q → i < len ∧ q = i := by
            intro i q hr
            obtain ⟨h1, h2⟩ := List.getElem?_eq_some_iff.1 hr
            simp at h1 h2
            exact ⟨h1, h2.symm⟩
          have hcell : ∀ i j, i < len → j < 6 → w.cell? ⟨b, o + i * 6 + j, none⟩ = (f i).1.q.cs[j]? := by
            intro i j hi hj
            have := (hf i hi).1 j hj
            rwa [plain_add, plain_add] at this
          refine ⟨(List.range len).map fun i => (f i).2, (List.range len).map fun i => (f i).1, ⟨some ⟨b, o, none⟩, cap, by simp, by simpa using hlc, by omega, fun _ => ⟨b, o, rfl, World.block_lt_of_cell? w _ (hcell 0 0 (by omega) (by omega)), fun i t ht => ?_⟩⟩, by simp, fun i y u hy hu => ?_⟩
          · rw [List.getElem?_map, List.getElem?_map] at ht
            obtain ⟨q, hq, rfl⟩ := Option.map_eq_some_iff.1 ht
            obtain ⟨q', hq', rfl⟩ := Option.map_eq_some_iff.1 hq
            obtain ⟨h1, rfl⟩ := hget i q' hq'
            exact ⟨hcell q' 0 h1 (by omega), hcell q' 1 h1 (by omega), hcell q' 2 h1 (by omega), hcell q' 3 h1 (by omega), hcell q' 4 h1 (by omega), hcell q' 5 h1 (by omega)⟩
          · rw [List.getElem?_map] at hy hu
            obtain ⟨q, hq, rfl⟩ := Option.map_eq_some_iff.1 hy
            obtain ⟨q', hq', rfl⟩ := Option.map_eq_some_iff.1 hu
            obtain ⟨h1, rfl⟩ := hget i q hq
            obtain ⟨_, rfl⟩ := hget _ q' hq'
            exact (hf _ h1).2
        obtain ⟨ts, ps, p1, p2, p3⟩ := hp
        exact ⟨⟨k0, k1, k2, v3, v4, v5⟩, ⟨k0, k1, k2, ns, ts, rs⟩, rfl, .mk ps rfl rfl rfl (wf_r64 q0) (wf_r64 q1) (wf_r64 q2) n1 n2 r1 r2 p1 p2 p3⟩
set_option maxRecDepth 100000 in
/-- A description by value. -/
theorem open_latv {H : Type} {enc : TypeId × Value → H} {w : World} {base : Nat} {v : Value} {d : DataW H} {p : List MemPlace} (hv : Value.okWide Try.prog w .any base 26 v) (h : DataW.Trod enc Try.prog w 0 (fun _ => true) true 26 v d p) (hfit : Fits Try.prog 26 d) :
    ∃ (k lo hi : Int) (an : Option Addr) (nn cn : Nat) (ap : Option Addr) (np cp : Nat) (ar : Option Addr) (nr cr : Nat) (t : Lat), v = .agg #[.int .i64 k, .int .i64 lo, .int .i64 hi, .slice an nn cn, .slice ap np cp, .slice ar nr cr] ∧ LO w k lo hi an nn cn ap np cp ar nr cr t := by
  obtain ⟨cs, rfl, _⟩ := okWide_struct Try.underlying26 hv
  obtain ⟨fuel, hf⟩ := h
  obtain ⟨y, t, e, r⟩ := open_lat _ fuel (Nat.lt_succ_self _) _ _ hf hfit
  obtain ⟨k, lo, hi, an, nn, cn, ap, np, cp, ar, nr, cr, rfl, ho⟩ := r.open
  have e3 : cs = #[.int .i64 k, .int .i64 lo, .int .i64 hi, .slice an nn cn, .slice ap np cp, .slice ar nr cr] := by rw [← Array.toArray_toList (xs := cs), show cs.toList = _ from e]; rfl
  subst e3
  exact ⟨k, lo, hi, an, nn, cn, ap, np, cp, ar, nr, cr, t, rfl, ho⟩
end Go.Proofs.Ytgbadiajdhehpaa

/- The law on kinds. Bounds on sizes alone. -/
namespace Go.Proofs.Ytgbadiajdhehpaa
open Go.RowKit

theorem redrew {w0 w : World} (h : Below w0.heap.size w0 w) : Below w0.heap.size w0 w.drew := ⟨h.os, h.tape, h.output, h.size, h.block⟩
set_option maxRecDepth 100000 in
set_option maxHeartbeats 12800000 in
theorem kinds_law (t : Lat) (k lo hi : Int) (an : Option Addr) (nn cn : Nat) (ap : Option Addr) (np cp : Nat) (ar : Option Addr) (nr cr : Nat) (w : World) (H1 : LO w k lo hi an nn cn ap np cp ar nr cr t) : Calls Try.prog 5 #[.agg #[.int .i64 k, .int .i64 lo, .int .i64 hi, .slice an nn cn, .slice ap np cp, .slice ar nr cr]] w (BoP true w) := by
  have HBB := hid_of (bel_alloc w (.cells #[.int .i64 k, .int .i64 lo, .int .i64 hi, .slice an nn cn, .slice ap np cp, .slice ar nr cr] 26))
  have HC := hid_of (fun (w' : World) (h : Below (w.alloc (.cells #[.int .i64 k, .int .i64 lo, .int .i64 hi, .slice an nn cn, .slice ap np cp, .slice ar nr cr] 26)).heap.size (w.alloc (.cells #[.int .i64 k, .int .i64 lo, .int .i64 hi, .slice an nn cn, .slice ap np cp, .slice ar nr cr] 26)) w') => box6 k lo hi an nn cn ap np cp ar nr cr h)
  have AW := hid_of (fun w => awake_any w)
  have RH := hid_of (fun (wz : World) (hz : Below (w.alloc (.cells #[.int .i64 k, .int .i64 lo, .int .i64 hi, .slice an nn cn, .slice ap np cp, .slice ar nr cr] 26)).heap.size (w.alloc (.cells #[.int .i64 k, .int .i64 lo, .int .i64 hi, .slice an nn cn, .slice ap np cp, .slice ar nr cr] 26)) wz) => rcheck_any t k lo hi an nn cn ap np cp ar nr cr wz (H1.at (HBB.out.trans (hz.mono HBB.out.size))))
  obtain ⟨r, hr⟩ : ∃ r, r = chkL t := ⟨_, rfl⟩
  rw [← hr] at RH
  obtain ⟨cs00, cs01, cs02, cs03, cs04, cs05⟩ := HC.out (w.alloc (.cells #[.int .i64 k, .int .i64 lo, .int .i64 hi, .slice an nn cn, .slice ap np cp, .slice ar nr cr] 26)) (Below.refl _ _)
  by_cases h0 : r = 0
  case neg =>
    have e0 : (r == 0) = false := beq_eq_false_iff_ne.2 h0
    have e0' : (r != 0) = true := bne_iff_ne.2 h0
    clear hr H1 h0
    go_enter Try.func5, Try.ntmps5
    go_wp2_with (first
      | (go_at_call 9; ((with_reducible refine (AW.out _).mono ?_); (rintro e w1 ⟨rfl, h1⟩); (have E1 := hid_of (h1)); (have cs1 := HC.out w1 E1.out); (obtain ⟨cs10, cs11, cs12, cs13, cs14, cs15⟩ := HC.out w1 E1.out); clear h1))
      | (go_at_call 11; ((with_reducible refine (RH.out w1 E1.out).mono ?_); (rintro e w2 ⟨rfl, h2⟩); (have E2 := hid_of (E1.out.trans (h2.mono E1.out.size))); (have cs2 := HC.out w2 E2.out); clear h2)))
    go_ret
    exact ⟨rfl, HBB.out.trans (E2.out.mono HBB.out.size)⟩
  subst h0
  have hok := okay_of t 1 0 hr.symm
  have hdp := chkT_depth t 1 0 hr.symm
  have C1 := hid_of (fun (wz : World) (hz : Below (w.alloc (.cells #[.int .i64 k, .int .i64 lo, .int .i64 hi, .slice an nn cn, .slice ap np cp, .slice ar nr cr] 26)).heap.size (w.alloc (.cells #[.int .i64 k, .int .i64 lo, .int .i64 hi, .slice an nn cn, .slice ap np cp, .slice ar nr cr] 26)) wz) => chain_any t k lo hi an nn cn ap np cp ar nr cr wz (H1.at (HBB.out.trans (hz.mono HBB.out.size))))
  have R1 := hid_of (fun (wz : World) (hz : Below (w.alloc (.cells #[.int .i64 k, .int .i64 lo, .int .i64 hi, .slice an nn cn, .slice ap np cp, .slice ar nr cr] 26)).heap.size (w.alloc (.cells #[.int .i64 k, .int .i64 lo, .int .i64 hi, .slice an nn cn, .slice ap np cp, .slice ar nr cr] 26)) wz) => rchain_any t k lo hi an nn cn ap np cp ar nr cr wz (H1.at (HBB.out.trans (hz.mono HBB.out.size))))
  have C2 := hid_of (fun (wz : World) (hz : Below (w.alloc (.cells #[.int .i64 k, .int .i64 lo, .int .i64 hi, .slice an nn cn, .slice ap np cp, .slice ar nr cr] 26)).heap.size (w.alloc (.cells #[.int .i64 k, .int .i64 lo, .int .i64 hi, .slice an nn cn, .slice ap np cp, .slice ar nr cr] 26)) wz) => finite_any t k lo hi an nn cn ap np cp ar nr cr wz (H1.at (HBB.out.trans (hz.mono HBB.out.size))))
  have R2 := hid_of (fun (wz : World) (hz : Below (w.alloc (.cells #[.int .i64 k, .int .i64 lo, .int .i64 hi, .slice an nn cn, .slice ap np cp, .slice ar nr cr] 26)).heap.size (w.alloc (.cells #[.int .i64 k, .int .i64 lo, .int .i64 hi, .slice an nn cn, .slice ap np cp, .slice ar nr cr] 26)) wz) => rfin_any t k lo hi an nn cn ap np cp ar nr cr wz (H1.at (HBB.out.trans (hz.mono HBB.out.size))))
  have C3 := hid_of (fun (wz : World) (hz : Below (w.alloc (.cells #[.int .i64 k, .int .i64 lo, .int .i64 hi, .slice an nn cn, .slice ap np cp, .slice ar nr cr] 26)).heap.size (w.alloc (.cells #[.int .i64 k, .int .i64 lo, .int .i64 hi, .slice an nn cn, .slice ap np cp, .slice ar nr cr] 26)) wz) => dist_any t k lo hi an nn cn ap np cp ar nr cr wz (H1.at (HBB.out.trans (hz.mono HBB.out.size))))
  have R3 := hid_of (fun (wz : World) (hz : Below (w.alloc (.cells #[.int .i64 k, .int .i64 lo, .int .i64 hi, .slice an nn cn, .slice ap np cp, .slice ar nr cr] 26)).heap.size (w.alloc (.cells #[.int .i64 k, .int .i64 lo, .int .i64 hi, .slice an nn cn, .slice ap np cp, .slice ar nr cr] 26)) wz) => rdist_any t k lo hi an nn cn ap np cp ar nr cr wz (H1.at (HBB.out.trans (hz.mono HBB.out.size))))
  obtain ⟨q4, hq4⟩ : ∃ q4, q4 = depthL t := ⟨_, rfl⟩
  have C4 : Hid (∀ (wz : World) (hz : Below (w.alloc (.cells #[.int .i64 k, .int .i64 lo, .int .i64 hi, .slice an nn cn, .slice ap np cp, .slice ar nr cr] 26)).heap.size (w.alloc (.cells #[.int .i64 k, .int .i64 lo, .int .i64 hi, .slice an nn cn, .slice ap np cp, .slice ar nr cr] 26)) wz), Calls Try.prog 20 #[.agg #[.int .i64 k, .int .i64 lo, .int .i64 hi, .slice an nn cn, .slice ap np cp, .slice ar nr cr]] wz fun e w' => e = .returned (.int .i64 (q4 : Nat)) ∧ Below wz.heap.size wz w') := hid_of (fun wz hz => by rw [hq4]; exact depth_any t k lo hi an nn cn ap np cp ar nr cr wz (H1.at (HBB.out.trans (hz.mono HBB.out.size))) (by omega))
  have R4 : Hid (∀ (wz : World) (hz : Below (w.alloc (.cells #[.int .i64 k, .int .i64 lo, .int .i64 hi, .slice an nn cn, .slice ap np cp, .slice ar nr cr] 26)).heap.size (w.alloc (.cells #[.int .i64 k, .int .i64 lo, .int .i64 hi, .slice an nn cn, .slice ap np cp, .slice ar nr cr] 26)) wz), Calls Try.prog 21 #[.agg #[.int .i64 k, .int .i64 lo, .int .i64 hi, .slice an nn cn, .slice ap np cp, .slice ar nr cr]] wz fun e w' => e = .returned (.int .i64 (q4 : Nat)) ∧ Below wz.heap.size wz w') := hid_of (fun wz hz => by rw [hq4]; exact rdepth_any t k lo hi an nn cn ap np cp ar nr cr wz (H1.at (HBB.out.trans (hz.mono HBB.out.size))) (by omega))
  have h44 : (q4 == q4) = true := beq_self_eq_true q4
  have h44i : ((q4 : Int) == (q4 : Int)) = true := beq_self_eq_true (q4 : Int)
  have hcd := chain_dist t hok
  rw [← fin_eq t hok] at R2
  obtain ⟨q1, hq1⟩ : ∃ q1, q1 = chainL t := ⟨_, rfl⟩
  obtain ⟨q2, hq2⟩ : ∃ q2, q2 = finL t := ⟨_, rfl⟩
  obtain ⟨q3, hq3⟩ : ∃ q3, q3 = distL t := ⟨_, rfl⟩
  rw [← hq1, ← hq3] at hcd
  rw [← hq1] at C1 R1
  rw [← hq2] at C2 R2
  rw [← hq3] at C3 R3
  clear hr H1 hok hdp hq1 hq2 hq3 hq4
  cases q1
  · clear hcd
    cases q2 <;> cases q3
    all_goals
      go_enter Try.func5, Try.ntmps5
      go_wp2_with (first
            | (go_at_call 9; ((with_reducible refine (AW.out _).mono ?_); (rintro e w1 ⟨rfl, h1⟩); (have E1 := hid_of (h1)); (have cs1 := HC.out w1 E1.out); (obtain ⟨cs10, cs11, cs12, cs13, cs14, cs15⟩ := HC.out w1 E1.out); clear h1))
            | (go_at_call 11; ((with_reducible refine (RH.out w1 E1.out).mono ?_); (rintro e w2 ⟨rfl, h2⟩); (have E2 := hid_of (E1.out.trans (h2.mono E1.out.size))); (have cs2 := HC.out w2 E2.out); clear h2)))
      refine wp_region_held_drew (S := (fun wz => wz.cell? ⟨w.heap.size, 0, none⟩ = some (.int .i64 k) ∧ wz.cell? ⟨w.heap.size, 1, none⟩ = some (.int .i64 lo) ∧ wz.cell? ⟨w.heap.size, 2, none⟩ = some (.int .i64 hi) ∧ wz.cell? ⟨w.heap.size, 3, none⟩ = some (.slice an nn cn) ∧ wz.cell? ⟨w.heap.size, 4, none⟩ = some (.slice ap np cp) ∧ wz.cell? ⟨w.heap.size, 5, none⟩ = some (.slice ar nr cr))) (by kernel_rfl) ?hs (fun hHeld => ?_)
      case hs => exact cs2
      refine wpAnyH_take (i := 0) (oi := ⟨some 8, _, _, _, _, _⟩) (v := ?_) rfl (by kernel_rfl) (by kernel_rfl) (by kernel_rfl) (fun _ _ _ h => h) (Or.inl ⟨by rfl, ?hy⟩) (by assumption) ?_
      case hy => ((intro w hSw); (try dsimp only at hSw); go_simp <;> with_reducible rfl)
      (try simp only [Act.put, List.setIfInBounds_toArray, List.set_cons_zero, List.set_cons_succ])
      refine wpAnyH_take (i := 2) (oi := ⟨some 10, _, _, _, _, _⟩) (v := ?_) rfl (by kernel_rfl) (by kernel_rfl) (by kernel_rfl) (fun _ _ _ h => h) (Or.inl ⟨by rfl, ?hy⟩) (by assumption) ?_
      case hy => ((intro w hSw); (try dsimp only at hSw); go_simp <;> with_reducible rfl)
      (try simp only [Act.put, List.setIfInBounds_toArray, List.set_cons_zero, List.set_cons_succ])
      refine wpAnyH_ready (rs := [1]) (by kernel_rfl) (by simp) ?_
      refine AllReadyH.cons (o := _) rfl (fun K hK => ?_) AllReadyH.nil
      go_simp
      (go_at_call 14; ((with_reducible refine (C1.out w2.drew (redrew E2.out)).mono ?_); (rintro e w3 ⟨rfl, h3⟩); (have E3 := hid_of (E2.out.trans ((undrew h3).mono E2.out.size))); (have cs3 := HC.out w3 E3.out); clear h3))
      (try go_wp2_with fail)
      refine hK.out _ _ ?hs (fun hHeld => ?_)
      case hs => exact cs3
      clear hK K
      (try simp only [Act.put, List.setIfInBounds_toArray, List.set_cons_zero, List.set_cons_succ])
      refine wpAnyH_ready (rs := [3]) (by kernel_rfl) (by simp) ?_
      refine AllReadyH.cons (o := _) rfl (fun K hK => ?_) AllReadyH.nil
      go_simp
      (go_at_call 15; ((with_reducible refine (R1.out w3 E3.out).mono ?_); (rintro e w4 ⟨rfl, h4⟩); (have E4 := hid_of (E3.out.trans (h4.mono E3.out.size))); (have cs4 := HC.out w4 E4.out); clear h4))
      (try go_wp2_with fail)
      refine hK.out _ _ ?hs (fun hHeld => ?_)
      case hs => exact cs4
      clear hK K
      (try simp only [Act.put, List.setIfInBounds_toArray, List.set_cons_zero, List.set_cons_succ])
      refine wpAnyH_take (i := 4) (oi := ⟨some 12, _, _, _, _, _⟩) (v := ?_) rfl (by kernel_rfl) (by kernel_rfl) (by kernel_rfl) (fun _ _ _ h => h) (Or.inl ⟨by rfl, ?hy⟩) (by assumption) ?_
      case hy => ((intro w hSw); (try dsimp only at hSw); go_simp <;> with_reducible rfl)
      (try simp only [Act.put, List.setIfInBounds_toArray, List.set_cons_zero, List.set_cons_succ])
      refine wpAnyH_take (i := 5) (oi := ⟨some 13, _, _, _, _, _⟩) (v := ?_) rfl (by kernel_rfl) (by kernel_rfl) (by kernel_rfl) (fun _ _ _ h => h) (Or.inl ⟨by rfl, ?hy⟩) (by assumption) ?_
      case hy => ((intro w hSw); (try dsimp only at hSw); go_simp <;> with_reducible rfl)
      (try simp only [Act.put, List.setIfInBounds_toArray, List.set_cons_zero, List.set_cons_succ])
      refine wpAnyH_take (i := 6) (oi := ⟨some 14, _, _, _, _, _⟩) (v := ?_) rfl (by kernel_rfl) (by kernel_rfl) (by kernel_rfl) (fun _ _ _ h => h) (Or.inl ⟨by rfl, ?hy⟩) (by assumption) ?_
      case hy => ((intro w hSw); (try dsimp only at hSw); go_simp <;> with_reducible rfl)
      (try simp only [Act.put, List.setIfInBounds_toArray, List.set_cons_zero, List.set_cons_succ])
      refine wpAnyH_take (i := 8) (oi := ⟨some 16, _, _, _, _, _⟩) (v := ?_) rfl (by kernel_rfl) (by kernel_rfl) (by kernel_rfl) (fun _ _ _ h => h) (Or.inl ⟨by rfl, ?hy⟩) (by assumption) ?_
      case hy => ((intro w hSw); (try dsimp only at hSw); go_simp <;> with_reducible rfl)
      (try simp only [Act.put, List.setIfInBounds_toArray, List.set_cons_zero, List.set_cons_succ])
      refine wpAnyH_ready (rs := [7]) (by kernel_rfl) (by simp) ?_
      refine AllReadyH.cons (o := _) rfl (fun K hK => ?_) AllReadyH.nil
      go_simp
      (go_at_call 16; ((with_reducible refine (C2.out w4 E4.out).mono ?_); (rintro e w5 ⟨rfl, h5⟩); (have E5 := hid_of (E4.out.trans (h5.mono E4.out.size))); (have cs5 := HC.out w5 E5.out); clear h5))
      (try go_wp2_with fail)
      refine hK.out _ _ ?hs (fun hHeld => ?_)
      case hs => exact cs5
      clear hK K
      (try simp only [Act.put, List.setIfInBounds_toArray, List.set_cons_zero, List.set_cons_succ])
      refine wpAnyH_ready (rs := [9]) (by kernel_rfl) (by simp) ?_
      refine AllReadyH.cons (o := _) rfl (fun K hK => ?_) AllReadyH.nil
      go_simp
      (go_at_call 17; ((with_reducible refine (R2.out w5 E5.out).mono ?_); (rintro e w6 ⟨rfl, h6⟩); (have E6 := hid_of (E5.out.trans (h6.mono E5.out.size))); (have cs6 := HC.out w6 E6.out); clear h6))
      (try go_wp2_with fail)
      refine hK.out _ _ ?hs (fun hHeld => ?_)
      case hs => exact cs6
      clear hK K
      (try simp only [Act.put, List.setIfInBounds_toArray, List.set_cons_zero, List.set_cons_succ])
      refine wpAnyH_take (i := 10) (oi := ⟨some 18, _, _, _, _, _⟩) (v := ?_) rfl (by kernel_rfl) (by kernel_rfl) (by kernel_rfl) (fun _ _ _ h => h) (Or.inl ⟨by rfl, ?hy⟩) (by assumption) ?_
      case hy => ((intro w hSw); (try dsimp only at hSw); go_simp <;> with_reducible rfl)
      (try simp only [Act.put, List.setIfInBounds_toArray, List.set_cons_zero, List.set_cons_succ])
      refine wpAnyH_take (i := 11) (oi := ⟨some 19, _, _, _, _, _⟩) (v := ?_) rfl (by kernel_rfl) (by kernel_rfl) (by kernel_rfl) (fun _ _ _ h => h) (Or.inl ⟨by rfl, ?hy⟩) (by assumption) ?_
      case hy => ((intro w hSw); (try dsimp only at hSw); go_simp <;> with_reducible rfl)
      (try simp only [Act.put, List.setIfInBounds_toArray, List.set_cons_zero, List.set_cons_succ])
      refine wpAnyH_take (i := 12) (oi := ⟨some 20, _, _, _, _, _⟩) (v := ?_) rfl (by kernel_rfl) (by kernel_rfl) (by kernel_rfl) (fun _ _ _ h => h) (Or.inl ⟨by rfl, ?hy⟩) (by assumption) ?_
      case hy => ((intro w hSw); (try dsimp only at hSw); go_simp <;> with_reducible rfl)
      (try simp only [Act.put, List.setIfInBounds_toArray, List.set_cons_zero, List.set_cons_succ])
      refine wpAnyH_take (i := 13) (oi := ⟨some 21, _, _, _, _, _⟩) (v := ?_) rfl (by kernel_rfl) (by kernel_rfl) (by kernel_rfl) (fun _ _ _ h => h) (Or.inl ⟨by rfl, ?hy⟩) (by assumption) ?_
      case hy => ((intro w hSw); (try dsimp only at hSw); go_simp <;> with_reducible rfl)
      (try simp only [Act.put, List.setIfInBounds_toArray, List.set_cons_zero, List.set_cons_succ])
      refine wpAnyH_take (i := 15) (oi := ⟨some 23, _, _, _, _, _⟩) (v := ?_) rfl (by kernel_rfl) (by kernel_rfl) (by kernel_rfl) (fun _ _ _ h => h) (Or.inl ⟨by rfl, ?hy⟩) (by assumption) ?_
      case hy => ((intro w hSw); (try dsimp only at hSw); go_simp <;> with_reducible rfl)
      (try simp only [Act.put, List.setIfInBounds_toArray, List.set_cons_zero, List.set_cons_succ])
      refine wpAnyH_ready (rs := [14]) (by kernel_rfl) (by simp) ?_
      refine AllReadyH.cons (o := _) rfl (fun K hK => ?_) AllReadyH.nil
      go_simp
      (go_at_call 18; ((with_reducible refine (C3.out w6 E6.out).mono ?_); (rintro e w7 ⟨rfl, h7⟩); (have E7 := hid_of (E6.out.trans (h7.mono E6.out.size))); (have cs7 := HC.out w7 E7.out); clear h7))
      (try go_wp2_with fail)
      refine hK.out _ _ ?hs (fun hHeld => ?_)
      case hs => exact cs7
      clear hK K
      (try simp only [Act.put, List.setIfInBounds_toArray, List.set_cons_zero, List.set_cons_succ])
      refine wpAnyH_ready (rs := [16]) (by kernel_rfl) (by simp) ?_
      refine AllReadyH.cons (o := _) rfl (fun K hK => ?_) AllReadyH.nil
      go_simp
      (go_at_call 19; ((with_reducible refine (R3.out w7 E7.out).mono ?_); (rintro e w8 ⟨rfl, h8⟩); (have E8 := hid_of (E7.out.trans (h8.mono E7.out.size))); (have cs8 := HC.out w8 E8.out); clear h8))
      (try go_wp2_with fail)
      refine hK.out _ _ ?hs (fun hHeld => ?_)
      case hs => exact cs8
      clear hK K
      (try simp only [Act.put, List.setIfInBounds_toArray, List.set_cons_zero, List.set_cons_succ])
      refine wpAnyH_take (i := 17) (oi := ⟨some 25, _, _, _, _, _⟩) (v := ?_) rfl (by kernel_rfl) (by kernel_rfl) (by kernel_rfl) (fun _ _ _ h => h) (Or.inl ⟨by rfl, ?hy⟩) (by assumption) ?_
      case hy => ((intro w hSw); (try dsimp only at hSw); go_simp <;> with_reducible rfl)
      (try simp only [Act.put, List.setIfInBounds_toArray, List.set_cons_zero, List.set_cons_succ])
      refine wpAnyH_take (i := 18) (oi := ⟨some 26, _, _, _, _, _⟩) (v := ?_) rfl (by kernel_rfl) (by kernel_rfl) (by kernel_rfl) (fun _ _ _ h => h) (Or.inl ⟨by rfl, ?hy⟩) (by assumption) ?_
      case hy => ((intro w hSw); (try dsimp only at hSw); go_simp <;> with_reducible rfl)
      (try simp only [Act.put, List.setIfInBounds_toArray, List.set_cons_zero, List.set_cons_succ])
      refine wpAnyH_take (i := 19) (oi := ⟨some 27, _, _, _, _, _⟩) (v := ?_) rfl (by kernel_rfl) (by kernel_rfl) (by kernel_rfl) (fun _ _ _ h => h) (Or.inl ⟨by rfl, ?hy⟩) (by assumption) ?_
      case hy => ((intro w hSw); (try dsimp only at hSw); go_simp <;> with_reducible rfl)
      (try simp only [Act.put, List.setIfInBounds_toArray, List.set_cons_zero, List.set_cons_succ])
      refine wpAnyH_take (i := 20) (oi := ⟨some 28, _, _, _, _, _⟩) (v := ?_) rfl (by kernel_rfl) (by kernel_rfl) (by kernel_rfl) (fun _ _ _ h => h) (Or.inl ⟨by rfl, ?hy⟩) (by assumption) ?_
      case hy => ((intro w hSw); (try dsimp only at hSw); go_simp <;> with_reducible rfl)
      (try simp only [Act.put, List.setIfInBounds_toArray, List.set_cons_zero, List.set_cons_succ])
      refine wpAnyH_take (i := 22) (oi := ⟨some 30, _, _, _, _, _⟩) (v := ?_) rfl (by kernel_rfl) (by kernel_rfl) (by kernel_rfl) (fun _ _ _ h => h) (Or.inl ⟨by rfl, ?hy⟩) (by assumption) ?_
      case hy => ((intro w hSw); (try dsimp only at hSw); go_simp <;> with_reducible rfl)
      (try simp only [Act.put, List.setIfInBounds_toArray, List.set_cons_zero, List.set_cons_succ])
      refine wpAnyH_ready (rs := [21]) (by kernel_rfl) (by simp) ?_
      refine AllReadyH.cons (o := _) rfl (fun K hK => ?_) AllReadyH.nil
      go_simp
      (go_at_call 20; ((with_reducible refine (C4.out w8 E8.out).mono ?_); (rintro e w9 ⟨rfl, h9⟩); (have E9 := hid_of (E8.out.trans (h9.mono E8.out.size))); (have cs9 := HC.out w9 E9.out); clear h9))
      (try go_wp2_with fail)
      refine hK.out _ _ ?hs (fun hHeld => ?_)
      case hs => exact cs9
      clear hK K
      (try simp only [Act.put, List.setIfInBounds_toArray, List.set_cons_zero, List.set_cons_succ])
      refine wpAnyH_ready (rs := [23]) (by kernel_rfl) (by simp) ?_
      refine AllReadyH.cons (o := _) rfl (fun K hK => ?_) AllReadyH.nil
      go_simp
      (go_at_call 21; ((with_reducible refine (R4.out w9 E9.out).mono ?_); (rintro e w10 ⟨rfl, h10⟩); (have E10 := hid_of (E9.out.trans (h10.mono E9.out.size))); (have cs10 := HC.out w10 E10.out); clear h10))
      (try go_wp2_with fail)
      refine hK.out _ _ ?hs (fun hHeld => ?_)
      case hs => exact cs10
      clear hK K
      (try simp only [Act.put, List.setIfInBounds_toArray, List.set_cons_zero, List.set_cons_succ])
      refine wpAnyH_take (i := 24) (oi := ⟨some 32, _, _, _, _, _⟩) (v := ?_) rfl (by kernel_rfl) (by kernel_rfl) (by kernel_rfl) (fun _ _ _ h => h) (Or.inl ⟨by rfl, ?hy⟩) (by assumption) ?_
      case hy => ((intro w hSw); (try dsimp only at hSw); go_simp <;> with_reducible rfl)
      (try simp only [Act.put, List.setIfInBounds_toArray, List.set_cons_zero, List.set_cons_succ])
      refine wpAnyH_take (i := 25) (oi := ⟨some 33, _, _, _, _, _⟩) (v := ?_) rfl (by kernel_rfl) (by kernel_rfl) (by kernel_rfl) (fun _ _ _ h => h) (Or.inl ⟨by rfl, ?hy⟩) (by assumption) ?_
      case hy => ((intro w hSw); (try dsimp only at hSw); go_simp <;> with_reducible rfl)
      (try simp only [Act.put, List.setIfInBounds_toArray, List.set_cons_zero, List.set_cons_succ])
      refine wpAnyH_take (i := 26) (oi := ⟨some 34, _, _, _, _, _⟩) (v := ?_) rfl (by kernel_rfl) (by kernel_rfl) (by kernel_rfl) (fun _ _ _ h => h) (Or.inl ⟨by rfl, ?hy⟩) (by assumption) ?_
      case hy => ((intro w hSw); (try dsimp only at hSw); go_simp <;> with_reducible rfl)
      (try simp only [Act.put, List.setIfInBounds_toArray, List.set_cons_zero, List.set_cons_succ])
      refine wpAnyH_take (i := 27) (oi := ⟨some 35, _, _, _, _, _⟩) (v := ?_) rfl (by kernel_rfl) (by kernel_rfl) (by kernel_rfl) (fun _ _ _ h => h) (Or.inl ⟨by rfl, ?hy⟩) (by assumption) ?_
      case hy => ((intro w hSw); (try dsimp only at hSw); go_simp <;> with_reducible rfl)
      (try simp only [Act.put, List.setIfInBounds_toArray, List.set_cons_zero, List.set_cons_succ])
      refine wpAnyH_ready (rs := [28]) (by kernel_rfl) (by simp) ?_
      refine AllReadyH.cons (o := _) rfl (fun K hK => ?_) AllReadyH.nil
      go_simp
      (go_at_call 14; ((with_reducible refine (C1.out w10 E10.out).mono ?_); (rintro e w11 ⟨rfl, h11⟩); (have E11 := hid_of (E10.out.trans (h11.mono E10.out.size))); (have cs11 := HC.out w11 E11.out); clear h11))
      (try go_wp2_with fail)
      refine hK.out _ _ ?hs (fun hHeld => ?_)
      case hs => exact cs11
      clear hK K
      (try simp only [Act.put, List.setIfInBounds_toArray, List.set_cons_zero, List.set_cons_succ])
      refine wpAnyH_take (i := 29) (oi := ⟨some 37, _, _, _, _, _⟩) (v := ?_) rfl (by kernel_rfl) (by kernel_rfl) (by kernel_rfl) (fun _ _ _ h => h) (Or.inl ⟨by rfl, ?hy⟩) (by assumption) ?_
      case hy => ((intro w hSw); (try dsimp only at hSw); go_simp <;> with_reducible rfl)
      (try simp only [Act.put, List.setIfInBounds_toArray, List.set_cons_zero, List.set_cons_succ])
      refine wpAnyH_take (i := 30) (oi := ⟨some 38, _, _, _, _, _⟩) (v := ?_) rfl (by kernel_rfl) (by kernel_rfl) (by kernel_rfl) (fun _ _ _ h => h) (Or.inl ⟨by rfl, ?hy⟩) (by assumption) ?_
      case hy => ((intro w hSw); (try dsimp only at hSw); go_simp <;> with_reducible rfl)
      (try simp only [Act.put, List.setIfInBounds_toArray, List.set_cons_zero, List.set_cons_succ])
      refine wpAnyH_take (i := 31) (oi := ⟨some 39, _, _, _, _, _⟩) (v := undef) rfl (by kernel_rfl) (by kernel_rfl) (by kernel_rfl) (fun _ _ _ h => h) (Or.inr ⟨by rfl, rfl⟩) (by assumption) ?_
      (try simp only [Act.put, List.setIfInBounds_toArray, List.set_cons_zero, List.set_cons_succ])
      refine wpAnyH_take (i := 32) (oi := ⟨some 40, _, _, _, _, _⟩) (v := undef) rfl (by kernel_rfl) (by kernel_rfl) (by kernel_rfl) (fun _ _ _ h => h) (Or.inr ⟨by rfl, rfl⟩) (by assumption) ?_
      (try simp only [Act.put, List.setIfInBounds_toArray, List.set_cons_zero, List.set_cons_succ])
      refine wpAnyH_take (i := 33) (oi := ⟨some 41, _, _, _, _, _⟩) (v := ?_) rfl (by kernel_rfl) (by kernel_rfl) (by kernel_rfl) (fun _ _ _ h => h) (Or.inl ⟨by rfl, ?hy⟩) (by assumption) ?_
      case hy => ((intro w hSw); (try dsimp only at hSw); go_simp <;> with_reducible rfl)
      (try simp only [Act.put, List.setIfInBounds_toArray, List.set_cons_zero, List.set_cons_succ])
      refine wpAnyH_take (i := 34) (oi := ⟨some 42, _, _, _, _, _⟩) (v := ?_) rfl (by kernel_rfl) (by kernel_rfl) (by kernel_rfl) (fun _ _ _ h => h) (Or.inl ⟨by rfl, ?hy⟩) (by assumption) ?_
      case hy => ((intro w hSw); (try dsimp only at hSw); go_simp <;> with_reducible rfl)
      (try simp only [Act.put, List.setIfInBounds_toArray, List.set_cons_zero, List.set_cons_succ])
      refine wpAnyH_take (i := 35) (oi := ⟨some 2, _, _, _, _, _⟩) (v := ?_) rfl (by kernel_rfl) (by kernel_rfl) (by kernel_rfl) (fun _ _ _ h => h) (Or.inl ⟨by rfl, ?hy⟩) (by assumption) ?_
      case hy => ((intro w hSw); (try dsimp only at hSw); go_simp <;> with_reducible rfl)
      (try simp only [Act.put, List.setIfInBounds_toArray, List.set_cons_zero, List.set_cons_succ])
      refine wpAnyH_done (by kernel_rfl) ?_ _
      go_wp2
      go_ret
      exact ⟨rfl, HBB.out.trans (E11.out.mono HBB.out.size)⟩
  · obtain rfl := hcd rfl
    clear hcd
    cases q2
    all_goals
      go_enter Try.func5, Try.ntmps5
      go_wp2_with (first
            | (go_at_call 9; ((with_reducible refine (AW.out _).mono ?_); (rintro e w1 ⟨rfl, h1⟩); (have E1 := hid_of (h1)); (have cs1 := HC.out w1 E1.out); (obtain ⟨cs10, cs11, cs12, cs13, cs14, cs15⟩ := HC.out w1 E1.out); clear h1))
            | (go_at_call 11; ((with_reducible refine (RH.out w1 E1.out).mono ?_); (rintro e w2 ⟨rfl, h2⟩); (have E2 := hid_of (E1.out.trans (h2.mono E1.out.size))); (have cs2 := HC.out w2 E2.out); clear h2)))
      go_region_held3 (fun wz => wz.cell? ⟨w.heap.size, 0, none⟩ = some (.int .i64 k) ∧ wz.cell? ⟨w.heap.size, 1, none⟩ = some (.int .i64 lo) ∧ wz.cell? ⟨w.heap.size, 2, none⟩ = some (.int .i64 hi) ∧ wz.cell? ⟨w.heap.size, 3, none⟩ = some (.slice an nn cn) ∧ wz.cell? ⟨w.heap.size, 4, none⟩ = some (.slice ap np cp) ∧ wz.cell? ⟨w.heap.size, 5, none⟩ = some (.slice ar nr cr)) (first | exact cs2 | exact cs3 | exact cs4 | exact cs5 | exact cs6 | exact cs7 | exact cs8 | exact cs9 | exact cs10 | exact cs11 | exact cs12 | go_keep) (first
        | (go_at_call 14; ((with_reducible refine (C1.out w2.drew (redrew E2.out)).mono ?_); (rintro e w3 ⟨rfl, h3⟩); (have E3 := hid_of (E2.out.trans ((undrew h3).mono E2.out.size))); (have cs3 := HC.out w3 E3.out); clear h3))
        | (go_at_call 15; ((with_reducible refine (R1.out w2.drew (redrew E2.out)).mono ?_); (rintro e w3 ⟨rfl, h3⟩); (have E3 := hid_of (E2.out.trans ((undrew h3).mono E2.out.size))); (have cs3 := HC.out w3 E3.out); clear h3))
        | (go_at_call 15; ((with_reducible refine (R1.out w3 E3.out).mono ?_); (rintro e w4 ⟨rfl, h4⟩); (have E4 := hid_of (E3.out.trans (h4.mono E3.out.size))); (have cs4 := HC.out w4 E4.out); clear h4))
        | (go_at_call 14; ((with_reducible refine (C1.out w3 E3.out).mono ?_); (rintro e w4 ⟨rfl, h4⟩); (have E4 := hid_of (E3.out.trans (h4.mono E3.out.size))); (have cs4 := HC.out w4 E4.out); clear h4))
        | (go_at_call 16; ((with_reducible refine (C2.out w4 E4.out).mono ?_); (rintro e w5 ⟨rfl, h5⟩); (have E5 := hid_of (E4.out.trans (h5.mono E4.out.size))); (have cs5 := HC.out w5 E5.out); clear h5))
        | (go_at_call 17; ((with_reducible refine (R2.out w4 E4.out).mono ?_); (rintro e w5 ⟨rfl, h5⟩); (have E5 := hid_of (E4.out.trans (h5.mono E4.out.size))); (have cs5 := HC.out w5 E5.out); clear h5))
        | (go_at_call 17; ((with_reducible refine (R2.out w5 E5.out).mono ?_); (rintro e w6 ⟨rfl, h6⟩); (have E6 := hid_of (E5.out.trans (h6.mono E5.out.size))); (have cs6 := HC.out w6 E6.out); clear h6))
        | (go_at_call 16; ((with_reducible refine (C2.out w5 E5.out).mono ?_); (rintro e w6 ⟨rfl, h6⟩); (have E6 := hid_of (E5.out.trans (h6.mono E5.out.size))); (have cs6 := HC.out w6 E6.out); clear h6))
        | (go_at_call 18; ((with_reducible refine (C3.out w6 E6.out).mono ?_); (rintro e w7 ⟨rfl, h7⟩); (have E7 := hid_of (E6.out.trans (h7.mono E6.out.size))); (have cs7 := HC.out w7 E7.out); clear h7))
        | (go_at_call 19; ((with_reducible refine (R3.out w6 E6.out).mono ?_); (rintro e w7 ⟨rfl, h7⟩); (have E7 := hid_of (E6.out.trans (h7.mono E6.out.size))); (have cs7 := HC.out w7 E7.out); clear h7))
        | (go_at_call 19; ((with_reducible refine (R3.out w7 E7.out).mono ?_); (rintro e w8 ⟨rfl, h8⟩); (have E8 := hid_of (E7.out.trans (h8.mono E7.out.size))); (have cs8 := HC.out w8 E8.out); clear h8))
        | (go_at_call 18; ((with_reducible refine (C3.out w7 E7.out).mono ?_); (rintro e w8 ⟨rfl, h8⟩); (have E8 := hid_of (E7.out.trans (h8.mono E7.out.size))); (have cs8 := HC.out w8 E8.out); clear h8))
        | (go_at_call 20; ((with_reducible refine (C4.out w8 E8.out).mono ?_); (rintro e w9 ⟨rfl, h9⟩); (have E9 := hid_of (E8.out.trans (h9.mono E8.out.size))); (have cs9 := HC.out w9 E9.out); clear h9))
        | (go_at_call 21; ((with_reducible refine (R4.out w8 E8.out).mono ?_); (rintro e w9 ⟨rfl, h9⟩); (have E9 := hid_of (E8.out.trans (h9.mono E8.out.size))); (have cs9 := HC.out w9 E9.out); clear h9))
        | (go_at_call 21; ((with_reducible refine (R4.out w9 E9.out).mono ?_); (rintro e w10 ⟨rfl, h10⟩); (have E10 := hid_of (E9.out.trans (h10.mono E9.out.size))); (have cs10 := HC.out w10 E10.out); clear h10))
        | (go_at_call 20; ((with_reducible refine (C4.out w9 E9.out).mono ?_); (rintro e w10 ⟨rfl, h10⟩); (have E10 := hid_of (E9.out.trans (h10.mono E9.out.size))); (have cs10 := HC.out w10 E10.out); clear h10))
        | (go_at_call 14; ((with_reducible refine (C1.out w10 E10.out).mono ?_); (rintro e w11 ⟨rfl, h11⟩); (have E11 := hid_of (E10.out.trans (h11.mono E10.out.size))); (have cs11 := HC.out w11 E11.out); clear h11))
        | (go_at_call 18; ((with_reducible refine (C3.out w11 E11.out).mono ?_); (rintro e w12 ⟨rfl, h12⟩); (have E12 := hid_of (E11.out.trans (h12.mono E11.out.size))); (have cs12 := HC.out w12 E12.out); clear h12)))
      all_goals go_wp2
      all_goals go_ret
      all_goals exact ⟨rfl, HBB.out.trans (E12.out.mono HBB.out.size)⟩
end Go.Proofs.Ytgbadiajdhehpaa
