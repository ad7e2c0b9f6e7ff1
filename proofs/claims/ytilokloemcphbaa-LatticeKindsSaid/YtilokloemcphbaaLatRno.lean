/- The reference's node. Bounds on sizes alone. -/
import Derived.Test.YtilokloemcphbaaLatRfn
namespace Go.Proofs.Ytilokloemcphbaa
open Go.RowKit

def rnodeE (t : Lat) (d c : Nat) : Int := if 6 < d ∨ 64 ≤ c then 6 else nodeE t
set_option maxRecDepth 100000 in
set_option maxHeartbeats 6400000 in
theorem rnode6 (t : Lat) (k lo hi : Int) (an : Option Addr) (nn cn : Nat) (ap : Option Addr) (np cp : Nat) (ar : Option Addr) (nr cr : Nat) (d c : Nat) (w : World) (H : LO w k lo hi an nn cn ap np cp ar nr cr t) (hd : d ≤ 9) (hc : c ≤ 64) (hk : k = 6) : Calls Try.prog 57 #[.agg #[.int .i64 k, .int .i64 lo, .int .i64 hi, .slice an nn cn, .slice ap np cp, .slice ar nr cr], .int .i64 (d : Nat), .int .i64 (c : Nat)] w (ErP (rnodeE t d c) w) := by
  obtain ⟨r, hr⟩ : ∃ r, r = rnodeE t d c := ⟨_, rfl⟩
  rw [← hr]
  have HB := hid_of (bel_alloc w (.cells #[.int .i64 k, .int .i64 lo, .int .i64 hi, .slice an nn cn, .slice ap np cp, .slice ar nr cr] 26))
  have HC : Hid (∀ w', Below (w.alloc (.cells #[.int .i64 k, .int .i64 lo, .int .i64 hi, .slice an nn cn, .slice ap np cp, .slice ar nr cr] 26)).heap.size (w.alloc (.cells #[.int .i64 k, .int .i64 lo, .int .i64 hi, .slice an nn cn, .slice ap np cp, .slice ar nr cr] 26)) w' → _) := hid_of (fun w' h => box6 k lo hi an nn cn ap np cp ar nr cr h)
  have FA := hid_of (fun w => rshape_any k lo hi an nn cn ap np cp ar nr cr w)
  have hlim : limL k = 8 := by unfold limL; rw [if_pos hk]
  have HLK : Hid (limL t.k = 8) := hid_of (by rw [← H.hk]; exact hlim)
  have e6 : (k == 6) = true := beq_iff_eq.2 hk
  have e10 : (k == 10) = false := beq_eq_false_iff_ne.2 (by omega)
  have e7 : (k == 7) = false := beq_eq_false_iff_ne.2 (by omega)
  have hcn : nn ≤ 9223372036854775807 := by have := rds_open H.n; omega
  have hcr : nr ≤ 9223372036854775807 := by have := H.r.len; omega
  have hcp : np ≤ 9223372036854775807 := by have := H.p.len; omega
  have HH := hid_of H
  have HK := hid_of hk
  unfold rnodeE at hr
  clear hlim
  by_cases hdc : 6 < d
  · have RE : Hid (6 = r) := hid_of (by rw [hr, if_pos (.inl hdc)])
    have d1 : decide (6 < d) = true := decide_eq_true hdc
    have d1i : decide ((6 : Int) < (d : Int)) = true := decide_eq_true (by omega)
    clear hr hdc H hk
    go_enter Try.func57, Try.ntmps57
    go_wp2
    go_ret
    exact ⟨ret_i RE.out, HB.out⟩
  by_cases hcc : 64 ≤ c
  · have RE : Hid (6 = r) := hid_of (by rw [hr, if_pos (.inr hcc)])
    have d1 : decide (6 < d) = false := decide_eq_false hdc
    have d1i : decide ((6 : Int) < (d : Int)) = false := decide_eq_false (by omega)
    have d2 : decide (64 ≤ c) = true := decide_eq_true hcc
    have d2i : decide ((64 : Int) ≤ (c : Int)) = true := decide_eq_true (by omega)
    clear hr hdc hcc H hk
    go_enter Try.func57, Try.ntmps57
    go_wp2
    go_ret
    exact ⟨ret_i RE.out, HB.out⟩
  rw [if_neg (by omega)] at hr
  have HR := hid_of (hr.trans (nodeE.eq_1 t))
  have d1 : decide (6 < d) = false := decide_eq_false hdc
  have d1i : decide ((6 : Int) < (d : Int)) = false := decide_eq_false (by omega)
  have d2 : decide (64 ≤ c) = false := decide_eq_false hcc
  have d2i : decide ((64 : Int) ≤ (c : Int)) = false := decide_eq_false (by omega)
  have hsf : shapeB t = fieldsB k lo hi nn np nr := by rw [shape_fields, H.hk, H.hlo, H.hhi, H.ln, H.lp, H.lr]
  obtain ⟨qf, hqf⟩ : ∃ q, q = fieldsB k lo hi nn np nr := ⟨_, rfl⟩
  rw [← hqf] at hsf FA
  have HSF := hid_of hsf
  clear hr hqf hsf hdc hcc H hk
  cases qf
  · have RE : Hid (1 = r) := hid_of (by rw [HR.out, if_pos HSF.out])
    go_enter Try.func57, Try.ntmps57
    go_wp2_with (go_at_call 83; ((with_reducible refine (FA.out _).mono ?_); (rintro e w2 ⟨rfl, h2⟩)); (have K2 := hid_of h2); (obtain ⟨s0, s1, s2, s3, s4, s5⟩ := HC.out w2 h2); clear h2)
    go_ret
    exact ⟨ret_i RE.out, HB.out.trans (K2.out.mono HB.out.size)⟩
  have HR2 : Hid (r = _) := hid_of (HR.out.trans (if_neg (by rw [HSF.out]; simp)))
  by_cases h1 : 8 < nn
  · have RE : Hid (6 = r) := hid_of (by rw [HR2.out, if_pos (.inl (by rw [HLK.out, ← HH.out.ln]; exact h1))])
    have l1 : decide (8 < nn) = true := decide_eq_true h1
    have l1i : decide ((8 : Int) < (nn : Int)) = true := decide_eq_true (by omega)
    clear h1
    go_enter Try.func57, Try.ntmps57
    go_wp2_with (go_at_call 83; ((with_reducible refine (FA.out _).mono ?_); (rintro e w2 ⟨rfl, h2⟩)); (have K2 := hid_of h2); (obtain ⟨s0, s1, s2, s3, s4, s5⟩ := HC.out w2 h2); clear h2)
    go_ret
    exact ⟨ret_i RE.out, HB.out.trans (K2.out.mono HB.out.size)⟩
  have l1 : decide (8 < nn) = false := decide_eq_false h1
  have l1i : decide ((8 : Int) < (nn : Int)) = false := decide_eq_false (by omega)
  by_cases h2 : 32 < nr
  · have RE : Hid (6 = r) := hid_of (by rw [HR2.out, if_pos (.inr (by rw [← HH.out.lr]; exact h2))])
    have l2 : decide (32 < nr) = true := decide_eq_true h2
    have l2i : decide ((32 : Int) < (nr : Int)) = true := decide_eq_true (by omega)
    clear h1 h2
    go_enter Try.func57, Try.ntmps57
    go_wp2_with (go_at_call 83; ((with_reducible refine (FA.out _).mono ?_); (rintro e w2 ⟨rfl, h2⟩)); (have K2 := hid_of h2); (obtain ⟨s0, s1, s2, s3, s4, s5⟩ := HC.out w2 h2); clear h2)
    go_ret
    exact ⟨ret_i RE.out, HB.out.trans (K2.out.mono HB.out.size)⟩
  have l2 : decide (32 < nr) = false := decide_eq_false h2
  have l2i : decide ((32 : Int) < (nr : Int)) = false := decide_eq_false (by omega)
  have HR3 : Hid (r = _) := hid_of (HR2.out.trans (if_neg (by rw [HLK.out, ← HH.out.ln, ← HH.out.lr]; omega)))
  have NM := hid_of (fun (wz : World) (hz : Below (w.alloc (.cells #[.int .i64 k, .int .i64 lo, .int .i64 hi, .slice an nn cn, .slice ap np cp, .slice ar nr cr] 26)).heap.size (w.alloc (.cells #[.int .i64 k, .int .i64 lo, .int .i64 hi, .slice an nn cn, .slice ap np cp, .slice ar nr cr] 26)) wz) => rnamed_any t k lo hi an nn cn ap np cp ar nr cr wz (HH.out.at (HB.out.trans (hz.mono HB.out.size))))
  rw [rnamed_eq HSF.out] at NM
  obtain ⟨qn, hqn⟩ : ∃ q, q = (namesB t && rulesB t.ns t.rs) := ⟨_, rfl⟩
  rw [← hqn] at NM HR3
  clear hqn h1 h2
  cases qn
  · have RE : Hid (3 = r) := hid_of (by rw [HR3.out, if_pos rfl])
    go_enter Try.func57, Try.ntmps57
    go_wp2_with (first | (go_at_call 83; ((with_reducible refine (FA.out _).mono ?_); (rintro e w2 ⟨rfl, h2⟩)); (have K2 := hid_of h2); (obtain ⟨s0, s1, s2, s3, s4, s5⟩ := HC.out w2 h2); clear h2) | (go_at_call 84; ((with_reducible refine (NM.out _ K2.out).mono ?_); (rintro e w4 ⟨rfl, h4⟩)); (have K4 := hid_of (K2.out.trans (h4.mono K2.out.size))); (obtain ⟨v0, v1, v2, v3, v4, v5⟩ := HC.out w4 K4.out); clear h4 s0 s1 s2 s3 s4 s5))
    go_ret
    exact ⟨ret_i RE.out, HB.out.trans (K4.out.mono HB.out.size)⟩
  have HR4 : Hid (r = _) := hid_of (HR3.out.trans (if_neg (by simp)))
  by_cases h1 : hi < lo
  · have RE : Hid (5 = r) := hid_of (by rw [HR4.out, if_pos (by rw [← HH.out.hlo, ← HH.out.hhi]; exact .inl h1)])
    have d3 : decide (hi < lo) = true := decide_eq_true h1
    clear h1
    go_enter Try.func57, Try.ntmps57
    go_wp2_with (first | (go_at_call 83; ((with_reducible refine (FA.out _).mono ?_); (rintro e w2 ⟨rfl, h2⟩)); (have K2 := hid_of h2); (obtain ⟨s0, s1, s2, s3, s4, s5⟩ := HC.out w2 h2); clear h2) | (go_at_call 84; ((with_reducible refine (NM.out _ K2.out).mono ?_); (rintro e w4 ⟨rfl, h4⟩)); (have K4 := hid_of (K2.out.trans (h4.mono K2.out.size))); (obtain ⟨v0, v1, v2, v3, v4, v5⟩ := HC.out w4 K4.out); clear h4 s0 s1 s2 s3 s4 s5))
    go_ret
    exact ⟨ret_i RE.out, HB.out.trans (K4.out.mono HB.out.size)⟩
  have d3 : decide (hi < lo) = false := decide_eq_false h1
  by_cases h2 : lo < -1000000000
  · have RE : Hid (5 = r) := hid_of (by rw [HR4.out, if_pos (by rw [← HH.out.hlo, ← HH.out.hhi]; exact .inr (.inl h2))])
    have d4 : decide (lo < -1000000000) = true := decide_eq_true h2
    clear h1 h2
    go_enter Try.func57, Try.ntmps57
    go_wp2_with (first | (go_at_call 83; ((with_reducible refine (FA.out _).mono ?_); (rintro e w2 ⟨rfl, h2⟩)); (have K2 := hid_of h2); (obtain ⟨s0, s1, s2, s3, s4, s5⟩ := HC.out w2 h2); clear h2) | (go_at_call 84; ((with_reducible refine (NM.out _ K2.out).mono ?_); (rintro e w4 ⟨rfl, h4⟩)); (have K4 := hid_of (K2.out.trans (h4.mono K2.out.size))); (obtain ⟨v0, v1, v2, v3, v4, v5⟩ := HC.out w4 K4.out); clear h4 s0 s1 s2 s3 s4 s5))
    go_ret
    exact ⟨ret_i RE.out, HB.out.trans (K4.out.mono HB.out.size)⟩
  have d4 : decide (lo < -1000000000) = false := decide_eq_false h2
  by_cases h3 : 1000000000 < hi
  · have RE : Hid (5 = r) := hid_of (by rw [HR4.out, if_pos (by rw [← HH.out.hlo, ← HH.out.hhi]; exact .inr (.inr h3))])
    have d5 : decide (1000000000 < hi) = true := decide_eq_true h3
    clear h1 h2 h3
    go_enter Try.func57, Try.ntmps57
    go_wp2_with (first | (go_at_call 83; ((with_reducible refine (FA.out _).mono ?_); (rintro e w2 ⟨rfl, h2⟩)); (have K2 := hid_of h2); (obtain ⟨s0, s1, s2, s3, s4, s5⟩ := HC.out w2 h2); clear h2) | (go_at_call 84; ((with_reducible refine (NM.out _ K2.out).mono ?_); (rintro e w4 ⟨rfl, h4⟩)); (have K4 := hid_of (K2.out.trans (h4.mono K2.out.size))); (obtain ⟨v0, v1, v2, v3, v4, v5⟩ := HC.out w4 K4.out); clear h4 s0 s1 s2 s3 s4 s5))
    go_ret
    exact ⟨ret_i RE.out, HB.out.trans (K4.out.mono HB.out.size)⟩
  have d5 : decide (1000000000 < hi) = false := decide_eq_false h3
  have HR5 : Hid (r = _) := hid_of (HR4.out.trans (if_neg (by rw [← HH.out.hlo, ← HH.out.hhi]; omega)))
  clear h1 h2 h3
  have RE : Hid (0 = r) := hid_of (by rw [HR5.out, if_neg (by rw [← HH.out.hk, HK.out]; simp)])
  go_enter Try.func57, Try.ntmps57
  go_wp2_with (first | (go_at_call 83; ((with_reducible refine (FA.out _).mono ?_); (rintro e w2 ⟨rfl, h2⟩)); (have K2 := hid_of h2); (obtain ⟨s0, s1, s2, s3, s4, s5⟩ := HC.out w2 h2); clear h2) | (go_at_call 84; ((with_reducible refine (NM.out _ K2.out).mono ?_); (rintro e w4 ⟨rfl, h4⟩)); (have K4 := hid_of (K2.out.trans (h4.mono K2.out.size))); (obtain ⟨v0, v1, v2, v3, v4, v5⟩ := HC.out w4 K4.out); clear h4 s0 s1 s2 s3 s4 s5))
  go_ret
  exact ⟨ret_i RE.out, HB.out.trans (K4.out.mono HB.out.size)⟩
set_option maxRecDepth 100000 in
set_option maxHeartbeats 6400000 in
theorem rnode10 (t : Lat) (k lo hi : Int) (an : Option Addr) (nn cn : Nat) (ap : Option Addr) (np cp : Nat) (ar : Option Addr) (nr cr : Nat) (d c : Nat) (w : World) (H : LO w k lo hi an nn cn ap np cp ar nr cr t) (hd : d ≤ 9) (hc : c ≤ 64) (hk : k = 10) : Calls Try.prog 57 #[.agg #[.int .i64 k, .int .i64 lo, .int .i64 hi, .slice an nn cn, .slice ap np cp, .slice ar nr cr], .int .i64 (d : Nat), .int .i64 (c : Nat)] w (ErP (rnodeE t d c) w) := by
  obtain ⟨r, hr⟩ : ∃ r, r = rnodeE t d c := ⟨_, rfl⟩
  rw [← hr]
  have HB := hid_of (bel_alloc w (.cells #[.int .i64 k, .int .i64 lo, .int .i64 hi, .slice an nn cn, .slice ap np cp, .slice ar nr cr] 26))
  have HC : Hid (∀ w', Below (w.alloc (.cells #[.int .i64 k, .int .i64 lo, .int .i64 hi, .slice an nn cn, .slice ap np cp, .slice ar nr cr] 26)).heap.size (w.alloc (.cells #[.int .i64 k, .int .i64 lo, .int .i64 hi, .slice an nn cn, .slice ap np cp, .slice ar nr cr] 26)) w' → _) := hid_of (fun w' h => box6 k lo hi an nn cn ap np cp ar nr cr h)
  have FA := hid_of (fun w => rshape_any k lo hi an nn cn ap np cp ar nr cr w)
  have hlim : limL k = 12 := by unfold limL; rw [if_neg (by omega), if_pos hk]
  have HLK : Hid (limL t.k = 12) := hid_of (by rw [← H.hk]; exact hlim)
  have e6 : (k == 6) = false := beq_eq_false_iff_ne.2 (by omega)
  have e10 : (k == 10) = true := beq_iff_eq.2 hk
  have e7 : (k == 7) = false := beq_eq_false_iff_ne.2 (by omega)
  have hcn : nn ≤ 9223372036854775807 := by have := rds_open H.n; omega
  have hcr : nr ≤ 9223372036854775807 := by have := H.r.len; omega
  have hcp : np ≤ 9223372036854775807 := by have := H.p.len; omega
  have HH := hid_of H
  have HK := hid_of hk
  unfold rnodeE at hr
  clear hlim
  by_cases hdc : 6 < d
  · have RE : Hid (6 = r) := hid_of (by rw [hr, if_pos (.inl hdc)])
    have d1 : decide (6 < d) = true := decide_eq_true hdc
    have d1i : decide ((6 : Int) < (d : Int)) = true := decide_eq_true (by omega)
    clear hr hdc H hk
    go_enter Try.func57, Try.ntmps57
    go_wp2
    go_ret
    exact ⟨ret_i RE.out, HB.out⟩
  by_cases hcc : 64 ≤ c
  · have RE : Hid (6 = r) := hid_of (by rw [hr, if_pos (.inr hcc)])
    have d1 : decide (6 < d) = false := decide_eq_false hdc
    have d1i : decide ((6 : Int) < (d : Int)) = false := decide_eq_false (by omega)
    have d2 : decide (64 ≤ c) = true := decide_eq_true hcc
    have d2i : decide ((64 : Int) ≤ (c : Int)) = true := decide_eq_true (by omega)
    clear hr hdc hcc H hk
    go_enter Try.func57, Try.ntmps57
    go_wp2
    go_ret
    exact ⟨ret_i RE.out, HB.out⟩
  rw [if_neg (by omega)] at hr
  have HR := hid_of (hr.trans (nodeE.eq_1 t))
  have d1 : decide (6 < d) = false := decide_eq_false hdc
  have d1i : decide ((6 : Int) < (d : Int)) = false := decide_eq_false (by omega)
  have d2 : decide (64 ≤ c) = false := decide_eq_false hcc
  have d2i : decide ((64 : Int) ≤ (c : Int)) = false := decide_eq_false (by omega)
  have hsf : shapeB t = fieldsB k lo hi nn np nr := by rw [shape_fields, H.hk, H.hlo, H.hhi, H.ln, H.lp, H.lr]
  obtain ⟨qf, hqf⟩ : ∃ q, q = fieldsB k lo hi nn np nr := ⟨_, rfl⟩
  rw [← hqf] at hsf FA
  have HSF := hid_of hsf
  clear hr hqf hsf hdc hcc H hk
  cases qf
  · have RE : Hid (1 = r) := hid_of (by rw [HR.out, if_pos HSF.out])
    go_enter Try.func57, Try.ntmps57
    go_wp2_with (go_at_call 83; ((with_reducible refine (FA.out _).mono ?_); (rintro e w2 ⟨rfl, h2⟩)); (have K2 := hid_of h2); (obtain ⟨s0, s1, s2, s3, s4, s5⟩ := HC.out w2 h2); clear h2)
    go_ret
    exact ⟨ret_i RE.out, HB.out.trans (K2.out.mono HB.out.size)⟩
  have HR2 : Hid (r = _) := hid_of (HR.out.trans (if_neg (by rw [HSF.out]; simp)))
  by_cases h1 : 12 < nn
  · have RE : Hid (6 = r) := hid_of (by rw [HR2.out, if_pos (.inl (by rw [HLK.out, ← HH.out.ln]; exact h1))])
    have l1 : decide (12 < nn) = true := decide_eq_true h1
    have l1i : decide ((12 : Int) < (nn : Int)) = true := decide_eq_true (by omega)
    clear h1
    go_enter Try.func57, Try.ntmps57
    go_wp2_with (go_at_call 83; ((with_reducible refine (FA.out _).mono ?_); (rintro e w2 ⟨rfl, h2⟩)); (have K2 := hid_of h2); (obtain ⟨s0, s1, s2, s3, s4, s5⟩ := HC.out w2 h2); clear h2)
    go_ret
    exact ⟨ret_i RE.out, HB.out.trans (K2.out.mono HB.out.size)⟩
  have l1 : decide (12 < nn) = false := decide_eq_false h1
  have l1i : decide ((12 : Int) < (nn : Int)) = false := decide_eq_false (by omega)
  by_cases h2 : 32 < nr
  · have RE : Hid (6 = r) := hid_of (by rw [HR2.out, if_pos (.inr (by rw [← HH.out.lr]; exact h2))])
    have l2 : decide (32 < nr) = true := decide_eq_true h2
    have l2i : decide ((32 : Int) < (nr : Int)) = true := decide_eq_true (by omega)
    clear h1 h2
    go_enter Try.func57, Try.ntmps57
    go_wp2_with (go_at_call 83; ((with_reducible refine (FA.out _).mono ?_); (rintro e w2 ⟨rfl, h2⟩)); (have K2 := hid_of h2); (obtain ⟨s0, s1, s2, s3, s4, s5⟩ := HC.out w2 h2); clear h2)
    go_ret
    exact ⟨ret_i RE.out, HB.out.trans (K2.out.mono HB.out.size)⟩
  have l2 : decide (32 < nr) = false := decide_eq_false h2
  have l2i : decide ((32 : Int) < (nr : Int)) = false := decide_eq_false (by omega)
  have HR3 : Hid (r = _) := hid_of (HR2.out.trans (if_neg (by rw [HLK.out, ← HH.out.ln, ← HH.out.lr]; omega)))
  have NM := hid_of (fun (wz : World) (hz : Below (w.alloc (.cells #[.int .i64 k, .int .i64 lo, .int .i64 hi, .slice an nn cn, .slice ap np cp, .slice ar nr cr] 26)).heap.size (w.alloc (.cells #[.int .i64 k, .int .i64 lo, .int .i64 hi, .slice an nn cn, .slice ap np cp, .slice ar nr cr] 26)) wz) => rnamed_any t k lo hi an nn cn ap np cp ar nr cr wz (HH.out.at (HB.out.trans (hz.mono HB.out.size))))
  rw [rnamed_eq HSF.out] at NM
  obtain ⟨qn, hqn⟩ : ∃ q, q = (namesB t && rulesB t.ns t.rs) := ⟨_, rfl⟩
  rw [← hqn] at NM HR3
  clear hqn h1 h2
  cases qn
  · have RE : Hid (3 = r) := hid_of (by rw [HR3.out, if_pos rfl])
    go_enter Try.func57, Try.ntmps57
    go_wp2_with (first | (go_at_call 83; ((with_reducible refine (FA.out _).mono ?_); (rintro e w2 ⟨rfl, h2⟩)); (have K2 := hid_of h2); (obtain ⟨s0, s1, s2, s3, s4, s5⟩ := HC.out w2 h2); clear h2) | (go_at_call 84; ((with_reducible refine (NM.out _ K2.out).mono ?_); (rintro e w4 ⟨rfl, h4⟩)); (have K4 := hid_of (K2.out.trans (h4.mono K2.out.size))); (obtain ⟨v0, v1, v2, v3, v4, v5⟩ := HC.out w4 K4.out); clear h4 s0 s1 s2 s3 s4 s5))
    go_ret
    exact ⟨ret_i RE.out, HB.out.trans (K4.out.mono HB.out.size)⟩
  have HR4 : Hid (r = _) := hid_of (HR3.out.trans (if_neg (by simp)))
  by_cases h1 : hi < lo
  · have RE : Hid (5 = r) := hid_of (by rw [HR4.out, if_pos (by rw [← HH.out.hlo, ← HH.out.hhi]; exact .inl h1)])
    have d3 : decide (hi < lo) = true := decide_eq_true h1
    clear h1
    go_enter Try.func57, Try.ntmps57
    go_wp2_with (first | (go_at_call 83; ((with_reducible refine (FA.out _).mono ?_); (rintro e w2 ⟨rfl, h2⟩)); (have K2 := hid_of h2); (obtain ⟨s0, s1, s2, s3, s4, s5⟩ := HC.out w2 h2); clear h2) | (go_at_call 84; ((with_reducible refine (NM.out _ K2.out).mono ?_); (rintro e w4 ⟨rfl, h4⟩)); (have K4 := hid_of (K2.out.trans (h4.mono K2.out.size))); (obtain ⟨v0, v1, v2, v3, v4, v5⟩ := HC.out w4 K4.out); clear h4 s0 s1 s2 s3 s4 s5))
    go_ret
    exact ⟨ret_i RE.out, HB.out.trans (K4.out.mono HB.out.size)⟩
  have d3 : decide (hi < lo) = false := decide_eq_false h1
  by_cases h2 : lo < -1000000000
  · have RE : Hid (5 = r) := hid_of (by rw [HR4.out, if_pos (by rw [← HH.out.hlo, ← HH.out.hhi]; exact .inr (.inl h2))])
    have d4 : decide (lo < -1000000000) = true := decide_eq_true h2
    clear h1 h2
    go_enter Try.func57, Try.ntmps57
    go_wp2_with (first | (go_at_call 83; ((with_reducible refine (FA.out _).mono ?_); (rintro e w2 ⟨rfl, h2⟩)); (have K2 := hid_of h2); (obtain ⟨s0, s1, s2, s3, s4, s5⟩ := HC.out w2 h2); clear h2) | (go_at_call 84; ((with_reducible refine (NM.out _ K2.out).mono ?_); (rintro e w4 ⟨rfl, h4⟩)); (have K4 := hid_of (K2.out.trans (h4.mono K2.out.size))); (obtain ⟨v0, v1, v2, v3, v4, v5⟩ := HC.out w4 K4.out); clear h4 s0 s1 s2 s3 s4 s5))
    go_ret
    exact ⟨ret_i RE.out, HB.out.trans (K4.out.mono HB.out.size)⟩
  have d4 : decide (lo < -1000000000) = false := decide_eq_false h2
  by_cases h3 : 1000000000 < hi
  · have RE : Hid (5 = r) := hid_of (by rw [HR4.out, if_pos (by rw [← HH.out.hlo, ← HH.out.hhi]; exact .inr (.inr h3))])
    have d5 : decide (1000000000 < hi) = true := decide_eq_true h3
    clear h1 h2 h3
    go_enter Try.func57, Try.ntmps57
    go_wp2_with (first | (go_at_call 83; ((with_reducible refine (FA.out _).mono ?_); (rintro e w2 ⟨rfl, h2⟩)); (have K2 := hid_of h2); (obtain ⟨s0, s1, s2, s3, s4, s5⟩ := HC.out w2 h2); clear h2) | (go_at_call 84; ((with_reducible refine (NM.out _ K2.out).mono ?_); (rintro e w4 ⟨rfl, h4⟩)); (have K4 := hid_of (K2.out.trans (h4.mono K2.out.size))); (obtain ⟨v0, v1, v2, v3, v4, v5⟩ := HC.out w4 K4.out); clear h4 s0 s1 s2 s3 s4 s5))
    go_ret
    exact ⟨ret_i RE.out, HB.out.trans (K4.out.mono HB.out.size)⟩
  have d5 : decide (1000000000 < hi) = false := decide_eq_false h3
  have HR5 : Hid (r = _) := hid_of (HR4.out.trans (if_neg (by rw [← HH.out.hlo, ← HH.out.hhi]; omega)))
  clear h1 h2 h3
  have RE : Hid (0 = r) := hid_of (by rw [HR5.out, if_neg (by rw [← HH.out.hk, HK.out]; simp)])
  go_enter Try.func57, Try.ntmps57
  go_wp2_with (first | (go_at_call 83; ((with_reducible refine (FA.out _).mono ?_); (rintro e w2 ⟨rfl, h2⟩)); (have K2 := hid_of h2); (obtain ⟨s0, s1, s2, s3, s4, s5⟩ := HC.out w2 h2); clear h2) | (go_at_call 84; ((with_reducible refine (NM.out _ K2.out).mono ?_); (rintro e w4 ⟨rfl, h4⟩)); (have K4 := hid_of (K2.out.trans (h4.mono K2.out.size))); (obtain ⟨v0, v1, v2, v3, v4, v5⟩ := HC.out w4 K4.out); clear h4 s0 s1 s2 s3 s4 s5))
  go_ret
  exact ⟨ret_i RE.out, HB.out.trans (K4.out.mono HB.out.size)⟩
end Go.Proofs.Ytilokloemcphbaa
