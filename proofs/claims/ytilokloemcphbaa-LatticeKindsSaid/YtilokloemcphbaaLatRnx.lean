/- The reference's node. Bounds on sizes alone. -/
import Derived.Test.YtilokloemcphbaaLatRno
namespace Go.Proofs.Ytilokloemcphbaa
open Go.RowKit

set_option maxRecDepth 100000 in
set_option maxHeartbeats 6400000 in
theorem rnodeX (t : Lat) (k lo hi : Int) (an : Option Addr) (nn cn : Nat) (ap : Option Addr) (np cp : Nat) (ar : Option Addr) (nr cr : Nat) (d c : Nat) (w : World) (H : LO w k lo hi an nn cn ap np cp ar nr cr t) (hd : d ≤ 9) (hc : c ≤ 64) (hk : k ≠ 6 ∧ k ≠ 10) : Calls Try.prog 57 #[.agg #[.int .i64 k, .int .i64 lo, .int .i64 hi, .slice an nn cn, .slice ap np cp, .slice ar nr cr], .int .i64 (d : Nat), .int .i64 (c : Nat)] w (ErP (rnodeE t d c) w) := by
  obtain ⟨r, hr⟩ : ∃ r, r = rnodeE t d c := ⟨_, rfl⟩
  rw [← hr]
  have HB := hid_of (bel_alloc w (.cells #[.int .i64 k, .int .i64 lo, .int .i64 hi, .slice an nn cn, .slice ap np cp, .slice ar nr cr] 26))
  have HC : Hid (∀ w', Below (w.alloc (.cells #[.int .i64 k, .int .i64 lo, .int .i64 hi, .slice an nn cn, .slice ap np cp, .slice ar nr cr] 26)).heap.size (w.alloc (.cells #[.int .i64 k, .int .i64 lo, .int .i64 hi, .slice an nn cn, .slice ap np cp, .slice ar nr cr] 26)) w' → _) := hid_of (fun w' h => box6 k lo hi an nn cn ap np cp ar nr cr h)
  have FA := hid_of (fun w => rshape_any k lo hi an nn cn ap np cp ar nr cr w)
  have hlim : limL k = 32 := by unfold limL; rw [if_neg (by omega), if_neg (by omega)]
  have HLK : Hid (limL t.k = 32) := hid_of (by rw [← H.hk]; exact hlim)
  have e6 : (k == 6) = false := beq_eq_false_iff_ne.2 hk.1
  have e10 : (k == 10) = false := beq_eq_false_iff_ne.2 hk.2
  have hcn : nn ≤ 9223372036854775807 := by have := rds_open H.n; omega
  have hcr : nr ≤ 9223372036854775807 := by have := H.r.len; omega
  have hcp : np ≤ 9223372036854775807 := by have := H.p.len; omega
  have HH := hid_of H
  have HK := hid_of hk
  unfold rnodeE at hr
  clear hlim
  by_cases hdc : 6 < d
  · have RE : Hid (6 = r) := hid_of (by rw [hr, if_pos (.inl hdc)])
    have d1 : decide (6 < d) = true := decide_eq_true hdc
    have d1i : decide ((6 : Int) < (d : Int)) = true := decide_eq_true (by omega)
    clear hr hdc H hk
    go_enter Try.func57, Try.ntmps57
    go_wp2
    go_ret
    exact ⟨ret_i RE.out, HB.out⟩
  by_cases hcc : 64 ≤ c
  · have RE : Hid (6 = r) := hid_of (by rw [hr, if_pos (.inr hcc)])
    have d1 : decide (6 < d) = false := decide_eq_false hdc
    have d1i : decide ((6 : Int) < (d : Int)) = false := decide_eq_false (by omega)
    have d2 : decide (64 ≤ c) = true := decide_eq_true hcc
    have d2i : decide ((64 : Int) ≤ (c : Int)) = true := decide_eq_true (by omega)
    clear hr hdc hcc H hk
    go_enter Try.func57, Try.ntmps57
    go_wp2
    go_ret
    exact ⟨ret_i RE.out, HB.out⟩
  rw [if_neg (by omega)] at hr
  have HR := hid_of (hr.trans (nodeE.eq_1 t))
  have d1 : decide (6 < d) = false := decide_eq_false hdc
  have d1i : decide ((6 : Int) < (d : Int)) = false := decide_eq_false (by omega)
  have d2 : decide (64 ≤ c) = false := decide_eq_false hcc
  have d2i : decide ((64 : Int) ≤ (c : Int)) = false := decide_eq_false (by omega)
  have hsf : shapeB t = fieldsB k lo hi nn np nr := by rw [shape_fields, H.hk, H.hlo, H.hhi, H.ln, H.lp, H.lr]
  obtain ⟨qf, hqf⟩ : ∃ q, q = fieldsB k lo hi nn np nr := ⟨_, rfl⟩
  rw [← hqf] at hsf FA
  have HSF := hid_of hsf
  clear hr hqf hsf hdc hcc H hk
  cases qf
  · have RE : Hid (1 = r) := hid_of (by rw [HR.out, if_pos HSF.out])
    go_enter Try.func57, Try.ntmps57
    go_wp2_with (go_at_call 83; ((with_reducible refine (FA.out _).mono ?_); (rintro e w2 ⟨rfl, h2⟩)); (have K2 := hid_of h2); (obtain ⟨s0, s1, s2, s3, s4, s5⟩ := HC.out w2 h2); clear h2)
    go_ret
    exact ⟨ret_i RE.out, HB.out.trans (K2.out.mono HB.out.size)⟩
  have HR2 : Hid (r = _) := hid_of (HR.out.trans (if_neg (by rw [HSF.out]; simp)))
  by_cases h1 : 32 < nn
  · have RE : Hid (6 = r) := hid_of (by rw [HR2.out, if_pos (.inl (by rw [HLK.out, ← HH.out.ln]; exact h1))])
    have l1 : decide (32 < nn) = true := decide_eq_true h1
    have l1i : decide ((32 : Int) < (nn : Int)) = true := decide_eq_true (by omega)
    clear h1
    go_enter Try.func57, Try.ntmps57
    go_wp2_with (go_at_call 83; ((with_reducible refine (FA.out _).mono ?_); (rintro e w2 ⟨rfl, h2⟩)); (have K2 := hid_of h2); (obtain ⟨s0, s1, s2, s3, s4, s5⟩ := HC.out w2 h2); clear h2)
    go_ret
    exact ⟨ret_i RE.out, HB.out.trans (K2.out.mono HB.out.size)⟩
  have l1 : decide (32 < nn) = false := decide_eq_false h1
  have l1i : decide ((32 : Int) < (nn : Int)) = false := decide_eq_false (by omega)
  by_cases h2 : 32 < nr
  · have RE : Hid (6 = r) := hid_of (by rw [HR2.out, if_pos (.inr (by rw [← HH.out.lr]; exact h2))])
    have l2 : decide (32 < nr) = true := decide_eq_true h2
    have l2i : decide ((32 : Int) < (nr : Int)) = true := decide_eq_true (by omega)
    clear h1 h2
    go_enter Try.func57, Try.ntmps57
    go_wp2_with (go_at_call 83; ((with_reducible refine (FA.out _).mono ?_); (rintro e w2 ⟨rfl, h2⟩)); (have K2 := hid_of h2); (obtain ⟨s0, s1, s2, s3, s4, s5⟩ := HC.out w2 h2); clear h2)
    go_ret
    exact ⟨ret_i RE.out, HB.out.trans (K2.out.mono HB.out.size)⟩
  have l2 : decide (32 < nr) = false := decide_eq_false h2
  have l2i : decide ((32 : Int) < (nr : Int)) = false := decide_eq_false (by omega)
  have HR3 : Hid (r = _) := hid_of (HR2.out.trans (if_neg (by rw [HLK.out, ← HH.out.ln, ← HH.out.lr]; omega)))
  have NM := hid_of (fun (wz : World) (hz : Below (w.alloc (.cells #[.int .i64 k, .int .i64 lo, .int .i64 hi, .slice an nn cn, .slice ap np cp, .slice ar nr cr] 26)).heap.size (w.alloc (.cells #[.int .i64 k, .int .i64 lo, .int .i64 hi, .slice an nn cn, .slice ap np cp, .slice ar nr cr] 26)) wz) => rnamed_any t k lo hi an nn cn ap np cp ar nr cr wz (HH.out.at (HB.out.trans (hz.mono HB.out.size))))
  rw [rnamed_eq HSF.out] at NM
  obtain ⟨qn, hqn⟩ : ∃ q, q = (namesB t && rulesB t.ns t.rs) := ⟨_, rfl⟩
  rw [← hqn] at NM HR3
  clear hqn h1 h2
  cases qn
  · have RE : Hid (3 = r) := hid_of (by rw [HR3.out, if_pos rfl])
    go_enter Try.func57, Try.ntmps57
    go_wp2_with (first | (go_at_call 83; ((with_reducible refine (FA.out _).mono ?_); (rintro e w2 ⟨rfl, h2⟩)); (have K2 := hid_of h2); (obtain ⟨s0, s1, s2, s3, s4, s5⟩ := HC.out w2 h2); clear h2) | (go_at_call 84; ((with_reducible refine (NM.out _ K2.out).mono ?_); (rintro e w4 ⟨rfl, h4⟩)); (have K4 := hid_of (K2.out.trans (h4.mono K2.out.size))); (obtain ⟨v0, v1, v2, v3, v4, v5⟩ := HC.out w4 K4.out); clear h4 s0 s1 s2 s3 s4 s5))
    go_ret
    exact ⟨ret_i RE.out, HB.out.trans (K4.out.mono HB.out.size)⟩
  have HR4 : Hid (r = _) := hid_of (HR3.out.trans (if_neg (by simp)))
  by_cases h1 : hi < lo
  · have RE : Hid (5 = r) := hid_of (by rw [HR4.out, if_pos (by rw [← HH.out.hlo, ← HH.out.hhi]; exact .inl h1)])
    have d3 : decide (hi < lo) = true := decide_eq_true h1
    clear h1
    go_enter Try.func57, Try.ntmps57
    go_wp2_with (first | (go_at_call 83; ((with_reducible refine (FA.out _).mono ?_); (rintro e w2 ⟨rfl, h2⟩)); (have K2 := hid_of h2); (obtain ⟨s0, s1, s2, s3, s4, s5⟩ := HC.out w2 h2); clear h2) | (go_at_call 84; ((with_reducible refine (NM.out _ K2.out).mono ?_); (rintro e w4 ⟨rfl, h4⟩)); (have K4 := hid_of (K2.out.trans (h4.mono K2.out.size))); (obtain ⟨v0, v1, v2, v3, v4, v5⟩ := HC.out w4 K4.out); clear h4 s0 s1 s2 s3 s4 s5))
    go_ret
    exact ⟨ret_i RE.out, HB.out.trans (K4.out.mono HB.out.size)⟩
  have d3 : decide (hi < lo) = false := decide_eq_false h1
  by_cases h2 : lo < -1000000000
  · have RE : Hid (5 = r) := hid_of (by rw [HR4.out, if_pos (by rw [← HH.out.hlo, ← HH.out.hhi]; exact .inr (.inl h2))])
    have d4 : decide (lo < -1000000000) = true := decide_eq_true h2
    clear h1 h2
    go_enter Try.func57, Try.ntmps57
    go_wp2_with (first | (go_at_call 83; ((with_reducible refine (FA.out _).mono ?_); (rintro e w2 ⟨rfl, h2⟩)); (have K2 := hid_of h2); (obtain ⟨s0, s1, s2, s3, s4, s5⟩ := HC.out w2 h2); clear h2) | (go_at_call 84; ((with_reducible refine (NM.out _ K2.out).mono ?_); (rintro e w4 ⟨rfl, h4⟩)); (have K4 := hid_of (K2.out.trans (h4.mono K2.out.size))); (obtain ⟨v0, v1, v2, v3, v4, v5⟩ := HC.out w4 K4.out); clear h4 s0 s1 s2 s3 s4 s5))
    go_ret
    exact ⟨ret_i RE.out, HB.out.trans (K4.out.mono HB.out.size)⟩
  have d4 : decide (lo < -1000000000) = false := decide_eq_false h2
  by_cases h3 : 1000000000 < hi
  · have RE : Hid (5 = r) := hid_of (by rw [HR4.out, if_pos (by rw [← HH.out.hlo, ← HH.out.hhi]; exact .inr (.inr h3))])
    have d5 : decide (1000000000 < hi) = true := decide_eq_true h3
    clear h1 h2 h3
    go_enter Try.func57, Try.ntmps57
    go_wp2_with (first | (go_at_call 83; ((with_reducible refine (FA.out _).mono ?_); (rintro e w2 ⟨rfl, h2⟩)); (have K2 := hid_of h2); (obtain ⟨s0, s1, s2, s3, s4, s5⟩ := HC.out w2 h2); clear h2) | (go_at_call 84; ((with_reducible refine (NM.out _ K2.out).mono ?_); (rintro e w4 ⟨rfl, h4⟩)); (have K4 := hid_of (K2.out.trans (h4.mono K2.out.size))); (obtain ⟨v0, v1, v2, v3, v4, v5⟩ := HC.out w4 K4.out); clear h4 s0 s1 s2 s3 s4 s5))
    go_ret
    exact ⟨ret_i RE.out, HB.out.trans (K4.out.mono HB.out.size)⟩
  have d5 : decide (1000000000 < hi) = false := decide_eq_false h3
  have HR5 : Hid (r = _) := hid_of (HR4.out.trans (if_neg (by rw [← HH.out.hlo, ← HH.out.hhi]; omega)))
  clear h1 h2 h3
  by_cases h7 : k = 7
  case neg =>
    have RE : Hid (0 = r) := hid_of (by rw [HR5.out, if_neg (by rw [← HH.out.hk]; exact fun h => h7 h.1)])
    have e7 : (k == 7) = false := beq_eq_false_iff_ne.2 h7
    clear h7
    go_enter Try.func57, Try.ntmps57
    go_wp2_with (first | (go_at_call 83; ((with_reducible refine (FA.out _).mono ?_); (rintro e w2 ⟨rfl, h2⟩)); (have K2 := hid_of h2); (obtain ⟨s0, s1, s2, s3, s4, s5⟩ := HC.out w2 h2); clear h2) | (go_at_call 84; ((with_reducible refine (NM.out _ K2.out).mono ?_); (rintro e w4 ⟨rfl, h4⟩)); (have K4 := hid_of (K2.out.trans (h4.mono K2.out.size))); (obtain ⟨v0, v1, v2, v3, v4, v5⟩ := HC.out w4 K4.out); clear h4 s0 s1 s2 s3 s4 s5))
    go_ret
    exact ⟨ret_i RE.out, HB.out.trans (K4.out.mono HB.out.size)⟩
  subst h7
  have hsh := HSF.out
  obtain ⟨p0, p1, hps⟩ : ∃ p0 p1, t.ps = [p0, p1] := by
    have h2 : t.ps.length = 2 := by
      unfold shapeB at hsh
      simp only [← HH.out.hk] at hsh
      have := of_decide_eq_true hsh
      exact this.2.2.2.1
    match hm : t.ps, h2 with
    | [a, b], _ => exact ⟨a, b, rfl⟩
  have h2 : np = 2 := by rw [HH.out.lp, hps]; rfl
  subst h2
  obtain ⟨g, o, kA, loA, hiA, anA, nnA, cnA, apA, npA, cpA, arA, nrA, crA, rfl, LA, hcA⟩ := HH.out.p.get (show t.ps[0]? = some p0 by rw [hps]; rfl)
  have CH := hid_of (fun (wz : World) (hz : Below (w.alloc (.cells #[.int .i64 7, .int .i64 lo, .int .i64 hi, .slice an nn cn, .slice (some ⟨g, o, none⟩) 2 cp, .slice ar nr cr] 26)).heap.size (w.alloc (.cells #[.int .i64 7, .int .i64 lo, .int .i64 hi, .slice an nn cn, .slice (some ⟨g, o, none⟩) 2 cp, .slice ar nr cr] 26)) wz) => rchain_any p0 kA loA hiA anA nnA cnA apA npA cpA arA nrA crA wz (LA.at (HB.out.trans (hz.mono HB.out.size))))
  have HCA : Hid (∀ wz, Below (w.alloc (.cells #[.int .i64 7, .int .i64 lo, .int .i64 hi, .slice an nn cn, .slice (some ⟨g, o, none⟩) 2 cp, .slice ar nr cr] 26)).heap.size (w.alloc (.cells #[.int .i64 7, .int .i64 lo, .int .i64 hi, .slice an nn cn, .slice (some ⟨g, o, none⟩) 2 cp, .slice ar nr cr] 26)) wz → _) := hid_of (fun wz hz => hcA wz (HB.out.trans (hz.mono HB.out.size)))
  simp only [Nat.zero_mul, Nat.add_zero] at HCA
  have hch : chainsL (t.ps.take 1) = chainL p0 := by rw [hps, chainsL_all]; simp
  obtain ⟨qc, hqc⟩ : ∃ q, q = chainL p0 := ⟨_, rfl⟩
  rw [hch, ← hqc] at HR5
  rw [← hqc] at CH
  clear hqc hch hps hsh hcA LA
  cases qc
  · have RE : Hid (4 = r) := hid_of (by rw [HR5.out, if_pos (by rw [← HH.out.hk]; exact ⟨rfl, rfl⟩)])
    go_enter Try.func57, Try.ntmps57
    go_wp2_with (first | (go_at_call 83; ((with_reducible refine (FA.out _).mono ?_); (rintro e w2 ⟨rfl, h2⟩)); (have K2 := hid_of h2); (obtain ⟨s0, s1, s2, s3, s4, s5⟩ := HC.out w2 h2); clear h2) | (go_at_call 84; ((with_reducible refine (NM.out _ K2.out).mono ?_); (rintro e w4 ⟨rfl, h4⟩)); (have K4 := hid_of (K2.out.trans (h4.mono K2.out.size))); (obtain ⟨v0, v1, v2, v3, v4, v5⟩ := HC.out w4 K4.out); (obtain ⟨y0, y1, y2, y3, y4, y5⟩ := HCA.out w4 K4.out); clear h4 s0 s1 s2 s3 s4 s5) | (go_at_call 17; ((with_reducible refine (CH.out _ K4.out).mono ?_); (rintro e w6 ⟨rfl, h6⟩)); (have K6 := hid_of (K4.out.trans (h6.mono K4.out.size))); clear h6))
    go_ret
    exact ⟨ret_i RE.out, HB.out.trans (K6.out.mono HB.out.size)⟩
  · have RE : Hid (0 = r) := hid_of (by rw [HR5.out, if_neg (by simp)])
    go_enter Try.func57, Try.ntmps57
    go_wp2_with (first | (go_at_call 83; ((with_reducible refine (FA.out _).mono ?_); (rintro e w2 ⟨rfl, h2⟩)); (have K2 := hid_of h2); (obtain ⟨s0, s1, s2, s3, s4, s5⟩ := HC.out w2 h2); clear h2) | (go_at_call 84; ((with_reducible refine (NM.out _ K2.out).mono ?_); (rintro e w4 ⟨rfl, h4⟩)); (have K4 := hid_of (K2.out.trans (h4.mono K2.out.size))); (obtain ⟨v0, v1, v2, v3, v4, v5⟩ := HC.out w4 K4.out); (obtain ⟨y0, y1, y2, y3, y4, y5⟩ := HCA.out w4 K4.out); clear h4 s0 s1 s2 s3 s4 s5) | (go_at_call 17; ((with_reducible refine (CH.out _ K4.out).mono ?_); (rintro e w6 ⟨rfl, h6⟩)); (have K6 := hid_of (K4.out.trans (h6.mono K4.out.size))); clear h6))
    go_ret
    exact ⟨ret_i RE.out, HB.out.trans (K6.out.mono HB.out.size)⟩
theorem rnode_any (t : Lat) (k lo hi : Int) (an : Option Addr) (nn cn : Nat) (ap : Option Addr) (np cp : Nat) (ar : Option Addr) (nr cr : Nat) (d c : Nat) (w : World) (H : LO w k lo hi an nn cn ap np cp ar nr cr t) (hd : d ≤ 9) (hc : c ≤ 64) : Calls Try.prog 57 #[.agg #[.int .i64 k, .int .i64 lo, .int .i64 hi, .slice an nn cn, .slice ap np cp, .slice ar nr cr], .int .i64 (d : Nat), .int .i64 (c : Nat)] w (ErP (rnodeE t d c) w) := by
  by_cases h6 : k = 6
  · exact rnode6 t k lo hi an nn cn ap np cp ar nr cr d c w H hd hc h6
  by_cases h10 : k = 10
  · exact rnode10 t k lo hi an nn cn ap np cp ar nr cr d c w H hd hc h10
  exact rnodeX t k lo hi an nn cn ap np cp ar nr cr d c w H hd hc ⟨h6, h10⟩
end Go.Proofs.Ytilokloemcphbaa
