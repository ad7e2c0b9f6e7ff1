/- checkNode of package lattice. Bounds on sizes alone. -/
import Derived.Test.YtoogcafceghdjaaLatFld
namespace Go.Proofs.Ytoogcafceghdjaa
open Go.RowKit

def ErP (r : Int) (w : World) (e : Ending) (w' : World) : Prop := e = .returned (.int .i64 r) ∧ Below w.heap.size w w'
theorem ret_i {a b : Int} (h : a = b) : Ending.returned (.int .i64 a) = .returned (.int .i64 b) := by rw [h]
theorem box6 {w w' : World} (k lo hi : Int) (an : Option Addr) (nn cn : Nat) (ap : Option Addr) (np cp : Nat) (ar : Option Addr) (nr cr : Nat) (h : Below (w.alloc (.cells #[.int .i64 k, .int .i64 lo, .int .i64 hi, .slice an nn cn, .slice ap np cp, .slice ar nr cr] 26)).heap.size (w.alloc (.cells #[.int .i64 k, .int .i64 lo, .int .i64 hi, .slice an nn cn, .slice ap np cp, .slice ar nr cr] 26)) w') : w'.cell? ⟨w.heap.size, 0, none⟩ = some (.int .i64 k) ∧ w'.cell? ⟨w.heap.size, 1, none⟩ = some (.int .i64 lo) ∧ w'.cell? ⟨w.heap.size, 2, none⟩ = some (.int .i64 hi) ∧ w'.cell? ⟨w.heap.size, 3, none⟩ = some (.slice an nn cn) ∧ w'.cell? ⟨w.heap.size, 4, none⟩ = some (.slice ap np cp) ∧ w'.cell? ⟨w.heap.size, 5, none⟩ = some (.slice ar nr cr) :=
  ⟨blk_kept (cs := [.int .i64 k, .int .i64 lo, .int .i64 hi, .slice an nn cn, .slice ap np cp, .slice ar nr cr]) (heap_alloc_new w _) h rfl, blk_kept (cs := [.int .i64 k, .int .i64 lo, .int .i64 hi, .slice an nn cn, .slice ap np cp, .slice ar nr cr]) (heap_alloc_new w _) h rfl, blk_kept (cs := [.int .i64 k, .int .i64 lo, .int .i64 hi, .slice an nn cn, .slice ap np cp, .slice ar nr cr]) (heap_alloc_new w _) h rfl, blk_kept (cs := [.int .i64 k, .int .i64 lo, .int .i64 hi, .slice an nn cn, .slice ap np cp, .slice ar nr cr]) (heap_alloc_new w _) h rfl, blk_kept (cs := [.int .i64 k, .int .i64 lo, .int .i64 hi, .slice an nn cn, .slice ap np cp, .slice ar nr cr]) (heap_alloc_new w _) h rfl, blk_kept (cs := [.int .i64 k, .int .i64 lo, .int .i64 hi, .slice an nn cn, .slice ap np cp, .slice ar nr cr]) (heap_alloc_new w _) h rfl⟩
set_option maxRecDepth 100000 in
set_option maxHeartbeats 6400000 in
theorem node_any (t : Lat) (k lo hi : Int) (an : Option Addr) (nn cn : Nat) (ap : Option Addr) (np cp : Nat) (ar : Option Addr) (nr cr : Nat) (w : World) (H : LO w k lo hi an nn cn ap np cp ar nr cr t) : Calls Try.prog 34 #[.agg #[.int .i64 k, .int .i64 lo, .int .i64 hi, .slice an nn cn, .slice ap np cp, .slice ar nr cr]] w (ErP (nodeE t) w) := by
  obtain ⟨r, hr⟩ : ∃ r, r = nodeE t := ⟨_, rfl⟩
  rw [← hr]
  have HR : Hid (r = _) := hid_of (hr.trans (nodeE.eq_1 t))
  have HB := hid_of (bel_alloc w (.cells #[.int .i64 k, .int .i64 lo, .int .i64 hi, .slice an nn cn, .slice ap np cp, .slice ar nr cr] 26))
  have HC : Hid (∀ w', Below (w.alloc (.cells #[.int .i64 k, .int .i64 lo, .int .i64 hi, .slice an nn cn, .slice ap np cp, .slice ar nr cr] 26)).heap.size (w.alloc (.cells #[.int .i64 k, .int .i64 lo, .int .i64 hi, .slice an nn cn, .slice ap np cp, .slice ar nr cr] 26)) w' → _) := hid_of (fun w' h => box6 k lo hi an nn cn ap np cp ar nr cr h)
  have LI : Hid (∀ w, Calls Try.prog 64 #[.int .i64 k] w fun e w' => e = .returned (.int .i64 (limL k : Nat)) ∧ w' = w) := hid_of (fun w => (limit_any k w).mono fun _ _ h => ⟨h.1, h.2.symm⟩)
  have FA := hid_of (fun w => fields_any k lo hi an nn cn ap np cp ar nr cr w)
  have hsf : shapeB t = fieldsB k lo hi nn np nr := by rw [shape_fields, H.hk, H.hlo, H.hhi, H.ln, H.lp, H.lr]
  obtain ⟨qf, hqf⟩ : ∃ q, q = fieldsB k lo hi nn np nr := ⟨_, rfl⟩
  rw [← hqf] at hsf FA
  have HSF := hid_of hsf
  have hcn : nn ≤ 9223372036854775807 := by have := rds_open H.n; omega
  have hcr : nr ≤ 9223372036854775807 := by have := H.r.len; omega
  have hcp : np ≤ 9223372036854775807 := by have := H.p.len; omega
  have HH := hid_of H
  clear hr hqf hsf H
  cases qf
  · have RE : Hid (1 = r) := hid_of (by rw [HR.out, if_pos HSF.out])
    go_enter Try.func34, Try.ntmps34
    go_wp2_with (go_at_call 63; ((with_reducible refine (FA.out _).mono ?_); (rintro e w2 ⟨rfl, h2⟩)); (have K2 := hid_of h2); (obtain ⟨s0, s1, s2, s3, s4, s5⟩ := HC.out w2 h2); clear h2)
    go_ret
    exact ⟨ret_i RE.out, HB.out.trans (K2.out.mono HB.out.size)⟩
  have HR2 : Hid (r = _) := hid_of (HR.out.trans (if_neg (by rw [HSF.out]; simp)))
  obtain ⟨L, hL⟩ : ∃ L, L = limL k := ⟨_, rfl⟩
  rw [← hL] at LI
  have HL := hid_of hL
  have hL9 : L ≤ 32 := by rw [hL]; unfold limL; split <;> (try split) <;> omega
  clear hL
  by_cases h1 : L < nn
  · have RE : Hid (6 = r) := hid_of (by rw [HR2.out, if_pos (.inl (by rw [← HH.out.hk, ← HL.out, ← HH.out.ln]; exact h1))])
    have d1 : decide (L < nn) = true := decide_eq_true h1
    have d2 : decide ((L : Int) < (nn : Int)) = true := decide_eq_true (by omega)
    go_enter Try.func34, Try.ntmps34
    go_wp2_with (go_at_call 63; ((with_reducible refine (FA.out _).mono ?_); (rintro e w2 ⟨rfl, h2⟩)); (have K2 := hid_of h2); (obtain ⟨s0, s1, s2, s3, s4, s5⟩ := HC.out w2 h2); clear h2)
    go_quiet ((go_at_call 64; exact Calls.quiet_of_same (LI.out _)))
    go_wp2
    go_ret
    exact ⟨ret_i RE.out, HB.out.trans ((bel_drewN K2.out nq).mono HB.out.size)⟩
  have d1 : decide (L < nn) = false := decide_eq_false h1
  have d1i : decide ((L : Int) < (nn : Int)) = false := decide_eq_false (by omega)
  have h32 : nn ≤ 32 := by omega
  by_cases h2 : 32 < nr
  · have RE : Hid (6 = r) := hid_of (by rw [HR2.out, if_pos (.inr (by rw [← HH.out.lr]; exact h2))])
    have d2 : decide (32 < nr) = true := decide_eq_true h2
    have d2i : decide ((32 : Int) < (nr : Int)) = true := decide_eq_true (by omega)
    go_enter Try.func34, Try.ntmps34
    go_wp2_with (go_at_call 63; ((with_reducible refine (FA.out _).mono ?_); (rintro e w2 ⟨rfl, h2⟩)); (have K2 := hid_of h2); (obtain ⟨s0, s1, s2, s3, s4, s5⟩ := HC.out w2 h2); clear h2)
    go_quiet ((go_at_call 64; exact Calls.quiet_of_same (LI.out _)))
    go_wp2
    go_ret
    exact ⟨ret_i RE.out, HB.out.trans ((bel_drewN K2.out nq).mono HB.out.size)⟩
  have d2 : decide (32 < nr) = false := decide_eq_false h2
  have d2i : decide ((32 : Int) < (nr : Int)) = false := decide_eq_false (by omega)
  have HR3 : Hid (r = _) := hid_of (HR2.out.trans (if_neg (by rw [← HH.out.hk, ← HL.out, ← HH.out.ln, ← HH.out.lr]; omega)))
  have NM := hid_of (fun (wz : World) (hz : Below (w.alloc (.cells #[.int .i64 k, .int .i64 lo, .int .i64 hi, .slice an nn cn, .slice ap np cp, .slice ar nr cr] 26)).heap.size (w.alloc (.cells #[.int .i64 k, .int .i64 lo, .int .i64 hi, .slice an nn cn, .slice ap np cp, .slice ar nr cr] 26)) wz) => named_any t k lo hi an nn cn ap np cp ar nr cr wz (HH.out.at (HB.out.trans (hz.mono HB.out.size))) (by omega))
  have RU := hid_of (fun (wz : World) (hz : Below (w.alloc (.cells #[.int .i64 k, .int .i64 lo, .int .i64 hi, .slice an nn cn, .slice ap np cp, .slice ar nr cr] 26)).heap.size (w.alloc (.cells #[.int .i64 k, .int .i64 lo, .int .i64 hi, .slice an nn cn, .slice ap np cp, .slice ar nr cr] 26)) wz) => rules_any t.ns t.rs an nn cn ar nr cr wz (HH.out.n.at (HB.out.trans (hz.mono HB.out.size))) (HH.out.r.at (HB.out.trans (hz.mono HB.out.size))) HH.out.on HH.out.or)
  obtain ⟨qn, hqn⟩ : ∃ q, q = namesB t := ⟨_, rfl⟩
  obtain ⟨qr, hqr⟩ : ∃ q, q = rulesB t.ns t.rs := ⟨_, rfl⟩
  rw [← hqn] at NM HR3
  rw [← hqr] at RU HR3
  clear hqn hqr h1 h2
  cases qn
  · have RE : Hid (3 = r) := hid_of (by rw [HR3.out, if_pos (by simp)])
    go_enter Try.func34, Try.ntmps34
    go_wp2_with (go_at_call 63; ((with_reducible refine (FA.out _).mono ?_); (rintro e w2 ⟨rfl, h2⟩)); (have K2 := hid_of h2); (obtain ⟨s0, s1, s2, s3, s4, s5⟩ := HC.out w2 h2); clear h2)
    go_quiet ((go_at_call 64; exact Calls.quiet_of_same (LI.out _)))
    go_wp2_with (first | (go_at_call 65; ((with_reducible refine (NM.out _ (bel_drewN K2.out _)).mono ?_); (rintro e w4 ⟨rfl, h4⟩)); (have K4 := hid_of ((bel_drewN K2.out nq).trans (h4.mono K2.out.size))); (obtain ⟨v0, v1, v2, v3, v4, v5⟩ := HC.out w4 K4.out); clear h4 s0 s1 s2 s3 s4 s5))
    go_ret
    exact ⟨ret_i RE.out, HB.out.trans (K4.out.mono HB.out.size)⟩
  cases qr
  · have RE : Hid (3 = r) := hid_of (by rw [HR3.out, if_pos (by simp)])
    go_enter Try.func34, Try.ntmps34
    go_wp2_with (go_at_call 63; ((with_reducible refine (FA.out _).mono ?_); (rintro e w2 ⟨rfl, h2⟩)); (have K2 := hid_of h2); (obtain ⟨s0, s1, s2, s3, s4, s5⟩ := HC.out w2 h2); clear h2)
    go_quiet ((go_at_call 64; exact Calls.quiet_of_same (LI.out _)))
    go_wp2_with (first | (go_at_call 65; ((with_reducible refine (NM.out _ (bel_drewN K2.out _)).mono ?_); (rintro e w4 ⟨rfl, h4⟩)); (have K4 := hid_of ((bel_drewN K2.out nq).trans (h4.mono K2.out.size))); (obtain ⟨v0, v1, v2, v3, v4, v5⟩ := HC.out w4 K4.out); clear h4 s0 s1 s2 s3 s4 s5) | (go_at_call 66; ((with_reducible refine (RU.out _ K4.out).mono ?_); (rintro e w5 ⟨rfl, h5⟩)); (have K5 := hid_of (K4.out.trans (h5.mono K4.out.size))); (obtain ⟨x0, x1, x2, x3, x4, x5⟩ := HC.out w5 K5.out); clear h5 v0 v1 v2 v3 v4 v5))
    go_ret
    exact ⟨ret_i RE.out, HB.out.trans (K5.out.mono HB.out.size)⟩
  have HR4 : Hid (r = _) := hid_of (HR3.out.trans (if_neg (by simp)))
  by_cases h1 : hi < lo
  · have RE : Hid (5 = r) := hid_of (by rw [HR4.out, if_pos (by rw [← HH.out.hlo, ← HH.out.hhi]; exact .inl h1)])
    have d3 : decide (hi < lo) = true := decide_eq_true h1
    go_enter Try.func34, Try.ntmps34
    go_wp2_with (go_at_call 63; ((with_reducible refine (FA.out _).mono ?_); (rintro e w2 ⟨rfl, h2⟩)); (have K2 := hid_of h2); (obtain ⟨s0, s1, s2, s3, s4, s5⟩ := HC.out w2 h2); clear h2)
    go_quiet ((go_at_call 64; exact Calls.quiet_of_same (LI.out _)))
    go_wp2_with (first | (go_at_call 65; ((with_reducible refine (NM.out _ (bel_drewN K2.out _)).mono ?_); (rintro e w4 ⟨rfl, h4⟩)); (have K4 := hid_of ((bel_drewN K2.out nq).trans (h4.mono K2.out.size))); (obtain ⟨v0, v1, v2, v3, v4, v5⟩ := HC.out w4 K4.out); clear h4 s0 s1 s2 s3 s4 s5) | (go_at_call 66; ((with_reducible refine (RU.out _ K4.out).mono ?_); (rintro e w5 ⟨rfl, h5⟩)); (have K5 := hid_of (K4.out.trans (h5.mono K4.out.size))); (obtain ⟨x0, x1, x2, x3, x4, x5⟩ := HC.out w5 K5.out); clear h5 v0 v1 v2 v3 v4 v5))
    go_ret
    exact ⟨ret_i RE.out, HB.out.trans (K5.out.mono HB.out.size)⟩
  have d3 : decide (hi < lo) = false := decide_eq_false h1
  by_cases h2 : lo < -1000000000
  · have RE : Hid (5 = r) := hid_of (by rw [HR4.out, if_pos (by rw [← HH.out.hlo, ← HH.out.hhi]; exact .inr (.inl h2))])
    have d4 : decide (lo < -1000000000) = true := decide_eq_true h2
    go_enter Try.func34, Try.ntmps34
    go_wp2_with (go_at_call 63; ((with_reducible refine (FA.out _).mono ?_); (rintro e w2 ⟨rfl, h2⟩)); (have K2 := hid_of h2); (obtain ⟨s0, s1, s2, s3, s4, s5⟩ := HC.out w2 h2); clear h2)
    go_quiet ((go_at_call 64; exact Calls.quiet_of_same (LI.out _)))
    go_wp2_with (first | (go_at_call 65; ((with_reducible refine (NM.out _ (bel_drewN K2.out _)).mono ?_); (rintro e w4 ⟨rfl, h4⟩)); (have K4 := hid_of ((bel_drewN K2.out nq).trans (h4.mono K2.out.size))); (obtain ⟨v0, v1, v2, v3, v4, v5⟩ := HC.out w4 K4.out); clear h4 s0 s1 s2 s3 s4 s5) | (go_at_call 66; ((with_reducible refine (RU.out _ K4.out).mono ?_); (rintro e w5 ⟨rfl, h5⟩)); (have K5 := hid_of (K4.out.trans (h5.mono K4.out.size))); (obtain ⟨x0, x1, x2, x3, x4, x5⟩ := HC.out w5 K5.out); clear h5 v0 v1 v2 v3 v4 v5))
    go_ret
    exact ⟨ret_i RE.out, HB.out.trans (K5.out.mono HB.out.size)⟩
  have d4 : decide (lo < -1000000000) = false := decide_eq_false h2
  by_cases h3 : 1000000000 < hi
  · have RE : Hid (5 = r) := hid_of (by rw [HR4.out, if_pos (by rw [← HH.out.hlo, ← HH.out.hhi]; exact .inr (.inr h3))])
    have d5 : decide (1000000000 < hi) = true := decide_eq_true h3
    go_enter Try.func34, Try.ntmps34
    go_wp2_with (go_at_call 63; ((with_reducible refine (FA.out _).mono ?_); (rintro e w2 ⟨rfl, h2⟩)); (have K2 := hid_of h2); (obtain ⟨s0, s1, s2, s3, s4, s5⟩ := HC.out w2 h2); clear h2)
    go_quiet ((go_at_call 64; exact Calls.quiet_of_same (LI.out _)))
    go_wp2_with (first | (go_at_call 65; ((with_reducible refine (NM.out _ (bel_drewN K2.out _)).mono ?_); (rintro e w4 ⟨rfl, h4⟩)); (have K4 := hid_of ((bel_drewN K2.out nq).trans (h4.mono K2.out.size))); (obtain ⟨v0, v1, v2, v3, v4, v5⟩ := HC.out w4 K4.out); clear h4 s0 s1 s2 s3 s4 s5) | (go_at_call 66; ((with_reducible refine (RU.out _ K4.out).mono ?_); (rintro e w5 ⟨rfl, h5⟩)); (have K5 := hid_of (K4.out.trans (h5.mono K4.out.size))); (obtain ⟨x0, x1, x2, x3, x4, x5⟩ := HC.out w5 K5.out); clear h5 v0 v1 v2 v3 v4 v5))
    go_ret
    exact ⟨ret_i RE.out, HB.out.trans (K5.out.mono HB.out.size)⟩
  have d5 : decide (1000000000 < hi) = false := decide_eq_false h3
  have HR5 : Hid (r = _) := hid_of (HR4.out.trans (if_neg (by rw [← HH.out.hlo, ← HH.out.hhi]; omega)))
  clear h1 h2 h3
  by_cases h7 : k = 7
  case neg =>
    have RE : Hid (0 = r) := hid_of (by rw [HR5.out, if_neg (by rw [← HH.out.hk]; exact fun h => h7 h.1)])
    have e7 : (k == 7) = false := beq_eq_false_iff_ne.2 h7
    go_enter Try.func34, Try.ntmps34
    go_wp2_with (go_at_call 63; ((with_reducible refine (FA.out _).mono ?_); (rintro e w2 ⟨rfl, h2⟩)); (have K2 := hid_of h2); (obtain ⟨s0, s1, s2, s3, s4, s5⟩ := HC.out w2 h2); clear h2)
    go_quiet ((go_at_call 64; exact Calls.quiet_of_same (LI.out _)))
    go_wp2_with (first | (go_at_call 65; ((with_reducible refine (NM.out _ (bel_drewN K2.out _)).mono ?_); (rintro e w4 ⟨rfl, h4⟩)); (have K4 := hid_of ((bel_drewN K2.out nq).trans (h4.mono K2.out.size))); (obtain ⟨v0, v1, v2, v3, v4, v5⟩ := HC.out w4 K4.out); clear h4 s0 s1 s2 s3 s4 s5) | (go_at_call 66; ((with_reducible refine (RU.out _ K4.out).mono ?_); (rintro e w5 ⟨rfl, h5⟩)); (have K5 := hid_of (K4.out.trans (h5.mono K4.out.size))); (obtain ⟨x0, x1, x2, x3, x4, x5⟩ := HC.out w5 K5.out); clear h5 v0 v1 v2 v3 v4 v5))
    go_ret
    exact ⟨ret_i RE.out, HB.out.trans (K5.out.mono HB.out.size)⟩
  subst h7
  have hsh := HSF.out
  obtain ⟨p0, p1, hps⟩ : ∃ p0 p1, t.ps = [p0, p1] := by
    have h2 : t.ps.length = 2 := by
      unfold shapeB at hsh
      simp only [← HH.out.hk] at hsh
      have := of_decide_eq_true hsh
      exact this.2.2.2.1
    match hm : t.ps, h2 with
    | [a, b], _ => exact ⟨a, b, rfl⟩
  have h2 : np = 2 := by rw [HH.out.lp, hps]; rfl
  subst h2
  obtain ⟨g, o, kA, loA, hiA, anA, nnA, cnA, apA, npA, cpA, arA, nrA, crA, rfl, LA, hcA⟩ := HH.out.p.get (show t.ps[0]? = some p0 by rw [hps]; rfl)
  have CH := hid_of (fun (wz : World) (hz : Below (w.alloc (.cells #[.int .i64 7, .int .i64 lo, .int .i64 hi, .slice an nn cn, .slice (some ⟨g, o, none⟩) 2 cp, .slice ar nr cr] 26)).heap.size (w.alloc (.cells #[.int .i64 7, .int .i64 lo, .int .i64 hi, .slice an nn cn, .slice (some ⟨g, o, none⟩) 2 cp, .slice ar nr cr] 26)) wz) => chain_any p0 kA loA hiA anA nnA cnA apA npA cpA arA nrA crA wz (LA.at (HB.out.trans (hz.mono HB.out.size))))
  have HCA : Hid (∀ wz, Below (w.alloc (.cells #[.int .i64 7, .int .i64 lo, .int .i64 hi, .slice an nn cn, .slice (some ⟨g, o, none⟩) 2 cp, .slice ar nr cr] 26)).heap.size (w.alloc (.cells #[.int .i64 7, .int .i64 lo, .int .i64 hi, .slice an nn cn, .slice (some ⟨g, o, none⟩) 2 cp, .slice ar nr cr] 26)) wz → _) := hid_of (fun wz hz => hcA wz (HB.out.trans (hz.mono HB.out.size)))
  simp only [Nat.zero_mul, Nat.add_zero] at HCA
  have hch : chainsL (t.ps.take 1) = chainL p0 := by rw [hps, chainsL_all]; simp
  obtain ⟨qc, hqc⟩ : ∃ q, q = chainL p0 := ⟨_, rfl⟩
  rw [hch, ← hqc] at HR5
  rw [← hqc] at CH
  clear hqc hch hps hsh hcA LA
  cases qc
  · have RE : Hid (4 = r) := hid_of (by rw [HR5.out, if_pos (by rw [← HH.out.hk]; exact ⟨rfl, rfl⟩)])
    go_enter Try.func34, Try.ntmps34
    go_wp2_with (go_at_call 63; ((with_reducible refine (FA.out _).mono ?_); (rintro e w2 ⟨rfl, h2⟩)); (have K2 := hid_of h2); (obtain ⟨s0, s1, s2, s3, s4, s5⟩ := HC.out w2 h2); clear h2)
    go_quiet ((go_at_call 64; exact Calls.quiet_of_same (LI.out _)))
    go_wp2_with (first | (go_at_call 65; ((with_reducible refine (NM.out _ (bel_drewN K2.out _)).mono ?_); (rintro e w4 ⟨rfl, h4⟩)); (have K4 := hid_of ((bel_drewN K2.out nq).trans (h4.mono K2.out.size))); (obtain ⟨v0, v1, v2, v3, v4, v5⟩ := HC.out w4 K4.out); clear h4 s0 s1 s2 s3 s4 s5) | (go_at_call 66; ((with_reducible refine (RU.out _ K4.out).mono ?_); (rintro e w5 ⟨rfl, h5⟩)); (have K5 := hid_of (K4.out.trans (h5.mono K4.out.size))); (obtain ⟨x0, x1, x2, x3, x4, x5⟩ := HC.out w5 K5.out); (obtain ⟨y0, y1, y2, y3, y4, y5⟩ := HCA.out w5 K5.out); clear h5 v0 v1 v2 v3 v4 v5) | (go_at_call 16; ((with_reducible refine (CH.out _ K5.out).mono ?_); (rintro e w6 ⟨rfl, h6⟩)); (have K6 := hid_of (K5.out.trans (h6.mono K5.out.size))); clear h6))
    go_ret
    exact ⟨ret_i RE.out, HB.out.trans (K6.out.mono HB.out.size)⟩
  · have RE : Hid (0 = r) := hid_of (by rw [HR5.out, if_neg (by simp)])
    go_enter Try.func34, Try.ntmps34
    go_wp2_with (go_at_call 63; ((with_reducible refine (FA.out _).mono ?_); (rintro e w2 ⟨rfl, h2⟩)); (have K2 := hid_of h2); (obtain ⟨s0, s1, s2, s3, s4, s5⟩ := HC.out w2 h2); clear h2)
    go_quiet ((go_at_call 64; exact Calls.quiet_of_same (LI.out _)))
    go_wp2_with (first | (go_at_call 65; ((with_reducible refine (NM.out _ (bel_drewN K2.out _)).mono ?_); (rintro e w4 ⟨rfl, h4⟩)); (have K4 := hid_of ((bel_drewN K2.out nq).trans (h4.mono K2.out.size))); (obtain ⟨v0, v1, v2, v3, v4, v5⟩ := HC.out w4 K4.out); clear h4 s0 s1 s2 s3 s4 s5) | (go_at_call 66; ((with_reducible refine (RU.out _ K4.out).mono ?_); (rintro e w5 ⟨rfl, h5⟩)); (have K5 := hid_of (K4.out.trans (h5.mono K4.out.size))); (obtain ⟨x0, x1, x2, x3, x4, x5⟩ := HC.out w5 K5.out); (obtain ⟨y0, y1, y2, y3, y4, y5⟩ := HCA.out w5 K5.out); clear h5 v0 v1 v2 v3 v4 v5) | (go_at_call 16; ((with_reducible refine (CH.out _ K5.out).mono ?_); (rintro e w6 ⟨rfl, h6⟩)); (have K6 := hid_of (K5.out.trans (h6.mono K5.out.size))); clear h6))
    go_ret
    exact ⟨ret_i RE.out, HB.out.trans (K6.out.mono HB.out.size)⟩
end Go.Proofs.Ytoogcafceghdjaa
