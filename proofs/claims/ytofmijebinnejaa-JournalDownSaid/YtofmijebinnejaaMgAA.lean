/- Texts in one: JrL4. -/
import Derived.Test.YtofmijebinnejaaMgCA
set_option linter.unusedVariables false
set_option linter.unusedSimpArgs false
/- The law Again. Bounds on sizes alone. -/
namespace Go.Proofs.Ytofmijebinnejaa
open Go.RowKit
set_option maxRecDepth 100000
set_option maxHeartbeats 12800000

theorem again_law (x y : Int) (a : Option Addr) (len cap : Nat) (l : List JX) (a3 : Option Addr) (len3 cap3 : Nat) (l3 : List JX) (f f2 : Int) (ka : Option Addr) (kn kc : Nat) (kl : List Bool) (ra : Option Addr) (rn rc : Nat) (rl : List Bool) (w : World) (w0 : (Lit.int .u8 x).wf = true) (w1 : (Lit.int .u8 y).wf = true) (w2 : JsIn w.heap.size w a len cap l) (w3 : JsIn w.heap.size w a3 len3 cap3 l3) (w4 : (Lit.int .u8 f).wf = true) (w5 : (Lit.int .u8 f2).wf = true) (w6 : Rd w (.slice ka kn kc) (bls kl)) (w7 : Rd w (.slice ra rn rc) (bls rl)) :
    Calls Try.prog 7 #[.int .u8 x, .int .u8 y, .slice a len cap, .slice a3 len3 cap3, .int .u8 f, .int .u8 f2, .slice ka kn kc, .slice ra rn rc] w (BoP true w) := by
  obtain ⟨x, rfl, hx⟩ := lw_num w0
  obtain ⟨y, rfl, hy⟩ := lw_num w1
  clear w0 w1
  obtain ⟨f, rfl, hf⟩ := lw_num w4
  obtain ⟨f2, rfl, hf2⟩ := lw_num w5
  clear w4 w5
  obtain ⟨fb, hfb, CF⟩ := few_any w.heap.size a len cap l w w2
  obtain ⟨fb2, hfb2, CF2⟩ := few_any w.heap.size a3 len3 cap3 l3 w w3
  have HCF := hid_of CF
  have HCF2 := hid_of CF2
  have AW := hid_of (fun w => awake_any w)
  have hkc := (rd_cut w6).2
  have hrc := (rd_cut w7).2
  have kn9 : kn ≤ 9223372036854775807 := by omega
  have rn9 : rn ≤ 9223372036854775807 := by omega
  by_cases hfa : fb = false ∨ fb2 = false
  · have hkn : decide (100 < kn) = true ∨ decide (100 < kn) = false := by cases decide (100 < kn); exact Or.inr rfl; exact Or.inl rfl
    clear CF CF2 w2 w3 w6 w7 hfb hfb2 hkn
    cases fb
    case' true => obtain rfl : fb2 = false := by (rcases hfa with h | h; (cases h); exact h)
    all_goals go_enter Try.func7, Try.ntmps7
    all_goals go_wp2_with (first
      | (go_at_call 11; ((with_reducible refine (HCF.out).mono ?_); (rintro e w1 ⟨rfl, rfl⟩)))
      | (go_at_call 11; ((with_reducible refine (HCF2.out).mono ?_); (rintro e w1 ⟨rfl, rfl⟩)))
      | (go_at_call 12; ((with_reducible refine (AW.out _).mono ?_); (rintro e w2 ⟨rfl, h1⟩)); (have E2 := hid_of h1); clear h1))
    all_goals go_ret
    all_goals exact ⟨rfl, E2.out⟩
  obtain rfl : fb = true := by cases fb; exact absurd (Or.inl rfl) hfa; rfl
  obtain rfl : fb2 = true := by cases fb2; exact absurd (Or.inr rfl) hfa; rfl
  clear hfa
  by_cases hk : 100 < kn
  · have k1 : decide ((kn : Int) > 100) = true := decide_eq_true (by omega)
    have k2 : decide (100 < kn) = true := decide_eq_true hk
    clear CF CF2 w2 w3 w6 w7 hfb hfb2
    all_goals go_enter Try.func7, Try.ntmps7
    all_goals go_wp2_with (first
      | (go_at_call 11; ((with_reducible refine (HCF.out).mono ?_); (rintro e w1 ⟨rfl, rfl⟩)))
      | (go_at_call 11; ((with_reducible refine (HCF2.out).mono ?_); (rintro e w1 ⟨rfl, rfl⟩)))
      | (go_at_call 12; ((with_reducible refine (AW.out _).mono ?_); (rintro e w2 ⟨rfl, h1⟩)); (have E2 := hid_of h1); clear h1))
    all_goals go_ret
    all_goals exact ⟨rfl, E2.out⟩
  have k1 : decide ((kn : Int) > 100) = false := decide_eq_false (by omega)
  have k2 : decide (100 < kn) = false := decide_eq_false hk
  by_cases hr : 100 < rn
  · have k3 : decide ((rn : Int) > 100) = true := decide_eq_true (by omega)
    have k4 : decide (100 < rn) = true := decide_eq_true hr
    clear CF CF2 w2 w3 w6 w7 hfb hfb2
    all_goals go_enter Try.func7, Try.ntmps7
    all_goals go_wp2_with (first
      | (go_at_call 11; ((with_reducible refine (HCF.out).mono ?_); (rintro e w1 ⟨rfl, rfl⟩)))
      | (go_at_call 11; ((with_reducible refine (HCF2.out).mono ?_); (rintro e w1 ⟨rfl, rfl⟩)))
      | (go_at_call 12; ((with_reducible refine (AW.out _).mono ?_); (rintro e w2 ⟨rfl, h1⟩)); (have E2 := hid_of h1); clear h1))
    all_goals go_ret
    all_goals exact ⟨rfl, E2.out⟩
  have k3 : decide ((rn : Int) > 100) = false := decide_eq_false (by omega)
  have k4 : decide (100 < rn) = false := decide_eq_false hr
  have hF := hfb rfl
  have hF2 := hfb2 rfl
  have CSH := hid_of (fun X => shape_any x y hx hy X)
  obtain ⟨n, hn⟩ : ∃ n, n = 2 + x % 6 := ⟨_, rfl⟩
  obtain ⟨z, hz⟩ : ∃ z, z = 16 + y % 40 := ⟨_, rfl⟩
  rw [← hn, ← hz] at CSH
  have hn2 : 2 ≤ n ∧ n ≤ 7 := by omega
  have hz2 : 16 ≤ z ∧ z ≤ 55 := by omega
  obtain ⟨p, hp⟩ : ∃ p, p = n - 1 := ⟨_, rfl⟩
  obtain ⟨ar, har⟩ : ∃ ar, ar = p * z := ⟨_, rfl⟩
  have har2 : ar ≤ 6 * 55 := by rw [har]; exact Nat.mul_le_mul (by omega) hz2.2
  have s1 : IntKind.i64.wrap ((n : Int) - 1) = (p : Int) := by rw [show (n : Int) - 1 = (p : Int) by omega]; exact IntWalk.i64_in _ (by omega)
  have s2 : IntKind.i64.wrap ((p : Int) * (z : Int)) = (ar : Int) := by rw [← Int.natCast_mul, ← har]; exact IntWalk.i64_in _ (by omega)
  have HAR : Hid ((n - 1) * z = ar) := hid_of (by rw [har, hp])
  have CN := hid_of (fun X => dr_new n z (by omega) (by omega) hz2.1 (by omega) X)
  obtain ⟨B, hB⟩ : ∃ B, B = w.heap.size := ⟨_, rfl⟩
  have HIN := hid_of (fun (X : World) (h : Below B w X) => (show JsIn B X a len cap l by rw [hB] at h ⊢; exact w2.at h))
  have HLL := hid_of w2.1
  have hcap := w2.2.1.cut.2
  have CN2 := hid_of (show Calls Try.prog 14 #[.int .i64 n, .int .i64 z] w fun e w' => ∃ b, e = .returned (.tuple #[.pointer (some ⟨b, 0, none⟩), .int .i64 0]) ∧ DR B (fun k => k < B) w' b (newF n z) ∧ Below B w w' from by rw [hB]; exact CN.out w)
  have TN := hid_of (fun (X : World) (h : Below B w X) => show TR B (fun k => k < B) X from by have h9 := tr_new (w := w) (w' := X) (by have := h.size; omega); rwa [← hB] at h9)
  have CO := hid_of (fun (X : World) (b : Nat) (h : DR B (fun k => k < B) X b (newF n z)) (t : TR B (fun k => k < B) X) => lw_open n z hn2.1 hz2.1 h t)
  have HFM := hid_of (fun (x : JX) (hx : x ∈ l) => few_stream hF hx)
  have S0 : Hid (NF (newF n z) ∧ (newF n z).sz = z) := hid_of ⟨new_nf n z, rfl⟩
  have len9 : len ≤ 9223372036854775807 := by omega
  have HIN2 := hid_of (fun (X : World) (h : Below B w X) => (show JsIn B X a3 len3 cap3 l3 by rw [hB] at h ⊢; exact w3.at h))
  have HKP := hid_of (fun (X : World) (h : Below B w X) => show Rd X (.slice ka kn kc) (bls kl) ∧ (0 < (bls kl).length → In (fun k => k < B) (.slice ka kn kc)) from by
    rw [hB] at h ⊢
    exact ⟨w6.at h, fun h0 => rd_in w6 h0⟩)
  have HKR := hid_of (fun (X : World) (h : Below B w X) => show Rd X (.slice ra rn rc) (bls rl) ∧ (0 < (bls rl).length → In (fun k => k < B) (.slice ra rn rc)) from by
    rw [hB] at h ⊢
    exact ⟨w7.at h, fun h0 => rd_in w7 h0⟩)
  have CRC := hid_of (fun (T : Nat → Prop) (X : World) (jb b : Nat) (M : DM) (R : List (List Int)) (wk : Bool) (h : JR B T X jb b M 0 n R wk) (t : TR B T X) => h.records t)
  have CSX := hid_of (fun (S1 S2 : Nat → Prop) (R1 R2 : List (List Int)) (a1 : Option Addr) (n1 c1 : Nat) (a2 : Option Addr) (n2 c2 : Nat) (X : World) (h1 : RB S1 X (.slice a1 n1 c1) R1) (h2 : RB S2 X (.slice a2 n2 c2) R2) => same_any S1 S2 R1 R2 a1 n1 c1 a2 n2 c2 X h1 h2)
  have CFL := hid_of (fun (T : Nat → Prop) (X : World) (jb b : Nat) (M : DM) (R : List (List Int)) (wk : Bool) (k : Nat) (hk : k ≤ 255) (h : JR B T X jb b M 0 n R wk) (t : TR B T X) => h.fail t k ⟨by omega, by omega⟩)
  have CRN := hid_of (fun (T : Nat → Prop) (X : World) (jb b : Nat) (M : DM) (R : List (List Int)) (lo : Option Addr) (ln lc : Nat) (h : JR B T X jb b M 0 n R true) (t : TR B T X) (hz : M.sz = z) (hb : Below B w X) (hL : RB T X (.slice lo ln lc) R) => run_any h t hz HAR.out (by omega) a len cap l (HIN.out X hb) hF lo ln lc hL)
  have CRN2 := hid_of (fun (T : Nat → Prop) (X : World) (jb b : Nat) (M : DM) (R : List (List Int)) (lo : Option Addr) (ln lc : Nat) (h : JR B T X jb b M 0 n R true) (t : TR B T X) (hz : M.sz = z) (hb : Below B w X) (hL : RB T X (.slice lo ln lc) R) => run_any h t hz HAR.out (by omega) a3 len3 cap3 l3 (HIN2.out X hb) hF2 lo ln lc hL)
  have CCR := hid_of (fun (T : Nat → Prop) (X : World) (jb b : Nat) (M : DM) (R : List (List Int)) (wk : Bool) (h : JR B T X jb b M 0 n R wk) (t : TR B T X) (hb : Below B w X) => h.crash t ka kn kc kl (HKP.out X hb))
  have CCR2 := hid_of (fun (T : Nat → Prop) (X : World) (jb b : Nat) (M : DM) (R : List (List Int)) (wk : Bool) (h : JR B T X jb b M 0 n R wk) (t : TR B T X) (hb : Below B w X) => h.crash t ra rn rc rl (HKR.out X hb))
  have COX := hid_of (fun (T : Nat → Prop) (X : World) (jb b : Nat) (M : DM) (keep : List Bool) (R Rc : List (List Int)) (wk : Bool) (h : JR B T X jb b (crashF M keep) 0 n R wk) (t : TR B T X) (hy : holdsD (crashF M keep) 0 n = some Rc) => show Calls Try.prog 15 #[.pointer (some ⟨b, 0, none⟩), .int .i64 0, .int .i64 n] X (fun e w' => ∃ jb, e = .returned (.tuple #[.pointer (some ⟨jb, 0, none⟩), .int .i64 0]) ∧ JR B T w' jb b (crashF M keep) 0 n Rc true ∧ Below X.heap.size X w') from h.disk.opened (fs := 0) (ct := n) t h.fit.reg h.fit.sz h.rM rfl rfl hy)
  have s5 : IntKind.i64.wrap (f : Int) = (f : Int) := IntWalk.i64_in _ (by omega)
  have s6 : IntKind.i64.wrap (f2 : Int) = (f2 : Int) := IntWalk.i64_in _ (by omega)
  have HF255 := hid_of hf
  have HF256 := hid_of hf2
  have HZF := hid_of (fun (M : DM) (k : Int) (h : M.sz = z) => (fail_same M k).2.1.trans h)
  rw [show BoP true w = fun e w' => e = .returned (.bool true) ∧ Below B w w' from by rw [hB]; rfl]
  clear CF w2 hF hfb hn hz hp har hB hcap CN CF2 w3 w6 w7 hfb2 hF2 hf hf2
  go_enter Try.func7, Try.ntmps7
  go_wp2_with (first
    | (go_at_call 11; ((with_reducible refine (HCF.out).mono ?_); (rintro e w1 ⟨rfl, rfl⟩)))
    | (go_at_call 11; ((with_reducible refine (HCF2.out).mono ?_); (rintro e w1 ⟨rfl, rfl⟩)))
    | (go_at_call 13; ((with_reducible refine (CSH.out _).mono ?_); (rintro e w1 ⟨rfl, rfl⟩)))
    | (go_at_call 14; ((with_reducible refine (CN2.out).mono ?_); (rintro e w1 ⟨b, rfl, q1, q2⟩)); have D1 := hid_of q1; have B1 := hid_of q2; have T1 := hid_of (TN.out w1 q2); clear q1 q2)
    | (go_at_call 15; ((with_reducible refine (CO.out w1 b D1.out T1.out).mono ?_); (rintro e w2 ⟨jb, rfl, q1, q2⟩)); have J2 := hid_of q1; have B2 := hid_of (B1.out.trans (q2.mono T1.out.hB)); have T2 := hid_of (T1.out.same q2.size); clear q1 q2)
    | (go_at_call 29; ((with_reducible refine (CFL.out _ w2 jb b _ _ true f HF255.out J2.out T2.out).mono ?_); (rintro e w3 ⟨rfl, q1, q2, q3⟩)); have T3 := hid_of (T2.out.same q3.1); have B3 := hid_of (B2.out.trans q2); have b4 := bel_alloc w3 (.cells #[] 46); have J4 := hid_of (q1.bel0 T3.out b4); have T4 := hid_of (T3.out.same b4.size); have B4 := hid_of (B3.out.trans (b4.mono T3.out.hB)); have Z4 := hid_of (HZF.out (newF n z) f S0.out.2); clear q1 q2 q3 b4)
    | (go_at_call 30; ((with_reducible refine (CRN.out _ _ jb b _ _ _ _ _ J4.out T4.out Z4.out B4.out (rb_nil _ _ _ _ (by omega))).mono ?_); (rintro e w5 ⟨yo, yn, yc, zo, zn, zc, k5, rfl, M5, R5, Rb, wk5, T5, q1, q2, q3, q4, q5, q6, _, q8⟩)); have J5 := hid_of q1; have T5' := hid_of q2; have B5 := hid_of (B4.out.trans q8); obtain ⟨Rc, q9, _⟩ := amb_pick q6 kl; have HRc := hid_of q9; have ZC := hid_of (show (crashF M5 kl).sz = z from q3); clear q1 q2 q3 q4 q5 q6 q8 q9)
    | (go_at_call 23; ((with_reducible refine (CCR.out _ w5 jb b _ _ _ J5.out T5'.out B5.out).mono ?_); (rintro e w6 ⟨rfl, q1, q2, q3⟩)); have J6 := hid_of q1; have T6 := hid_of (T5'.out.same q3.1); have B6 := hid_of (B5.out.trans q2); clear q1 q2 q3)
    | (go_at_call 15; ((with_reducible refine (COX.out _ w6 jb b M5 kl R5 Rc wk5 J6.out T6.out HRc.out).mono ?_); (rintro e w7 ⟨kb, rfl, q1, q2⟩)); have J7 := hid_of q1; have T7 := hid_of (T6.out.same q2.size); have B7 := hid_of (B6.out.trans (q2.mono T6.out.hB)); clear q1 q2)
    | (go_at_call 29; ((with_reducible refine (CFL.out _ w7 kb b _ Rc true f2 HF256.out J7.out T7.out).mono ?_); (rintro e w8 ⟨rfl, q1, q2, q3⟩)); have J8 := hid_of q1; have T8 := hid_of (T7.out.same q3.1); have B8 := hid_of (B7.out.trans q2); have Z8 := hid_of (HZF.out (crashF M5 kl) f2 ZC.out); clear q1 q2 q3)
    | (go_at_call 19; ((with_reducible refine (CRC.out _ w8 kb b _ Rc true J8.out T8.out).mono ?_); (rintro e w9 ⟨lo, ln, lc, rfl, q1, q2⟩)); have L9 := hid_of q1; have J9 := hid_of (J8.out.bel q2); have T9 := hid_of (T8.out.next q2.size); have B9 := hid_of (B8.out.trans (q2.mono T8.out.hB)); clear q1 q2)
    | (go_at_call 30; ((with_reducible refine (CRN2.out _ w9 kb b _ Rc lo ln lc J9.out T9.out Z8.out B9.out L9.out).mono ?_); (rintro e wA ⟨yo2, yn2, yc2, zo2, zn2, zc2, k6, rfl, MA, RA, RbA, wkA, TA, q1, q2, q3, q4, q5, q6, _, q8⟩)); have JA := hid_of q1; have TA' := hid_of q2; have YA := hid_of q4; have VA := hid_of q5; have BA := hid_of (B9.out.trans q8); obtain ⟨Rd, q9, q10⟩ := amb_pick q6 rl; have HRd := hid_of q9; have HOR := hid_of q10; clear q1 q2 q3 q4 q5 q6 q8 q9 q10)
    | (go_at_call 23; ((with_reducible refine (CCR2.out _ wA kb b _ _ _ JA.out TA'.out BA.out).mono ?_); (rintro e wB ⟨rfl, q1, q2, q3⟩)); have JB := hid_of q1; have TB := hid_of (TA'.out.same q3.1); have BB := hid_of (BA.out.trans q2); have YB := hid_of (YA.out.keep q3); have VB := hid_of (VA.out.keep q3); clear q1 q2 q3)
    | (go_at_call 15; ((with_reducible refine (COX.out _ wB kb b MA rl RA Rd wkA JB.out TB.out HRd.out).mono ?_); (rintro e wC ⟨lb, rfl, q1, q2⟩)); have JC := hid_of q1; have TC := hid_of (TB.out.same q2.size); have BC := hid_of (BB.out.trans (q2.mono TB.out.hB)); have YC := hid_of (YB.out.bel q2); have VC := hid_of (VB.out.bel q2); clear q1 q2)
    | (go_at_call 12; ((with_reducible refine (AW.out wC).mono ?_); (rintro e wD ⟨rfl, q2⟩)); have JD := hid_of (JC.out.bel0 TC.out q2); have TD := hid_of (TC.out.same q2.size); have BD := hid_of (BC.out.trans (q2.mono TC.out.hB)); have YD := hid_of (YC.out.bel q2); have VD := hid_of (VC.out.bel q2); clear q2)
    | (go_at_call 19; ((with_reducible refine (CRC.out _ wD lb b _ Rd true JD.out TD.out).mono ?_); (rintro e wE ⟨go, gn, gc, rfl, q1, q2⟩)); have GE := hid_of q1; have JE := hid_of (JD.out.bel q2); have TE := hid_of (TD.out.next q2.size); have BE := hid_of (BD.out.trans (q2.mono TD.out.hB)); have YE := hid_of (YD.out.tn q2); have VE := hid_of (VD.out.tn q2); clear q1 q2)
    | (go_at_call 18; ((with_reducible refine (CSX.out _ _ Rd RA go gn gc yo2 yn2 yc2 wE GE.out YE.out).mono ?_); (rintro e wF ⟨xA, rfl, hxA, q2⟩)); have JF := hid_of (JE.out.bel0 TE.out q2); have TF := hid_of (TE.out.same q2.size); have BF := hid_of (BE.out.trans (q2.mono TE.out.hB)); have VF := hid_of (VE.out.bel q2); have HXA := hid_of hxA; clear q2 hxA; cases xA)
    | (go_at_call 19; ((with_reducible refine (CRC.out _ wF lb b _ Rd true JF.out TF.out).mono ?_); (rintro e wG ⟨go2, gn2, gc2, rfl, q1, q2⟩)); have GG := hid_of q1; have TG := hid_of (TF.out.next q2.size); have BG := hid_of (BF.out.trans (q2.mono TF.out.hB)); have VG := hid_of (VF.out.tn q2); clear q1 q2)
    | (go_at_call 18; ((with_reducible refine (CSX.out _ _ Rd RbA go2 gn2 gc2 zo2 zn2 zc2 wG GG.out VG.out).mono ?_); (rintro e wH ⟨xB, rfl, hxB, q2⟩)); have BF := hid_of (BG.out.trans (q2.mono TG.out.hB)); obtain rfl : xB = true := hxB (by rcases HOR.out with h9 | h9; (exact absurd (HXA.out h9) (by simp)); exact h9); clear q2 hxB))
  all_goals go_ret
  all_goals exact ⟨rfl, BF.out⟩
end Go.Proofs.Ytofmijebinnejaa
