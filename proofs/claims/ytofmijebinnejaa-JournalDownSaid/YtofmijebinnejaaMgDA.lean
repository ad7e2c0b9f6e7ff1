/- Texts in one: JrL5. -/
import Derived.Test.YtofmijebinnejaaMgAA
set_option linter.unusedVariables false
set_option linter.unusedSimpArgs false
/- The law Down. Bounds on sizes alone. -/
namespace Go.Proofs.Ytofmijebinnejaa
open Go.RowKit
set_option maxRecDepth 100000
set_option maxHeartbeats 12800000

theorem JsIn.up {B B2 : Nat} {w : World} {a : Option Addr} {len cap : Nat} {l : List JX} (h : JsIn B w a len cap l) (hB : B ≤ B2) : JsIn B2 w a len cap l :=
  ⟨h.1, h.2.1, fun b o e h0 => Nat.lt_of_lt_of_le (h.2.2.1 b o e h0) hB, fun x hx => ⟨(h.2.2.2 x hx).1.mono fun k hk => Nat.lt_of_lt_of_le hk hB, (h.2.2.2 x hx).2⟩⟩
/-- One operation, as the law lays it. -/
theorem one_in (w : World) (s : Bool) (a : Option Addr) (n c : Nat) (R : List (List Int)) (h : RB (fun k => k < w.heap.size) w (.slice a n c) R) (hb : ∀ r ∈ R, Byt r) : JsIn (w.alloc (opBox s a n c)).heap.size (w.alloc (opBox s a n c)) (some ⟨w.heap.size, 0, none⟩) 1 1 [⟨s, .slice a n c, R⟩] := by
  have hs : (w.alloc (opBox s a n c)).heap.size = w.heap.size + 1 := by simp
  refine ⟨rfl, prd_new, fun b o e _ => ?_, fun x hx => ?_⟩
  · cases e
    omega
  · rw [List.mem_singleton.1 hx]
    exact ⟨(h.keep ⟨by simp, fun k hk hl => (bel_alloc w _).block k hl⟩).mono fun k hk => by omega, hb⟩
theorem down_law (x y : Int) (a : Option Addr) (len cap : Nat) (l : List JX) (f : Int) (ka : Option Addr) (kn kc : Nat) (kl : List Bool) (s : Bool) (ma : Option Addr) (mn mc : Nat) (mR : List (List Int)) (w : World) (w0 : (Lit.int .u8 x).wf = true) (w1 : (Lit.int .u8 y).wf = true) (w2 : JsIn w.heap.size w a len cap l) (w3 : (Lit.int .u8 f).wf = true) (w4 : Rd w (.slice ka kn kc) (bls kl)) (w5 : RB (fun k => k < w.heap.size) w (.slice ma mn mc) mR ∧ ∀ r ∈ mR, Byt r) :
    Calls Try.prog 8 #[.int .u8 x, .int .u8 y, .slice a len cap, .int .u8 f, .slice ka kn kc, .agg #[.bool s, .slice ma mn mc]] w (BoP true w) := by
  obtain ⟨x, rfl, hx⟩ := lw_num w0
  obtain ⟨y, rfl, hy⟩ := lw_num w1
  clear w0 w1
  obtain ⟨f, rfl, hf⟩ := lw_num w3
  clear w3
  have ba := bel_alloc w (opBox s ma mn mc)
  have bb := bel_alloc (w.alloc (opBox s ma mn mc)) (opBox s ma mn mc)
  have sa : (w.alloc (opBox s ma mn mc)).heap.size = w.heap.size + 1 := by simp
  have bw : Below w.heap.size w ((w.alloc (opBox s ma mn mc)).alloc (opBox s ma mn mc)) := ba.trans (bb.mono (by omega))
  obtain ⟨fb, hfb, CF⟩ := few_any w.heap.size a len cap l (w.alloc (opBox s ma mn mc)) (w2.at ba)
  obtain ⟨fb2, hfb2, CF2⟩ := few_any _ (some ⟨(w.alloc (opBox s ma mn mc)).heap.size, 0, none⟩) 1 1 _ _ (one_in (w.alloc (opBox s ma mn mc)) s ma mn mc mR ((w5.1.keep ⟨ba.size, fun k hk hl => ba.block k hl⟩).mono fun k hk => by omega) w5.2)
  rw [sa] at CF2
  have HCF := hid_of CF
  have HCF2 := hid_of CF2
  have AW := hid_of (fun w => awake_any w)
  have BW := hid_of bw
  have BA := hid_of ba
  have hkc := (rd_cut w4).2
  have kn9 : kn ≤ 9223372036854775807 := by omega
  have HN0 := heap_alloc_new w (opBox s ma mn mc)
  have x0 := cell_blk (j := 0) HN0 rfl
  have x1 := cell_blk (j := 1) HN0 rfl
  have HB0 := hid_of ((bb.block w.heap.size (by omega)).trans HN0)
  clear HN0
  cases fb with
  | false =>
    clear CF CF2 w2 w4 w5 hfb hfb2 ba bb sa bw
    go_enter Try.func8, Try.ntmps8
    go_wp2_with (first
      | (go_at_call 11; ((with_reducible refine (HCF.out).mono ?_); (rintro e w1 ⟨rfl, rfl⟩)))
      | (go_at_call 12; ((with_reducible refine (AW.out _).mono ?_); (rintro e w2 ⟨rfl, h1⟩)); (have E2 := hid_of (BA.out.trans (h1.mono BA.out.size))); clear h1))
    go_ret
    exact ⟨rfl, E2.out⟩
  | true =>
  cases fb2 with
  | false =>
    clear CF CF2 w2 w4 w5 hfb hfb2 ba bb sa bw
    go_enter Try.func8, Try.ntmps8
    go_wp2_with (first
      | (go_at_call 11; ((with_reducible refine (HCF.out).mono ?_); (rintro e w1 ⟨rfl, rfl⟩)))
      | (go_at_call 11; ((with_reducible refine (HCF2.out).mono ?_); (rintro e w1 ⟨rfl, rfl⟩)))
      | (go_at_call 12; ((with_reducible refine (AW.out _).mono ?_); (rintro e w2 ⟨rfl, h1⟩)); (have E2 := hid_of (BW.out.trans (h1.mono BW.out.size))); clear h1))
    go_ret
    exact ⟨rfl, E2.out⟩
  | true =>
  by_cases hk : 100 < kn
  · have k1 : decide ((kn : Int) > 100) = true := decide_eq_true (by omega)
    have k2 : decide (100 < kn) = true := decide_eq_true hk
    clear CF CF2 w2 w4 w5 hfb hfb2 ba bb sa bw
    go_enter Try.func8, Try.ntmps8
    go_wp2_with (first
      | (go_at_call 11; ((with_reducible refine (HCF.out).mono ?_); (rintro e w1 ⟨rfl, rfl⟩)))
      | (go_at_call 11; ((with_reducible refine (HCF2.out).mono ?_); (rintro e w1 ⟨rfl, rfl⟩)))
      | (go_at_call 12; ((with_reducible refine (AW.out _).mono ?_); (rintro e w2 ⟨rfl, h1⟩)); (have E2 := hid_of (BW.out.trans (h1.mono BW.out.size))); clear h1))
    go_ret
    exact ⟨rfl, E2.out⟩
  have k1 : decide ((kn : Int) > 100) = false := decide_eq_false (by omega)
  have k2 : decide (100 < kn) = false := decide_eq_false hk
  have hF := hfb rfl
  have hms : (streamF mR).length ≤ 6200 := few_stream (hfb2 rfl) (x := ⟨s, .slice ma mn mc, mR⟩) (by simp)
  obtain ⟨W, hW⟩ : ∃ W, W = (w.alloc (opBox s ma mn mc)).alloc (opBox s ma mn mc) := ⟨_, rfl⟩
  rw [← hW] at BW HB0 bw
  have hsW := bw.size
  have w2 := (w2.at bw).up hsW
  have w4 := w4.at bw
  have w5' := w5.1.keep (w' := W) ⟨bw.size, fun k hk hl => bw.block k hl⟩
  have HW := hid_of hW
  have CSH := hid_of (fun X => shape_any x y hx hy X)
  obtain ⟨n, hn⟩ : ∃ n, n = 2 + x % 6 := ⟨_, rfl⟩
  obtain ⟨z, hz⟩ : ∃ z, z = 16 + y % 40 := ⟨_, rfl⟩
  rw [← hn, ← hz] at CSH
  have hn2 : 2 ≤ n ∧ n ≤ 7 := by omega
  have hz2 : 16 ≤ z ∧ z ≤ 55 := by omega
  obtain ⟨p, hp⟩ : ∃ p, p = n - 1 := ⟨_, rfl⟩
  obtain ⟨ar, har⟩ : ∃ ar, ar = p * z := ⟨_, rfl⟩
  have har2 : ar ≤ 6 * 55 := by rw [har]; exact Nat.mul_le_mul (by omega) hz2.2
  have s1 : IntKind.i64.wrap ((n : Int) - 1) = (p : Int) := by rw [show (n : Int) - 1 = (p : Int) by omega]; exact IntWalk.i64_in _ (by omega)
  have s2 : IntKind.i64.wrap ((p : Int) * (z : Int)) = (ar : Int) := by rw [← Int.natCast_mul, ← har]; exact IntWalk.i64_in _ (by omega)
  have HAR : Hid ((n - 1) * z = ar) := hid_of (by rw [har, hp])
  have CN := hid_of (fun X => dr_new n z (by omega) (by omega) hz2.1 (by omega) X)
  obtain ⟨B, hB⟩ : ∃ B, B = W.heap.size := ⟨_, rfl⟩
  have HIN := hid_of (fun (X : World) (h : Below B W X) => (show JsIn B X a len cap l by rw [hB] at h ⊢; exact w2.at h))
  have HLL := hid_of w2.1
  have hcap := w2.2.1.cut.2
  have CN2 := hid_of (show Calls Try.prog 14 #[.int .i64 n, .int .i64 z] W fun e w' => ∃ b, e = .returned (.tuple #[.pointer (some ⟨b, 0, none⟩), .int .i64 0]) ∧ DR B (fun k => k < B) w' b (newF n z) ∧ Below B W w' from by rw [hB]; exact CN.out W)
  have TN := hid_of (fun (X : World) (h : Below B W X) => show TR B (fun k => k < B) X from by have h9 := tr_new (w := W) (w' := X) (by have := h.size; omega); rwa [← hB] at h9)
  have CO := hid_of (fun (X : World) (b : Nat) (h : DR B (fun k => k < B) X b (newF n z)) (t : TR B (fun k => k < B) X) => lw_open n z hn2.1 hz2.1 h t)
  have HFM := hid_of (fun (x : JX) (hx : x ∈ l) => few_stream hF hx)
  have S0 : Hid (NF (newF n z) ∧ (newF n z).sz = z) := hid_of ⟨new_nf n z, rfl⟩
  have len9 : len ≤ 9223372036854775807 := by omega
  have HKP := hid_of (fun (X : World) (h : Below B W X) => show Rd X (.slice ka kn kc) (bls kl) ∧ (0 < (bls kl).length → In (fun k => k < B) (.slice ka kn kc)) from by
    rw [hB] at h ⊢
    exact ⟨w4.at h, fun h0 => rd_in w4 h0⟩)
  have CRC := hid_of (fun (T : Nat → Prop) (X : World) (jb b : Nat) (M : DM) (R : List (List Int)) (wk : Bool) (h : JR B T X jb b M 0 n R wk) (t : TR B T X) => h.records t)
  have CSM := hid_of (fun (S1 S2 : Nat → Prop) (R : List (List Int)) (a1 : Option Addr) (n1 c1 : Nat) (a2 : Option Addr) (n2 c2 : Nat) (X : World) (h1 : RB S1 X (.slice a1 n1 c1) R) (h2 : RB S2 X (.slice a2 n2 c2) R) => show Calls Try.prog 18 #[.slice a1 n1 c1, .slice a2 n2 c2] X (fun e w' => e = .returned (.bool true) ∧ Below X.heap.size X w') from (same_any S1 S2 R R a1 n1 c1 a2 n2 c2 X h1 h2).mono fun e w' ⟨x, q1, q2, q3⟩ => ⟨by rw [q1, q2 rfl], q3⟩)
  have CFL := hid_of (fun (T : Nat → Prop) (X : World) (jb b : Nat) (M : DM) (R : List (List Int)) (wk : Bool) (k : Nat) (hk : k ≤ 255) (h : JR B T X jb b M 0 n R wk) (t : TR B T X) => h.fail t k ⟨by omega, by omega⟩)
  have CRN := hid_of (fun (T : Nat → Prop) (X : World) (jb b : Nat) (M : DM) (R : List (List Int)) (lo : Option Addr) (ln lc : Nat) (h : JR B T X jb b M 0 n R true) (t : TR B T X) (hz : M.sz = z) (hb : Below B W X) (hL : RB T X (.slice lo ln lc) R) => run_any h t hz HAR.out (by omega) a len cap l (HIN.out X hb) hF lo ln lc hL)
  have CCR := hid_of (fun (T : Nat → Prop) (X : World) (jb b : Nat) (M : DM) (R : List (List Int)) (wk : Bool) (h : JR B T X jb b M 0 n R wk) (t : TR B T X) (hb : Below B W X) => h.crash t ka kn kc kl (HKP.out X hb))
  have HMR := hid_of (fun (T : Nat → Prop) (X : World) (h : Below B W X) (t : TR B T X) => show RB T X (.slice ma mn mc) mR from by
    refine ((w5'.mono (T := fun k => k < B) fun k hk => by omega).keep ⟨h.size, fun k hk _ => h.block k hk⟩).mono fun k hk => t.low k hk)
  have HBX := hid_of (fun (X : World) (h : Below B W X) => show X.cell? ⟨w.heap.size, 0, none⟩ = some (.bool s) ∧ X.cell? ⟨w.heap.size, 1, none⟩ = some (.slice ma mn mc) from by
    have h9 := (h.block w.heap.size (by rw [hB, hW]; simp; omega)).trans HB0.out
    exact ⟨cell_blk h9 rfl, cell_blk h9 rfl⟩)
  have CDO := hid_of (fun (T : Nat → Prop) (X : World) (jb b : Nat) (M : DM) (R : List (List Int)) (h : JR B T X jb b M 0 n R false) (t : TR B T X) (hX : RB T X (.slice ma mn mc) mR) => show Calls Try.prog 17 #[.pointer (some ⟨jb, 0, none⟩), .agg #[.bool s, .slice ma mn mc]] X (fun e w' => e = .returned (.int .i64 8) ∧ JR B T w' jb b M 0 n R false ∧ Below B X w' ∧ Keeps T X w') from by
    refine (h.op t s mR ma mn mc hX w5.2 (by omega)).mono fun e w' ⟨cd, q1, q2⟩ => ?_
    obtain ⟨e1, q3, q4, q5⟩ := JrQ.dead q2
    exact ⟨by rw [q1, e1], q3, q4, q5⟩)
  have CLD := hid_of (fun (T : Nat → Prop) (X : World) (jb b : Nat) (M : DM) (R : List (List Int)) (h : JR B T X jb b M 0 n R false) => show Calls Try.prog 20 #[.pointer (some ⟨jb, 0, none⟩)] X (fun e w' => e = .returned (.int .i64 (-1)) ∧ Below X.heap.size X w') from h.left)
  have CDW := hid_of (fun (T : Nat → Prop) (X : World) (jb b : Nat) (M : DM) (R : List (List Int)) (wk : Bool) (h : JR B T X jb b M 0 n R wk) => h.down)
  have CSH2 := hid_of (fun (T : Nat → Prop) (X : World) (jb b : Nat) (M : DM) (R : List (List Int)) (h : JR B T X jb b M 0 n R false) (ho : M.off = true) => show Calls Try.prog 15 #[.pointer (some ⟨b, 0, none⟩), .int .i64 0, .int .i64 n] X (fun e w' => e = .returned (.tuple #[.pointer none, .int .i64 8]) ∧ Below X.heap.size X w') from h.disk.shut (fs := 0) (ct := n) h.fit.reg ho)
  have CDD := hid_of (fun (T : Nat → Prop) (X : World) (jb b : Nat) (M : DM) (R : List (List Int)) (h : JR B T X jb b M 0 n R true) => show Calls Try.prog 31 #[.pointer (some ⟨b, 0, none⟩)] X (fun e w' => e = .returned (.bool false) ∧ Below X.heap.size X w') from by
    have h9 := h.disk.down
    rw [(h.live rfl).on] at h9
    exact h9)
  have CCH := hid_of (fun (T : Nat → Prop) (X : World) (jb b : Nat) (M : DM) (R : List (List Int)) (h : JR B T X jb b (crashF M kl) 0 n R false) => show Calls Try.prog 26 #[.pointer (some ⟨b, 0, none⟩)] X (fun e w' => e = .returned (.int .i64 0) ∧ Below X.heap.size X w') from h.disk.cached)
  have s5 : IntKind.i64.wrap (f : Int) = (f : Int) := IntWalk.i64_in _ (by omega)
  have HF255 := hid_of hf
  have HFIN := hid_of (fun (X : World) (h : Below B W X) => show Below w.heap.size w X from BW.out.trans (h.mono (by omega)))
  clear CF w2 hF hfb hn hz hp har hB hcap CN CF2 w4 w5 w5' hfb2 hf ba bb sa bw hsW hms
  go_enter Try.func8, Try.ntmps8
  go_wp2_with (first
    | (go_at_call 11; ((with_reducible refine (HCF.out).mono ?_); (rintro e w1 ⟨rfl, rfl⟩)))
    | (go_at_call 11; ((with_reducible refine (HCF2.out).mono ?_); (rintro e w1 ⟨rfl, rfl⟩)))
    | (go_at_call 13; ((with_reducible refine (CSH.out _).mono ?_); (rintro e w1 ⟨rfl, rfl⟩)))
    | (go_at_call 14; rw [← hW]; ((with_reducible refine (CN2.out).mono ?_); (rintro e w1 ⟨b, rfl, q1, q2⟩)); have D1 := hid_of q1; have B1 := hid_of q2; have T1 := hid_of (TN.out w1 q2); clear q1 q2)
    | (go_at_call 15; ((with_reducible refine (CO.out w1 b D1.out T1.out).mono ?_); (rintro e w2 ⟨jb, rfl, q1, q2⟩)); have J2 := hid_of q1; have B2 := hid_of (B1.out.trans (q2.mono T1.out.hB)); have T2 := hid_of (T1.out.same q2.size); clear q1 q2)
    | (go_at_call 29; ((with_reducible refine (CFL.out _ w2 jb b _ _ true f HF255.out J2.out T2.out).mono ?_); (rintro e w3 ⟨rfl, q1, q2, q3⟩)); have T3 := hid_of (T2.out.same q3.1); have B3 := hid_of (B2.out.trans q2); have b4 := bel_alloc w3 (.cells #[] 46); have J4 := hid_of (q1.bel0 T3.out b4); have T4 := hid_of (T3.out.same b4.size); have B4 := hid_of (B3.out.trans (b4.mono T3.out.hB)); have Z4 := hid_of ((fail_same (newF n z) f).2.1.trans S0.out.2); clear q1 q2 q3 b4)
    | (go_at_call 30; ((with_reducible refine (CRN.out _ _ jb b _ _ _ _ _ J4.out T4.out Z4.out B4.out (rb_nil _ _ _ _ (by omega))).mono ?_); (rintro e w5 ⟨yo, yn, yc, zo, zn, zc, k5, rfl, M5, R5, Rb, wk5, T5, q1, q2, q3, q4, q5, q6, q7, q8⟩)); have J5 := hid_of q1; have T5' := hid_of q2; have Y5 := hid_of q4; have B5 := hid_of (B4.out.trans q8); have HOF := hid_of q7; have X5 := hid_of (HMR.out T5 w5 B5.out q2); obtain ⟨p0, p1⟩ := HBX.out w5 B5.out; clear q1 q2 q3 q4 q5 q6 q7 q8)
    | (go_at_call 22; ((with_reducible refine (CDW.out _ w5 jb b M5 R5 wk5 J5.out).mono ?_); (rintro e w6 ⟨rfl, rfl⟩)); cases wk5)
    | (go_at_call 12; ((with_reducible refine (AW.out w5).mono ?_); (rintro e w6 ⟨rfl, q2⟩)); have J6 := hid_of (show JR B T5 w6 jb b M5 0 n R5 true from J5.out.bel0 T5'.out q2); have B6 := hid_of (B5.out.trans (q2.mono T5'.out.hB)); have T6 := hid_of (T5'.out.same q2.size); clear q2)
    | (go_at_call 31; ((with_reducible refine (CDD.out _ w6 jb b M5 R5 J6.out).mono ?_); (rintro e w7 ⟨rfl, q2⟩)); have BF := hid_of (B6.out.trans (q2.mono T6.out.hB)); clear q2)
    | (go_at_call 17; ((with_reducible refine (CDO.out _ w5 jb b M5 R5 J5.out T5'.out X5.out).mono ?_); (rintro e w6 ⟨rfl, q1, q2, q3⟩)); have J6 := hid_of q1; have T6 := hid_of (T5'.out.same q3.1); have B6 := hid_of (B5.out.trans q2); have Y6 := hid_of (Y5.out.keep q3); clear q1 q2 q3)
    | (go_at_call 20; ((with_reducible refine (CLD.out _ w6 jb b M5 R5 J6.out).mono ?_); (rintro e w7 ⟨rfl, q2⟩)); have J7 := hid_of (J6.out.bel0 T6.out q2); have T7 := hid_of (T6.out.same q2.size); have B7 := hid_of (B6.out.trans (q2.mono T6.out.hB)); have Y7 := hid_of (Y6.out.bel q2); clear q2)
    | (go_at_call 15; ((with_reducible refine (CSH2.out _ w7 jb b M5 R5 J7.out (HOF.out (by first | rfl | trivial))).mono ?_); (rintro e w8 ⟨rfl, q2⟩)); have J8 := hid_of (J7.out.bel0 T7.out q2); have T8 := hid_of (T7.out.same q2.size); have B8 := hid_of (B7.out.trans (q2.mono T7.out.hB)); have Y8 := hid_of (Y7.out.bel q2); clear q2)
    | (go_at_call 23; ((with_reducible refine (CCR.out _ w8 jb b M5 R5 false J8.out T8.out B8.out).mono ?_); (rintro e w9 ⟨rfl, q1, q2, q3⟩)); have J9 := hid_of q1; have T9 := hid_of (T8.out.same q3.1); have B9 := hid_of (B8.out.trans q2); have Y9 := hid_of (Y8.out.keep q3); clear q1 q2 q3)
    | (go_at_call 12; ((with_reducible refine (AW.out w9).mono ?_); (rintro e wA ⟨rfl, q2⟩)); have JA := hid_of (J9.out.bel0 T9.out q2); have TA := hid_of (T9.out.same q2.size); have BA := hid_of (B9.out.trans (q2.mono T9.out.hB)); have YA := hid_of (Y9.out.bel q2); have XA := hid_of (HMR.out _ wA BA.out TA.out); obtain ⟨r0, r1⟩ := HBX.out wA BA.out; clear q2)
    | (go_at_call 17; ((with_reducible refine (CDO.out _ wA jb b _ R5 JA.out TA.out XA.out).mono ?_); (rintro e wB ⟨rfl, q1, q2, q3⟩)); have JB := hid_of q1; have TB := hid_of (TA.out.same q3.1); have BB := hid_of (BA.out.trans q2); have YB := hid_of (YA.out.keep q3); clear q1 q2 q3)
    | (go_at_call 22; ((with_reducible refine (CDW.out _ wB jb b _ R5 false JB.out).mono ?_); (rintro e wC ⟨rfl, rfl⟩)))
    | (go_at_call 20; ((with_reducible refine (CLD.out _ wB jb b _ R5 JB.out).mono ?_); (rintro e wD ⟨rfl, q2⟩)); have JD := hid_of (JB.out.bel0 TB.out q2); have TD := hid_of (TB.out.same q2.size); have BD := hid_of (BB.out.trans (q2.mono TB.out.hB)); have YD := hid_of (YB.out.bel q2); clear q2)
    | (go_at_call 19; ((with_reducible refine (CRC.out _ wD jb b _ R5 false JD.out TD.out).mono ?_); (rintro e wE ⟨go, gn, gc, rfl, q1, q2⟩)); have GE := hid_of q1; have JE := hid_of (JD.out.bel q2); have TE := hid_of (TD.out.next q2.size); have BE := hid_of (BD.out.trans (q2.mono TD.out.hB)); have YE := hid_of (YD.out.tn q2); clear q1 q2)
    | (go_at_call 18; ((with_reducible refine (CSM.out _ _ R5 go gn gc yo yn yc wE GE.out YE.out).mono ?_); (rintro e wF ⟨rfl, q2⟩)); have JF := hid_of (JE.out.bel0 TE.out q2); have TF := hid_of (TE.out.same q2.size); have BG := hid_of (BE.out.trans (q2.mono TE.out.hB)); clear q2)
    | (go_at_call 26; ((with_reducible refine (CCH.out _ wF jb b M5 R5 JF.out).mono ?_); (rintro e wG ⟨rfl, q2⟩)); have BF := hid_of (BG.out.trans (q2.mono TF.out.hB)); clear q2))
  all_goals go_ret
  all_goals exact ⟨rfl, HFIN.out _ BF.out⟩
end Go.Proofs.Ytofmijebinnejaa
