/- Texts in one: JrL2. -/
import Derived.Test.YtofmijebinnejaaMgRE
set_option linter.unusedVariables false
set_option linter.unusedSimpArgs false
/- The law Left. Bounds on sizes alone. -/
namespace Go.Proofs.Ytofmijebinnejaa
open Go.RowKit
set_option maxRecDepth 100000
set_option maxHeartbeats 12800000

theorem row_new (X : World) (m : Nat) (hm : m ≤ 1000000000) : (Instr.makeSlice 46 (.int .i64 m) (.int .i64 m)).run Try.prog X = .ok (.slice (some ⟨X.heap.size, 0, none⟩) m m) (X.alloc (.cells (Array.replicate m (.int .u8 0)) 5)) := by
  have h := run_make_row' (P := Try.prog) 46 5 (.int .u8 0) 1 u8E.und u8E.info rfl .i64 .i64 m (by omega) (by omega) X
  rw [show madeCells #[Value.int .u8 0] m = Array.replicate m (.int .u8 0) by rw [← Array.toList_inj]; simp [toList_madeCells_one]] at h
  exact h
/-- One slice of m zeros, as the law lays it. -/
theorem row_one (w : World) (m : Nat) (hm : m ≤ 1000000000) : ∃ W, W = (w.alloc (.cells (Array.replicate m (.int .u8 0)) 5)).alloc (.cells #[.slice (some ⟨w.heap.size, 0, none⟩) m m] 46) ∧ RB (fun k => w.heap.size ≤ k ∧ k < W.heap.size) W (.slice (some ⟨w.heap.size + 1, 0, none⟩) 1 1) [List.replicate m 0] ∧ Below w.heap.size w W := by
  refine ⟨_, rfl, ?_, (bel_alloc w _).trans ((bel_alloc _ _).mono (by simp))⟩
  have s1 : (w.alloc (.cells (Array.replicate m (.int .u8 0)) 5)).heap.size = w.heap.size + 1 := by simp
  have s2 : ((w.alloc (.cells (Array.replicate m (.int .u8 0)) 5)).alloc (.cells #[.slice (some ⟨w.heap.size, 0, none⟩) m m] 46)).heap.size = w.heap.size + 2 := by simp
  have b2 := bel_alloc (w.alloc (.cells (Array.replicate m (.int .u8 0)) 5)) (.cells #[.slice (some ⟨w.heap.size, 0, none⟩) m m] 46)
  have r1 : Rd (w.alloc (.cells (Array.replicate m (.int .u8 0)) 5)) (.slice (some ⟨w.heap.size, 0, none⟩) m m) (by8 (List.replicate m 0)) := rd_new (by simp [by8]) (by apply Array.ext'; simp [by8]) (by simp [by8]; omega)
  have r3 : Rd ((w.alloc (.cells (Array.replicate m (.int .u8 0)) 5)).alloc (.cells #[.slice (some ⟨w.heap.size, 0, none⟩) m m] 46)) (.slice (some ⟨w.heap.size + 1, 0, none⟩) 1 1) [.slice (some ⟨w.heap.size, 0, none⟩) m m] := by rw [← s1]; exact rd_new rfl rfl (by simp)
  refine ⟨_, r3, fun _ a n c e => ?_, rfl, fun i x l hx hl => ?_⟩
  · cases e
    exact ⟨by show w.heap.size ≤ w.heap.size + 1; omega, by show w.heap.size + 1 < _; omega⟩
  · rcases i with _ | i
    · simp only [List.getElem?_cons_zero, Option.some.injEq] at hx hl
      subst hx hl
      exact ⟨r1.at b2, fun _ a n c e => by cases e; exact ⟨Nat.le_refl _, by show w.heap.size < _; omega⟩⟩
    · simp at hx
theorem byt_zero (m : Nat) : ∀ r ∈ [List.replicate m (0 : Int)], Byt r := fun r hr x hx => by
  rw [List.mem_singleton.1 hr] at hx
  have := List.eq_of_mem_replicate hx
  omega
theorem stream_bound' (m : Nat) (hm : m ≤ 1000) : (streamF [List.replicate m 0]).length ≤ 2000 := by
  have := Wr.enc_length_10 m (by omega)
  simp [streamF, recE]
  omega
/-- A record of zeros is appended. -/
theorem lw_zero {B : Nat} {T : Nat → Prop} {w : World} {jb b : Nat} {M : DM} {n z ar : Nat} {R : List (List Int)} (h : JR B T w jb b M 0 n R true) (t : TR B T w) (hn : NF M ∧ M.sz = z) (hz : (n - 1) * z = ar) (m : Nat) (hm : m ≤ 1000) (a : Option Addr) (k c : Nat) (hX : RB T w (.slice a k c) [List.replicate m 0]) :
    Calls Try.prog 32 #[.pointer (some ⟨jb, 0, none⟩), .slice a k c] w fun e w' => e = .returned (.int .i64 (nxtF R false [List.replicate m 0] ar).2) ∧ ∃ M', JR B T w' jb b M' 0 n (nxtF R false [List.replicate m 0] ar).1 true ∧ (NF M' ∧ M'.sz = z) ∧ Below B w w' ∧ Keeps T w w' := by
  have hl := stream_bound' m hm
  refine (h.append t [List.replicate m 0] a k c hX (byt_zero m) (by omega)).mono fun e w' ⟨cd, q1, q2⟩ => ?_
  obtain ⟨e1, M', j, k1, k2, _, k3, k4, _⟩ := JrQ.good h hn.1 q2
  rw [hn.2, hz] at e1 j
  exact ⟨by rw [q1, e1], M', j, ⟨k1, k2.trans hn.2⟩, k3, k4⟩
/-- What Left says of records of zeros. -/
theorem left_facts (R : List (List Int)) (ar : Nat) (hA : (streamF R).length ≤ ar) (har : ar ≤ 330) : ∃ m1 : Nat, (m1 : Int) = leftF R ar + 1 ∧ m1 ≤ 331 ∧ -1 ≤ leftF R ar ∧ leftF R ar < ar + 1 ∧ nxtF R false [List.replicate m1 0] ar = (R, 7) ∧ R.length ≤ 330 ∧ ∀ m2 : Nat, leftF R ar = m2 → m2 ≤ 330 ∧ nxtF R false [List.replicate m2 0] ar = (R ++ [List.replicate m2 0], 0) := by
  have hlb : leftF R ar < ((ar - (streamF R).length : Nat) : Int) ∧ -1 ≤ leftF R ar := bestL_lt _ _
  have hrl := stream_len R
  have hmax := left_max hA
  have hfit := left_fits hA
  obtain ⟨lf, hlf⟩ : ∃ lf, lf = leftF R ar := ⟨_, rfl⟩
  rw [← hlf] at hlb hmax hfit ⊢
  refine ⟨(lf + 1).toNat, by omega, by omega, hlb.2, by omega, ?_, by omega, fun m2 h2 => ⟨by omega, ?_⟩⟩
  · unfold nxtF
    rw [if_neg (by simp), if_pos (hmax _ (by rw [List.length_replicate]; omega))]
  · unfold nxtF
    rw [if_neg (by simp), if_neg (by have := hfit (List.replicate m2 0) (by rw [List.length_replicate]; exact h2); omega)]
theorem left_law (x y : Int) (a : Option Addr) (len cap : Nat) (l : List JX) (w : World) (w0 : (Lit.int .u8 x).wf = true) (w1 : (Lit.int .u8 y).wf = true) (w2 : JsIn w.heap.size w a len cap l) :
    Calls Try.prog 9 #[.int .u8 x, .int .u8 y, .slice a len cap] w (BoP true w) := by
  obtain ⟨x, rfl, hx⟩ := lw_num w0
  obtain ⟨y, rfl, hy⟩ := lw_num w1
  clear w0 w1
  obtain ⟨fb, hfb, CF⟩ := few_any w.heap.size a len cap l w w2
  have HCF := hid_of CF
  have AW := hid_of (fun w => awake_any w)
  cases fb with
  | false =>
    clear CF w2
    go_enter Try.func9, Try.ntmps9
    go_wp2_with (first
      | (go_at_call 11; ((with_reducible refine (HCF.out).mono ?_); (rintro e w1 ⟨rfl, rfl⟩)))
      | (go_at_call 12; ((with_reducible refine (AW.out _).mono ?_); (rintro e w2 ⟨rfl, h1⟩)); (have E2 := hid_of h1); clear h1))
    go_ret
    exact ⟨rfl, E2.out⟩
  | true =>
  have hF := hfb rfl
  have CSH := hid_of (fun X => shape_any x y hx hy X)
  obtain ⟨n, hn⟩ : ∃ n, n = 2 + x % 6 := ⟨_, rfl⟩
  obtain ⟨z, hz⟩ : ∃ z, z = 16 + y % 40 := ⟨_, rfl⟩
  rw [← hn, ← hz] at CSH
  have hn2 : 2 ≤ n ∧ n ≤ 7 := by omega
  have hz2 : 16 ≤ z ∧ z ≤ 55 := by omega
  obtain ⟨p, hp⟩ : ∃ p, p = n - 1 := ⟨_, rfl⟩
  obtain ⟨ar, har⟩ : ∃ ar, ar = p * z := ⟨_, rfl⟩
  have har2 : ar ≤ 6 * 55 := by rw [har]; exact Nat.mul_le_mul (by omega) hz2.2
  have s1 : IntKind.i64.wrap ((n : Int) - 1) = (p : Int) := by rw [show (n : Int) - 1 = (p : Int) by omega]; exact IntWalk.i64_in _ (by omega)
  have s2 : IntKind.i64.wrap ((p : Int) * (z : Int)) = (ar : Int) := by rw [← Int.natCast_mul, ← har]; exact IntWalk.i64_in _ (by omega)
  have HAR : Hid ((n - 1) * z = ar) := hid_of (by rw [har, hp])
  have CN := hid_of (fun X => dr_new n z (by omega) (by omega) hz2.1 (by omega) X)
  obtain ⟨B, hB⟩ : ∃ B, B = w.heap.size := ⟨_, rfl⟩
  have HIN := hid_of (fun (X : World) (h : Below B w X) => (show JsIn B X a len cap l by rw [hB] at h ⊢; exact w2.at h))
  have HLL := hid_of w2.1
  have hcap := w2.2.1.cut.2
  have CN2 := hid_of (show Calls Try.prog 14 #[.int .i64 n, .int .i64 z] w fun e w' => ∃ b, e = .returned (.tuple #[.pointer (some ⟨b, 0, none⟩), .int .i64 0]) ∧ DR B (fun k => k < B) w' b (newF n z) ∧ Below B w w' from by rw [hB]; exact CN.out w)
  have TN := hid_of (fun (X : World) (h : Below B w X) => show TR B (fun k => k < B) X from by have h9 := tr_new (w := w) (w' := X) (by have := h.size; omega); rwa [← hB] at h9)
  have CO := hid_of (fun (X : World) (b : Nat) (h : DR B (fun k => k < B) X b (newF n z)) (t : TR B (fun k => k < B) X) => lw_open n z hn2.1 hz2.1 h t)
  have HFM := hid_of (fun (x : JX) (hx : x ∈ l) => few_stream hF hx)
  have S0 : Hid (NF (newF n z) ∧ (newF n z).sz = z) := hid_of ⟨new_nf n z, rfl⟩
  have len9 : len ≤ 9223372036854775807 := by omega
  have COP := hid_of (fun (T : Nat → Prop) (X : World) (jb b : Nat) (M : DM) (R Xs : List (List Int)) (rs : Bool) (a2 : Option Addr) (n2 c2 : Nat) (h : JR B T X jb b M 0 n R true) (t : TR B T X) (hn : NF M ∧ M.sz = z) (hX : RB T X (.slice a2 n2 c2) Xs) (hb : ∀ r ∈ Xs, Byt r) (hl : (streamF Xs).length ≤ 6200) => show Calls Try.prog 17 #[.pointer (some ⟨jb, 0, none⟩), .agg #[.bool rs, .slice a2 n2 c2]] X (fun e w' => e = .returned (.int .i64 (nxtF R rs Xs ar).2) ∧ ∃ M', JR B T w' jb b M' 0 n (nxtF R rs Xs ar).1 true ∧ (NF M' ∧ M'.sz = z) ∧ Below B X w' ∧ Keeps T X w') from by
    refine (lw_op h t hn.1 rs Xs a2 n2 c2 hX hb hl).mono fun e w' ⟨q1, M', q2, q3, q4, _, q5, q6⟩ => ?_
    rw [hn.2, HAR.out] at q1 q2
    exact ⟨q1, M', q2, ⟨q3, q4.trans hn.2⟩, q5, q6⟩)
  have CRC := hid_of (fun (T : Nat → Prop) (X : World) (jb b : Nat) (M : DM) (R : List (List Int)) (wk : Bool) (h : JR B T X jb b M 0 n R wk) (t : TR B T X) => h.records t)
  have CLF := hid_of (fun (T : Nat → Prop) (X : World) (jb b : Nat) (M : DM) (R : List (List Int)) (h : JR B T X jb b M 0 n R true) (hn : M.sz = z) => show Calls Try.prog 20 #[.pointer (some ⟨jb, 0, none⟩)] X (fun e w' => e = .returned (.int .i64 (leftF R ar)) ∧ Below X.heap.size X w') from by
    have h1 := h.left
    rw [if_pos rfl, hn, HAR.out] at h1
    exact h1)
  have CSM := hid_of (fun (S1 S2 : Nat → Prop) (R : List (List Int)) (a1 : Option Addr) (n1 c1 : Nat) (a2 : Option Addr) (n2 c2 : Nat) (X : World) (h1 : RB S1 X (.slice a1 n1 c1) R) (h2 : RB S2 X (.slice a2 n2 c2) R) => show Calls Try.prog 18 #[.slice a1 n1 c1, .slice a2 n2 c2] X (fun e w' => e = .returned (.bool true) ∧ Below X.heap.size X w') from (same_any S1 S2 R R a1 n1 c1 a2 n2 c2 X h1 h2).mono fun e w' ⟨x, q1, q2, q3⟩ => ⟨by rw [q1, q2 rfl], q3⟩)
  have CZ := hid_of (fun (T : Nat → Prop) (X : World) (jb b : Nat) (M : DM) (R : List (List Int)) (m : Nat) (hm : m ≤ 1000) (a2 : Option Addr) (n2 c2 : Nat) (h : JR B T X jb b M 0 n R true) (t : TR B T X) (hn : NF M ∧ M.sz = z) (hX : RB T X (.slice a2 n2 c2) [List.replicate m 0]) => lw_zero h t hn HAR.out m hm a2 n2 c2 hX)
  have MK := hid_of (fun (X : World) (m : Nat) (hm : m ≤ 1000000000) => row_new X m hm)
  obtain ⟨nz, hnz⟩ : ∃ nz, nz = n * z := ⟨_, rfl⟩
  have hnz2 : ar + z ≤ nz := by rw [hnz, har, hp, show n = (n - 1) + 1 by omega, Nat.add_sub_cancel, Nat.succ_mul]; omega
  have hnz3 : nz ≤ 7 * 55 := by rw [hnz]; exact Nat.mul_le_mul hn2.2 hz2.2
  have s3 : IntKind.i64.wrap ((n : Int) * (z : Int)) = (nz : Int) := by rw [← Int.natCast_mul, ← hnz]; exact IntWalk.i64_in _ (by omega)
  rw [show BoP true w = fun e w' => e = .returned (.bool true) ∧ Below B w w' from by rw [hB]; rfl]
  clear CF w2 hF hfb hn hz hp har hB hcap CN hnz
  go_enter Try.func9, Try.ntmps9
  go_wp2_with (first
    | (go_at_call 11; ((with_reducible refine (HCF.out).mono ?_); (rintro e w1 ⟨rfl, rfl⟩)))
    | (go_at_call 13; ((with_reducible refine (CSH.out _).mono ?_); (rintro e w1 ⟨rfl, rfl⟩)))
    | (go_at_call 14; ((with_reducible refine (CN2.out).mono ?_); (rintro e w1 ⟨b, rfl, q1, q2⟩)); have D1 := hid_of q1; have B1 := hid_of q2; have T1 := hid_of (TN.out w1 q2); clear q1 q2)
    | (go_at_call 15; ((with_reducible refine (CO.out w1 b D1.out T1.out).mono ?_); (rintro e w2 ⟨jb, rfl, q1, q2⟩)); have J2 := hid_of q1; have B2 := hid_of (B1.out.trans (q2.mono T1.out.hB)); have T2 := hid_of (T1.out.same q2.size); clear q1 q2))
  go_loopw [13] (fun iv wr => ∃ (i : Nat) (R : List (List Int)) (M : DM) (T : Nat → Prop), i ≤ len ∧ iv = .int .i64 i ∧ Hid (JR B T wr jb b M 0 n R true) ∧ Hid (TR B T wr) ∧ Hid (NF M ∧ M.sz = z) ∧ Hid ((streamF R).length ≤ ar) ∧ Hid (Below B w wr)) (fun iv _ => len - (intOf iv).toNat)
  case atStart => exact ⟨0, [], newF n z, (fun k => k < B), Nat.zero_le _, rfl, J2, T2, S0, hid_of (by simp [streamF]), B2⟩
  case round =>
    obtain ⟨i, R, M, T, hi, rfl, hJ, hT, hN, hA, hb⟩ := hrel
    by_cases hlt : i < len
    · have d1 : decide (i < len) = true := decide_eq_true hlt
      have hlt' : (i : Int) < (len : Int) := by omega
      obtain ⟨g, o, x, xb, xn, xc, hx, rfl, hv, c0, c1, hok, hxn, hc1, hc2⟩ := (HIN.out wr hb.out).get hlt
      have HX := hid_of (List.mem_of_getElem? hx)
      have HOK := hid_of hok
      have HXR := hid_of (JX.t hok hv hT.out)
      have HXB := hid_of hok.2
      have HLT := hid_of hlt
      have HFX := hid_of (HFM.out x HX.out)
      have HCL := hid_of (fun (X : World) (hX : Below B w X) => show X.cell? ⟨g, o + i * 2, none⟩ = some (.bool x.rs) ∧ X.cell? ⟨g, o + i * 2 + 1, none⟩ = some (.slice xb xn xc) from by
        obtain ⟨g', o', x', xb', xn', xc', hx', e', hv', c0', c1', _⟩ := (HIN.out X hX).get hlt
        simp only [Option.some.injEq, Addr.mk.injEq] at e'
        obtain ⟨rfl, rfl, _⟩ := e'
        rw [hx] at hx'
        cases hx'
        rw [hv] at hv'
        cases hv'
        exact ⟨c0', c1'⟩)
      have xn9 : xn ≤ 9223372036854775807 := by have := (JX.t hok hv hT.out).len.2; omega
      obtain ⟨rs, hrs⟩ : ∃ rs, rs = x.rs := ⟨_, rfl⟩
      rw [← hrs] at c0 HCL
      obtain ⟨R2, hR2⟩ : ∃ R2, R2 = (nxtF R rs x.xs ar).1 := ⟨_, rfl⟩
      obtain ⟨cd, hcd⟩ : ∃ cd, cd = (nxtF R rs x.xs ar).2 := ⟨_, rfl⟩
      have HR2 := hid_of (show (streamF R2).length ≤ ar from by rw [hR2]; exact nxt_len R rs x.xs ar hA.out)
      have CP := hid_of (COP.out T wr jb b M R x.xs rs xb xn xc hJ.out hT.out hN.out HXR.out HXB.out HFX.out)
      rw [← hR2, ← hcd] at CP
      clear hx hok hxn hrs hR2 hcd hlt hv
      go_wp2_with (first
        | (go_at_call 17; ((with_reducible refine (CP.out).mono ?_); (rintro e w4 ⟨rfl, ⟨M4, q1, q2, q3, q4⟩⟩)); have J4 := hid_of q1; have N4 := hid_of q2; have B4 := hid_of (hb.out.trans q3); have T4 := hid_of (hT.out.same q4.1); clear q1 q2 q3 q4))
      go_roundw
      case rel => exact ⟨i + 1, R2, M4, T, HLT.out, by go_num, J4, T4, N4, HR2, B4⟩
      case measure => have := HLT.out; simp [intOf]; omega
    · have d1 : decide (i < len) = false := decide_eq_false hlt
      obtain ⟨m1, hm1, hm1b, hl1, hl2, hmx, hrl, hlm⟩ := left_facts R ar hA.out (by omega)
      obtain ⟨lf, hlf⟩ : ∃ lf, lf = leftF R ar := ⟨_, rfl⟩
      rw [← hlf] at hm1 hl1 hl2 hlm
      have s4 : IntKind.i64.wrap (lf + 1) = (m1 : Int) := by rw [← hm1]; exact IntWalk.i64_in _ (by omega)
      have s4' : wrap64 (lf + 1) = (m1 : Int) := by unfold wrap64; omega
      have e1 : ¬ lf < -1 := by omega
      have e2 : ¬ (nz : Int) ≤ lf := by omega
      have e3 : decide (lf < -1) = false := decide_eq_false e1
      have e4 : decide (lf ≥ (nz : Int)) = false := decide_eq_false e2
      have e5 : decide ((nz : Int) ≤ lf) = false := decide_eq_false e2
      have CZ1 := hid_of (fun (T : Nat → Prop) (X : World) (M : DM) (a2 : Option Addr) (n2 c2 : Nat) (h : JR B T X jb b M 0 n R true) (t : TR B T X) (hn : NF M ∧ M.sz = z) (hX : RB T X (.slice a2 n2 c2) [List.replicate m1 0]) => CZ.out T X jb b M R m1 (Nat.le_trans hm1b (by decide)) a2 n2 c2 h t hn hX)
      rw [hmx] at CZ1
      have CL2 := hid_of (fun (T : Nat → Prop) (X : World) (M : DM) (h : JR B T X jb b M 0 n R true) (hn : NF M ∧ M.sz = z) => CLF.out T X jb b M R h hn.2)
      rw [← hlf] at CL2
      have MK1 := fun (X : World) => MK.out X m1 (Nat.le_trans hm1b (by decide))
      have HM1 := hid_of (show m1 ≤ 1000 from Nat.le_trans hm1b (by decide))
      have HRL := hid_of (show R.length ≤ 1000 from Nat.le_trans hrl (by decide))
      by_cases hneg : lf < 0
      · have f1 : decide (lf < 0) = true := decide_eq_true hneg
        clear hlf hl1 hl2 hm1 hmx hlm hm1b hrl
        go_wp2_with (first
          | (go_at_call 19; ((with_reducible refine (CRC.out T wr jb b M R true hJ.out hT.out).mono ?_); (rintro e w3 ⟨lo, ln, lc, rfl, q1, q2⟩)); have L3 := hid_of q1; have J3 := hid_of (hJ.out.bel q2); have T3 := hid_of (hT.out.next q2.size); have B3 := hid_of (hb.out.trans (q2.mono hT.out.hB)); have HLL9 := hid_of q1.len.1; have ln9 := Nat.le_trans (Nat.le_of_eq q1.len.1) HRL.out; clear q1 q2)
          | (go_at_call 20; ((with_reducible refine (CL2.out _ w3 M J3.out hN.out).mono ?_); (rintro e w4 ⟨rfl, q2⟩)); have J4 := hid_of (J3.out.bel0 T3.out q2); have T4 := hid_of (T3.out.same q2.size); have B4 := hid_of (B3.out.trans (q2.mono T3.out.hB)); have L4 := hid_of (L3.out.bel q2); obtain ⟨W5, hW5, r8, b8⟩ := row_one w4 m1 (Nat.le_trans HM1.out (by decide)); have J5 := hid_of (J4.out.bel b8); have T5 := hid_of (T4.out.next b8.size); have RB1 := hid_of (r8.mono (T := Tn (Tn T wr w3) w4 W5) fun k hk => Or.inr hk); have B5 := hid_of (B4.out.trans (b8.mono T4.out.hB)); have L5 := hid_of (L4.out.tn b8); clear q2 r8 b8)
          | (go_at_call 32; rw [← hW5]; ((with_reducible refine (CZ1.out _ W5 M _ _ _ J5.out T5.out hN.out RB1.out).mono ?_); (rintro e w6 ⟨rfl, ⟨M6, q1, q2, q3, q4⟩⟩)); have J6 := hid_of q1; have N6 := hid_of q2; have B6 := hid_of (B5.out.trans q3); have T6 := hid_of (T5.out.same q4.1); have L6 := hid_of (L5.out.keep q4); clear q1 q2 q3 q4)
          | (go_at_call 19; ((with_reducible refine (CRC.out _ w6 jb b M6 R true J6.out T6.out).mono ?_); (rintro e w7 ⟨zo, zn, zc, rfl, q1, q2⟩)); have Q7 := hid_of q1; have J7 := hid_of (J6.out.bel0 T6.out q2); have T7 := hid_of (T6.out.same q2.size); have B7 := hid_of (B6.out.trans (q2.mono T6.out.hB)); have L7 := hid_of (L6.out.bel q2); clear q1 q2)
          | (go_at_call 18; ((with_reducible refine (CSM.out _ _ R zo zn zc lo ln lc w7 Q7.out L7.out).mono ?_); (rintro e w8 ⟨rfl, q2⟩)); have J8 := hid_of (J7.out.bel0 T7.out q2); have T8 := hid_of (T7.out.same q2.size); have B8 := hid_of (B7.out.trans (q2.mono T7.out.hB)); have L8 := hid_of (L7.out.bel q2); clear q2)
          | (go_at_call 20; ((with_reducible refine (CL2.out _ w8 M6 J8.out N6.out).mono ?_); (rintro e w9 ⟨rfl, q2⟩)); have J9 := hid_of (J8.out.bel0 T8.out q2); have T9 := hid_of (T8.out.same q2.size); have B9 := hid_of (B8.out.trans (q2.mono T8.out.hB)); have L9 := hid_of (L8.out.bel q2); clear q2)
          | (go_at_call 12; ((with_reducible refine (AW.out w9).mono ?_); (rintro e wA ⟨rfl, h1⟩)); (have EA := hid_of (B9.out.trans (h1.mono T9.out.hB))); clear h1))
        go_ret
        exact ⟨rfl, EA.out⟩
      · have f1 : decide (lf < 0) = false := decide_eq_false hneg
        obtain ⟨m2, rfl⟩ : ∃ m2 : Nat, lf = m2 := ⟨lf.toNat, by omega⟩
        obtain ⟨hm2b, hfx⟩ := hlm m2 rfl
        have CZ2 := hid_of (fun (T : Nat → Prop) (X : World) (M : DM) (a2 : Option Addr) (n2 c2 : Nat) (h : JR B T X jb b M 0 n R true) (t : TR B T X) (hn : NF M ∧ M.sz = z) (hX : RB T X (.slice a2 n2 c2) [List.replicate m2 0]) => CZ.out T X jb b M R m2 (Nat.le_trans hm2b (by decide)) a2 n2 c2 h t hn hX)
        rw [hfx] at CZ2
        have MK2 := fun (X : World) => MK.out X m2 (Nat.le_trans hm2b (by decide))
        have HM2 := hid_of (show m2 ≤ 1000 from Nat.le_trans hm2b (by decide))
        have f2 : ¬ (m2 : Int) < 0 := hneg
        clear hlf hl1 hl2 hm1 hmx hlm hm1b hrl hfx hneg hm2b
        go_wp2_with (first
          | (go_at_call 19; ((with_reducible refine (CRC.out T wr jb b M R true hJ.out hT.out).mono ?_); (rintro e w3 ⟨lo, ln, lc, rfl, q1, q2⟩)); have L3 := hid_of q1; have J3 := hid_of (hJ.out.bel q2); have T3 := hid_of (hT.out.next q2.size); have B3 := hid_of (hb.out.trans (q2.mono hT.out.hB)); have HLL9 := hid_of q1.len.1; have ln9 := Nat.le_trans (Nat.le_of_eq q1.len.1) HRL.out; clear q1 q2)
          | (go_at_call 20; ((with_reducible refine (CL2.out _ w3 M J3.out hN.out).mono ?_); (rintro e w4 ⟨rfl, q2⟩)); have J4 := hid_of (J3.out.bel0 T3.out q2); have T4 := hid_of (T3.out.same q2.size); have B4 := hid_of (B3.out.trans (q2.mono T3.out.hB)); have L4 := hid_of (L3.out.bel q2); obtain ⟨W5, hW5, r8, b8⟩ := row_one w4 m1 (Nat.le_trans HM1.out (by decide)); have J5 := hid_of (J4.out.bel b8); have T5 := hid_of (T4.out.next b8.size); have RB1 := hid_of (r8.mono (T := Tn (Tn T wr w3) w4 W5) fun k hk => Or.inr hk); have B5 := hid_of (B4.out.trans (b8.mono T4.out.hB)); have L5 := hid_of (L4.out.tn b8); clear q2 r8 b8)
          | (go_at_call 32; rw [← hW5]; ((with_reducible refine (CZ1.out _ W5 M _ _ _ J5.out T5.out hN.out RB1.out).mono ?_); (rintro e w6 ⟨rfl, ⟨M6, q1, q2, q3, q4⟩⟩)); have J6 := hid_of q1; have N6 := hid_of q2; have B6 := hid_of (B5.out.trans q3); have T6 := hid_of (T5.out.same q4.1); have L6 := hid_of (L5.out.keep q4); clear q1 q2 q3 q4)
          | (go_at_call 19; ((with_reducible refine (CRC.out _ w6 jb b M6 R true J6.out T6.out).mono ?_); (rintro e w7 ⟨zo, zn, zc, rfl, q1, q2⟩)); have Q7 := hid_of q1; have J7 := hid_of (J6.out.bel0 T6.out q2); have T7 := hid_of (T6.out.same q2.size); have B7 := hid_of (B6.out.trans (q2.mono T6.out.hB)); have L7 := hid_of (L6.out.bel q2); clear q1 q2)
          | (go_at_call 18; ((with_reducible refine (CSM.out _ _ R zo zn zc lo ln lc w7 Q7.out L7.out).mono ?_); (rintro e w8 ⟨rfl, q2⟩)); have J8 := hid_of (J7.out.bel0 T7.out q2); have T8 := hid_of (T7.out.same q2.size); have B8 := hid_of (B7.out.trans (q2.mono T7.out.hB)); have L8 := hid_of (L7.out.bel q2); clear q2)
          | (go_at_call 20; ((with_reducible refine (CL2.out _ w8 M6 J8.out N6.out).mono ?_); (rintro e w9 ⟨rfl, q2⟩)); have J9 := hid_of (J8.out.bel0 T8.out q2); have T9 := hid_of (T8.out.same q2.size); have B9 := hid_of (B8.out.trans (q2.mono T8.out.hB)); have L9 := hid_of (L8.out.bel q2); clear q2)
          | (go_at_call 12; ((with_reducible refine (AW.out w9).mono ?_); (rintro e wA ⟨rfl, h1⟩)); have JA := hid_of (J9.out.bel0 T9.out h1); have TA := hid_of (T9.out.same h1.size); have BA := hid_of (B9.out.trans (h1.mono T9.out.hB)); have LA := hid_of (L9.out.bel h1); obtain ⟨WB, hWB, r8, b8⟩ := row_one wA m2 (Nat.le_trans HM2.out (by decide)); have JB := hid_of (JA.out.bel b8); have TB := hid_of (TA.out.next b8.size); have RB2 := hid_of (r8.mono (T := Tn (Tn (Tn T wr w3) w4 W5) wA WB) fun k hk => Or.inr hk); have BB := hid_of (BA.out.trans (b8.mono TA.out.hB)); have LB := hid_of (LA.out.tn b8); clear h1 r8 b8)
          | (go_at_call 32; rw [← hWB]; ((with_reducible refine (CZ2.out _ WB M6 _ _ _ JB.out TB.out N6.out RB2.out).mono ?_); (rintro e wC ⟨rfl, ⟨MC, q1, q2, q3, q4⟩⟩)); have JC := hid_of q1; have TC := hid_of (TB.out.same q4.1); have BC := hid_of (BB.out.trans q3); clear q1 q2 q3 q4)
          | (go_at_call 19; ((with_reducible refine (CRC.out _ wC jb b MC _ true JC.out TC.out).mono ?_); (rintro e wD ⟨vo, vn, vc, rfl, q1, q2⟩)); have hvn := q1.len.1; rw [List.length_append, ← HLL9.out] at hvn; change vn = ln + 1 at hvn; subst hvn; have BD := hid_of (BC.out.trans (q2.mono TC.out.hB)); clear q1 q2))
        go_ret
        exact ⟨rfl, BD.out⟩
end Go.Proofs.Ytofmijebinnejaa
