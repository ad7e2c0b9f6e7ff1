/- Texts in one: JrK, JrR, JrL3. -/
import Derived.Test.YtofmijebinnejaaMgRE
import Derived.Deep.Grids
set_option linter.unusedVariables false
set_option linter.unusedSimpArgs false
/- A slice of bools, an operation of a journal by value: opened. No condition. -/
namespace Go.Proofs.Ytofmijebinnejaa
open Go.RowKit Go.ChangeShapes Go.WideShapes Go.ChangeAt
set_option maxRecDepth 100000 in
theorem open_bls {H : Type} {enc : TypeId × Value → H} {w : World} {fuel : Nat} {v : Value} {x : DataW H × List MemPlace} (h : DataW.trod enc Try.prog w 0 (fun _ => true) true fuel 54 [v] = some x) :
    ∃ l : List Bool, Rd w v (bls l) := by
  rcases Go.Deep.open_bools Try.underlying54 Try.underlying4 (by kernel_rfl) h with ⟨e, _⟩ | ⟨a, len, cap, B, e, _, hl, hm, _, hcell⟩
  · simp only [List.cons.injEq, and_true] at e
    subst e
    exact ⟨[], ⟨none, 0, rfl, Nat.le_refl _, by omega, fun h => by simp [bls] at h⟩⟩
  · simp only [List.cons.injEq, and_true] at e
    subst e
    unfold maxLen at hm
    have hll : (bls ((List.range len).map B)).length = len := by simp [bls]
    refine ⟨(List.range len).map B, some a, cap, by rw [hll], by rw [hll]; exact hl, by omega, fun h0 => ?_⟩
    rw [hll] at h0
    have h6 := hcell 0 (by omega)
    rw [show a.add 0 = a by rfl] at h6
    have hx := spot_none h6
    refine ⟨a.block, a.off, by rw [← hx], World.block_lt_of_cell? w _ h6, fun j u hu => ?_⟩
    have hj : j < len := by
      have := (List.getElem?_eq_some_iff.1 hu).1
      rw [hll] at this; exact this
    have h7 := hcell j (by omega)
    rw [hx, Addr.add_mid] at h7
    rw [h7, ← hu]
    simp [bls, hj]
set_option maxRecDepth 100000 in
theorem open_jopv {H : Type} {enc : TypeId × Value → H} {w : World} {base : Nat} {v : Value} {d : DataW H} {p : List MemPlace} (hv : Value.okWide Try.prog w .any base 38 v) (h : DataW.Trod enc Try.prog w 0 (fun _ => true) true 38 v d p) :
    ∃ (s : Bool) (a : Option Addr) (n c : Nat) (R : List (List Int)), v = .agg #[.bool s, .slice a n c] ∧ RB (fun k => k < w.heap.size) w (.slice a n c) R ∧ ∀ l ∈ R, Byt l := by
  obtain ⟨cs, rfl, _⟩ := okWide_struct Try.underlying38 hv
  obtain ⟨fuel, hf⟩ := h
  obtain ⟨y0, y1, m, _, hl, h0, h1⟩ := trod_struct2 Try.underlying38 hf
  rw [Try.cellsOpJ] at hl
  obtain ⟨v0, v1, rfl⟩ : ∃ v0 v1, cs = #[v0, v1] := by
    have hl2 : cs.toList.length = 2 := hl
    match e : cs.toList, hl2 with
    | [v0, v1], _ => exact ⟨v0, v1, by rw [← Array.toArray_toList (xs := cs), e]⟩
  change DataW.trod enc Try.prog w 0 (fun _ => true) true m 4 [v0] = some y0 at h0
  change DataW.trod enc Try.prog w 0 (fun _ => true) true m 34 [v1] = some y1 at h1
  obtain ⟨b, e0, _⟩ := DataW.trod_bool Try.underlying4 h0
  simp only [List.cons.injEq, and_true] at e0
  subst e0
  obtain ⟨R, r1, r2⟩ := open_recs h1
  obtain ⟨a, n, c, rfl⟩ : ∃ a n c, v1 = .slice a n c := by
    obtain ⟨xs, ⟨ao, cap, e, _⟩, _⟩ := r1
    exact ⟨ao, _, cap, e⟩
  exact ⟨b, a, n, c, R, rfl, r1, r2⟩
end Go.Proofs.Ytofmijebinnejaa

/- run: a walk that three laws share. Bounds on sizes alone. -/
namespace Go.Proofs.Ytofmijebinnejaa
open Go.RowKit
set_option maxRecDepth 100000
set_option maxHeartbeats 12800000

theorem results_tmp4 {fn : Func} {t u v x : Tmp} (h : fn.results = #[.tmp t, .tmp u, .tmp v, .tmp x]) (tmps : Array Value) (P : Program) (w : World) :
    (results fn tmps).run P w = .ok (.tuple #[tmps.getD t undef, tmps.getD u undef, tmps.getD v undef, tmps.getD x undef]) w := by
  simp [results, h]
theorem ret_four {a b : Value} {i k : Int} {c : Bool} (h : i = k) : Ending.returned (.tuple #[a, b, .int .i64 i, .bool c]) = Ending.returned (.tuple #[a, b, .int .i64 k, .bool c]) := by rw [h]
/-- What a run leaves: the lists before and behind the last operation, one of which the region holds. -/
def RunQ (B : Nat) (w w' : World) (jb b : Nat) (n z : Nat) (e : Ending) : Prop := ∃ (yo : Option Addr) (yn yc : Nat) (zo : Option Addr) (zn zc : Nat) (k : Nat), e = .returned (.tuple #[.slice yo yn yc, .slice zo zn zc, .int .i64 k, .bool true]) ∧ ∃ (M' : DM) (R' Rb : List (List Int)) (wk' : Bool) (T' : Nat → Prop), JR B T' w' jb b M' 0 n R' wk' ∧ TR B T' w' ∧ M'.sz = z ∧ RB T' w' (.slice yo yn yc) R' ∧ RB T' w' (.slice zo zn zc) Rb ∧ Amb M' 0 n R' Rb ∧ (wk' = false → M'.off = true) ∧ Below B w w'
theorem run_any {B : Nat} {T0 : Nat → Prop} {w : World} {jb b : Nat} {M0 : DM} {n z ar : Nat} {R0 : List (List Int)} (h : JR B T0 w jb b M0 0 n R0 true) (t : TR B T0 w) (hz : M0.sz = z) (har : (n - 1) * z = ar) (ha : ar ≤ 330) (a : Option Addr) (len cap : Nat) (l : List JX) (hin : JsIn B w a len cap l) (hF : FewP l) (lo0 : Option Addr) (ln0 lc0 : Nat) (hL : RB T0 w (.slice lo0 ln0 lc0) R0) :
    Calls Try.prog 30 #[.pointer (some ⟨jb, 0, none⟩), .slice a len cap, .slice lo0 ln0 lc0, .int .i64 ar] w fun e w' => RunQ B w w' jb b n z e := by
  have HAR := hid_of har
  have HIN := hid_of (fun (X : World) (h : Below B w X) => hin.at h)
  have HLL := hid_of hin.1
  have hcap := hin.2.1.cut.2
  have len9 : len ≤ 9223372036854775807 := by omega
  have HFM := hid_of (fun (x : JX) (hx : x ∈ l) => few_stream hF hx)
  have COP := hid_of (fun (T : Nat → Prop) (X : World) (M : DM) (R Xs : List (List Int)) (rs : Bool) (a2 : Option Addr) (n2 c2 : Nat) (h : JR B T X jb b M 0 n R true) (t : TR B T X) (hz : M.sz = z) (hX : RB T X (.slice a2 n2 c2) Xs) (hb : ∀ r ∈ Xs, Byt r) (hl : (streamF Xs).length ≤ 6200) => show Calls Try.prog 17 #[.pointer (some ⟨jb, 0, none⟩), .agg #[.bool rs, .slice a2 n2 c2]] X (fun e w' => ∃ cd, e = .returned (.int .i64 cd) ∧ ∃ M', M'.sz = z ∧ Below B X w' ∧ Keeps T X w' ∧ ((cd = (nxtF R rs Xs ar).2 ∧ JR B T w' jb b M' 0 n (nxtF R rs Xs ar).1 true) ∨ (cd = 8 ∧ JR B T w' jb b M' 0 n R false ∧ Amb M' 0 n R (nxtF R rs Xs ar).1 ∧ M'.off = true))) from by
    refine (h.op t rs Xs a2 n2 c2 hX hb (by omega)).mono fun e w' ⟨cd, q1, q2⟩ => ⟨cd, q1, ?_⟩
    obtain ⟨M', e1, _, k1, k2, k3⟩ := JrQ.any h q2
    rw [hz, HAR.out] at k3
    exact ⟨M', e1.trans hz, k1, k2, k3⟩)
  have CAF := hid_of (fun (T : Nat → Prop) (X : World) (R Xs : List (List Int)) (rs : Bool) (a1 : Option Addr) (n1 c1 : Nat) (a2 : Option Addr) (n2 c2 : Nat) (h1 : RB T X (.slice a1 n1 c1) R) (h2 : RB T X (.slice a2 n2 c2) Xs) (t : TR B T X) (hl : (streamF R).length ≤ ar) (hl2 : (streamF Xs).length ≤ 6200) => lw_after R Xs rs a1 n1 c1 a2 n2 c2 ar h1 h2 t (by omega) hl2 (by omega))
  have CDN := hid_of (fun (T : Nat → Prop) (X : World) (M : DM) (R : List (List Int)) (h : JR B T X jb b M 0 n R false) => show Calls Try.prog 22 #[.pointer (some ⟨jb, 0, none⟩)] X (fun e w' => e = .returned (.bool true) ∧ X = w') from h.down)
  have J0 := hid_of h
  have T00 := hid_of t
  have L0 := hid_of hL
  have Z0 := hid_of hz
  clear h t hL hz hin hF har hcap
  go_enter Try.func30, Try.ntmps30
  go_wp2
  go_loopw [2, 12] (fun lv iv wr => ∃ (i : Nat) (R : List (List Int)) (M : DM) (T : Nat → Prop) (lo : Option Addr) (ln lc : Nat), i ≤ len ∧ iv = .int .i64 i ∧ lv = .slice lo ln lc ∧ Hid (JR B T wr jb b M 0 n R true) ∧ Hid (TR B T wr) ∧ Hid (RB T wr (.slice lo ln lc) R) ∧ Hid (M.sz = z) ∧ Hid (Below B w wr)) (fun _ iv _ => len - (intOf iv).toNat)
  case atStart => exact ⟨0, R0, M0, T0, _, _, _, Nat.zero_le _, rfl, rfl, J0, T00, L0, Z0, hid_of (Below.refl _ _)⟩
  case round =>
    obtain ⟨i, R, M, T, lo, ln, lc, hi, rfl, rfl, hJ, hT, hL, hN, hb⟩ := hrel
    have hA : Hid ((streamF R).length ≤ ar) := hid_of (by have h9 := hJ.out.area; rwa [hN.out, HAR.out] at h9)
    by_cases hlt : i < len
    · have d1 : decide (i < len) = true := decide_eq_true hlt
      have hlt' : (i : Int) < (len : Int) := by omega
      obtain ⟨g, o, x, xb, xn, xc, hx, rfl, hv, c0, c1, hok, hxn, hc1, hc2⟩ := (HIN.out wr hb.out).get hlt
      have HX := hid_of (List.mem_of_getElem? hx)
      have HOK := hid_of hok
      have HXR := hid_of (JX.t hok hv hT.out)
      have HXB := hid_of hok.2
      have HLT := hid_of hlt
      have HFX := hid_of (HFM.out x HX.out)
      have HCL := hid_of (fun (X : World) (hX : Below B w X) => show X.cell? ⟨g, o + i * 2, none⟩ = some (.bool x.rs) ∧ X.cell? ⟨g, o + i * 2 + 1, none⟩ = some (.slice xb xn xc) from by
        obtain ⟨g', o', x', xb', xn', xc', hx', e', hv', c0', c1', _⟩ := (HIN.out X hX).get hlt
        simp only [Option.some.injEq, Addr.mk.injEq] at e'
        obtain ⟨rfl, rfl, _⟩ := e'
        rw [hx] at hx'
        cases hx'
        rw [hv] at hv'
        cases hv'
        exact ⟨c0', c1'⟩)
      have xn9 : xn ≤ 9223372036854775807 := by have := (JX.t hok hv hT.out).len.2; omega
      obtain ⟨rs, hrs⟩ : ∃ rs, rs = x.rs := ⟨_, rfl⟩
      rw [← hrs] at c0 HCL
      obtain ⟨R2, hR2⟩ : ∃ R2, R2 = (nxtF R rs x.xs ar).1 := ⟨_, rfl⟩
      obtain ⟨cd, hcd⟩ : ∃ cd, cd = (nxtF R rs x.xs ar).2 := ⟨_, rfl⟩
      have hcd8 : ¬ cd = 8 := by
        rw [hcd]
        unfold nxtF
        split
        · simp
        · split <;> simp
      have CA := hid_of (CAF.out T wr R x.xs rs lo ln lc xb xn xc hL.out HXR.out hT.out hA.out HFX.out)
      have CP := hid_of (fun (T : Nat → Prop) (X : World) (h : JR B T X jb b M 0 n R true) (t : TR B T X) (hX : RB T X (.slice xb xn xc) x.xs) => COP.out T X M R x.xs rs xb xn xc h t hN.out hX HXB.out HFX.out)
      rw [← hR2, ← hcd] at CA CP
      have e8 : decide (cd = 8) = false := decide_eq_false hcd8
      have e9 : (cd == 8) = false := beq_eq_false_iff_ne.2 hcd8
      clear hx hok hxn hrs hR2 hcd hlt hv
      go_wp2_with (first
        | (go_at_call 16; ((with_reducible refine (CA.out).mono ?_); (rintro e w3 ⟨yo, yn, yc, rfl, q1, q2⟩)); have R3 := hid_of q1; have J3 := hid_of (hJ.out.bel q2); have T3 := hid_of (hT.out.next q2.size); have L3 := hid_of (hL.out.tn q2); have B3 := hid_of (hb.out.trans (q2.mono hT.out.hB)); have X3 := hid_of (HXR.out.tn q2); obtain ⟨k0, k1⟩ := HCL.out w3 B3.out; clear q1 q2)
        | (go_at_call 17; ((with_reducible refine (CP.out _ w3 J3.out T3.out X3.out).mono ?_); (rintro e w4 ⟨cc, rfl, ⟨M4, q1, q2, q3, q4⟩⟩)); have N4 := hid_of q1; have B4 := hid_of (B3.out.trans q2); have T4 := hid_of (T3.out.same q3.1); have R4 := hid_of (R3.out.keep q3); have L4 := hid_of (L3.out.keep q3); clear q1 q2 q3; rcases q4 with ⟨rfl, q5⟩ | ⟨rfl, q5, q6, q7⟩)
        | (go_at_call 22; ((with_reducible refine (CDN.out _ w4 _ _ q5).mono ?_); (rintro e w9 ⟨rfl, rfl⟩))))
      · go_roundw
        case rel => exact ⟨i + 1, R2, M4, _, yo, yn, yc, HLT.out, by go_num, rfl, hid_of q5, T4, R4, N4, B4⟩
        case measure => have := HLT.out; simp [intOf]; omega
      · (try simp only [Exit.inBlock, Exit.then])
        refine bodyPost_ret (results_tmp4 rfl _ _ _) rfl ?_
        exact ⟨lo, ln, lc, yo, yn, yc, i + 1, ret_four (by go_num), M4, R, R2, false, _, q5, T4, N4, L4, R4, q6, fun _ => q7, B4⟩
    · have d1 : decide (i < len) = false := decide_eq_false hlt
      go_wp2
      (try simp only [Exit.inBlock, Exit.then])
      refine bodyPost_ret (results_tmp4 rfl _ _ _) rfl ?_
      have g := hJ.out.live rfl
      exact ⟨lo, ln, lc, lo, ln, lc, len, rfl, M, R, R, true, T, hJ.out, hT.out, hN.out, hL.out, hL.out, amb_clean g.clean (g.holds hJ.out.fit), fun h9 => (by cases h9), hb.out⟩
end Go.Proofs.Ytofmijebinnejaa

/- The law Crash. Bounds on sizes alone. -/
namespace Go.Proofs.Ytofmijebinnejaa
open Go.RowKit
set_option maxRecDepth 100000
set_option maxHeartbeats 12800000

theorem amb_pick {M : DM} {n : Nat} {R R2 : List (List Int)} (h : Amb M 0 n R R2) (kp : List Bool) : ∃ Rc, holdsD (crashF M kp) 0 n = some Rc ∧ (Rc = R ∨ Rc = R2) := by
  rcases h kp with h | h
  · exact ⟨_, h, Or.inl rfl⟩
  · exact ⟨_, h, Or.inr rfl⟩
theorem crash_law (x y : Int) (a : Option Addr) (len cap : Nat) (l : List JX) (f : Int) (ka : Option Addr) (kn kc : Nat) (kl : List Bool) (w : World) (w0 : (Lit.int .u8 x).wf = true) (w1 : (Lit.int .u8 y).wf = true) (w2 : JsIn w.heap.size w a len cap l) (w3 : (Lit.int .u8 f).wf = true) (w4 : Rd w (.slice ka kn kc) (bls kl)) :
    Calls Try.prog 6 #[.int .u8 x, .int .u8 y, .slice a len cap, .int .u8 f, .slice ka kn kc] w (BoP true w) := by
  obtain ⟨x, rfl, hx⟩ := lw_num w0
  obtain ⟨y, rfl, hy⟩ := lw_num w1
  clear w0 w1
  obtain ⟨f, rfl, hf⟩ := lw_num w3
  clear w3
  obtain ⟨fb, hfb, CF⟩ := few_any w.heap.size a len cap l w w2
  have HCF := hid_of CF
  have AW := hid_of (fun w => awake_any w)
  have hkc := (rd_cut w4).2
  have kn9 : kn ≤ 9223372036854775807 := by omega
  by_cases hk : 100 < kn
  · have k1 : decide ((kn : Int) > 100) = true := decide_eq_true (by omega)
    have k2 : decide (100 < kn) = true := decide_eq_true hk
    cases fb
    all_goals clear CF w2 w4 hfb
    all_goals go_enter Try.func6, Try.ntmps6
    all_goals go_wp2_with (first
      | (go_at_call 11; ((with_reducible refine (HCF.out).mono ?_); (rintro e w1 ⟨rfl, rfl⟩)))
      | (go_at_call 12; ((with_reducible refine (AW.out _).mono ?_); (rintro e w2 ⟨rfl, h1⟩)); (have E2 := hid_of h1); clear h1))
    all_goals go_ret
    all_goals exact ⟨rfl, E2.out⟩
  have k1 : decide ((kn : Int) > 100) = false := decide_eq_false (by omega)
  have k2 : decide (100 < kn) = false := decide_eq_false hk
  cases fb with
  | false =>
    clear CF w2 w4
    go_enter Try.func6, Try.ntmps6
    go_wp2_with (first
      | (go_at_call 11; ((with_reducible refine (HCF.out).mono ?_); (rintro e w1 ⟨rfl, rfl⟩)))
      | (go_at_call 12; ((with_reducible refine (AW.out _).mono ?_); (rintro e w2 ⟨rfl, h1⟩)); (have E2 := hid_of h1); clear h1))
    go_ret
    exact ⟨rfl, E2.out⟩
  | true =>
  have hF := hfb rfl
  have CSH := hid_of (fun X => shape_any x y hx hy X)
  obtain ⟨n, hn⟩ : ∃ n, n = 2 + x % 6 := ⟨_, rfl⟩
  obtain ⟨z, hz⟩ : ∃ z, z = 16 + y % 40 := ⟨_, rfl⟩
  rw [← hn, ← hz] at CSH
  have hn2 : 2 ≤ n ∧ n ≤ 7 := by omega
  have hz2 : 16 ≤ z ∧ z ≤ 55 := by omega
  obtain ⟨p, hp⟩ : ∃ p, p = n - 1 := ⟨_, rfl⟩
  obtain ⟨ar, har⟩ : ∃ ar, ar = p * z := ⟨_, rfl⟩
  have har2 : ar ≤ 6 * 55 := by rw [har]; exact Nat.mul_le_mul (by omega) hz2.2
  have s1 : IntKind.i64.wrap ((n : Int) - 1) = (p : Int) := by rw [show (n : Int) - 1 = (p : Int) by omega]; exact IntWalk.i64_in _ (by omega)
  have s2 : IntKind.i64.wrap ((p : Int) * (z : Int)) = (ar : Int) := by rw [← Int.natCast_mul, ← har]; exact IntWalk.i64_in _ (by omega)
  have HAR : Hid ((n - 1) * z = ar) := hid_of (by rw [har, hp])
  have CN := hid_of (fun X => dr_new n z (by omega) (by omega) hz2.1 (by omega) X)
  obtain ⟨B, hB⟩ : ∃ B, B = w.heap.size := ⟨_, rfl⟩
  have HIN := hid_of (fun (X : World) (h : Below B w X) => (show JsIn B X a len cap l by rw [hB] at h ⊢; exact w2.at h))
  have HLL := hid_of w2.1
  have hcap := w2.2.1.cut.2
  have CN2 := hid_of (show Calls Try.prog 14 #[.int .i64 n, .int .i64 z] w fun e w' => ∃ b, e = .returned (.tuple #[.pointer (some ⟨b, 0, none⟩), .int .i64 0]) ∧ DR B (fun k => k < B) w' b (newF n z) ∧ Below B w w' from by rw [hB]; exact CN.out w)
  have TN := hid_of (fun (X : World) (h : Below B w X) => show TR B (fun k => k < B) X from by have h9 := tr_new (w := w) (w' := X) (by have := h.size; omega); rwa [← hB] at h9)
  have CO := hid_of (fun (X : World) (b : Nat) (h : DR B (fun k => k < B) X b (newF n z)) (t : TR B (fun k => k < B) X) => lw_open n z hn2.1 hz2.1 h t)
  have HFM := hid_of (fun (x : JX) (hx : x ∈ l) => few_stream hF hx)
  have S0 : Hid (NF (newF n z) ∧ (newF n z).sz = z) := hid_of ⟨new_nf n z, rfl⟩
  have len9 : len ≤ 9223372036854775807 := by omega
  have HKP := hid_of (fun (X : World) (h : Below B w X) => show Rd X (.slice ka kn kc) (bls kl) ∧ (0 < (bls kl).length → In (fun k => k < B) (.slice ka kn kc)) from by
    rw [hB] at h ⊢
    exact ⟨w4.at h, fun h0 => rd_in w4 h0⟩)
  have CRC := hid_of (fun (T : Nat → Prop) (X : World) (jb b : Nat) (M : DM) (R : List (List Int)) (wk : Bool) (h : JR B T X jb b M 0 n R wk) (t : TR B T X) => h.records t)
  have CLF := hid_of (fun (T : Nat → Prop) (X : World) (jb b : Nat) (M : DM) (R : List (List Int)) (h : JR B T X jb b M 0 n R true) (hn : M.sz = z) => show Calls Try.prog 20 #[.pointer (some ⟨jb, 0, none⟩)] X (fun e w' => e = .returned (.int .i64 (leftF R ar)) ∧ Below X.heap.size X w') from by
    have h1 := h.left
    rw [if_pos rfl, hn, HAR.out] at h1
    exact h1)
  have CSX := hid_of (fun (S1 S2 : Nat → Prop) (R1 R2 : List (List Int)) (a1 : Option Addr) (n1 c1 : Nat) (a2 : Option Addr) (n2 c2 : Nat) (X : World) (h1 : RB S1 X (.slice a1 n1 c1) R1) (h2 : RB S2 X (.slice a2 n2 c2) R2) => same_any S1 S2 R1 R2 a1 n1 c1 a2 n2 c2 X h1 h2)
  have CRL := hid_of (fun (T : Nat → Prop) (R : List (List Int)) (a1 : Option Addr) (n1 c1 : Nat) (X : World) (h : RB T X (.slice a1 n1 c1) R) (t : TR B T X) (hl : (streamF R).length ≤ ar) => rleft_any T R a1 n1 c1 ar X h t.lt hl (by omega))
  have CFL := hid_of (fun (T : Nat → Prop) (X : World) (jb b : Nat) (M : DM) (R : List (List Int)) (wk : Bool) (k : Nat) (hk : k ≤ 255) (h : JR B T X jb b M 0 n R wk) (t : TR B T X) => h.fail t k ⟨by omega, by omega⟩)
  have CRN := hid_of (fun (T : Nat → Prop) (X : World) (jb b : Nat) (M : DM) (R : List (List Int)) (lo : Option Addr) (ln lc : Nat) (h : JR B T X jb b M 0 n R true) (t : TR B T X) (hz : M.sz = z) (hb : Below B w X) (hL : RB T X (.slice lo ln lc) R) => run_any h t hz HAR.out (by omega) a len cap l (HIN.out X hb) hF lo ln lc hL)
  have CCR := hid_of (fun (T : Nat → Prop) (X : World) (jb b : Nat) (M : DM) (R : List (List Int)) (wk : Bool) (h : JR B T X jb b M 0 n R wk) (t : TR B T X) (hb : Below B w X) => h.crash t ka kn kc kl (HKP.out X hb))
  have COX := hid_of (fun (T : Nat → Prop) (X : World) (jb b : Nat) (M : DM) (keep : List Bool) (R Rc : List (List Int)) (wk : Bool) (h : JR B T X jb b (crashF M keep) 0 n R wk) (t : TR B T X) (hy : holdsD (crashF M keep) 0 n = some Rc) => show Calls Try.prog 15 #[.pointer (some ⟨b, 0, none⟩), .int .i64 0, .int .i64 n] X (fun e w' => ∃ jb, e = .returned (.tuple #[.pointer (some ⟨jb, 0, none⟩), .int .i64 0]) ∧ JR B T w' jb b (crashF M keep) 0 n Rc true ∧ Below X.heap.size X w') from h.disk.opened (fs := 0) (ct := n) t h.fit.reg h.fit.sz h.rM rfl rfl hy)
  have s5 : IntKind.i64.wrap (f : Int) = (f : Int) := IntWalk.i64_in _ (by omega)
  have HF255 := hid_of hf
  rw [show BoP true w = fun e w' => e = .returned (.bool true) ∧ Below B w w' from by rw [hB]; rfl]
  clear CF w2 hF hfb hn hz hp har hB hcap CN w4 hf
  go_enter Try.func6, Try.ntmps6
  go_wp2_with (first
    | (go_at_call 11; ((with_reducible refine (HCF.out).mono ?_); (rintro e w1 ⟨rfl, rfl⟩)))
    | (go_at_call 13; ((with_reducible refine (CSH.out _).mono ?_); (rintro e w1 ⟨rfl, rfl⟩)))
    | (go_at_call 14; ((with_reducible refine (CN2.out).mono ?_); (rintro e w1 ⟨b, rfl, q1, q2⟩)); have D1 := hid_of q1; have B1 := hid_of q2; have T1 := hid_of (TN.out w1 q2); clear q1 q2)
    | (go_at_call 15; ((with_reducible refine (CO.out w1 b D1.out T1.out).mono ?_); (rintro e w2 ⟨jb, rfl, q1, q2⟩)); have J2 := hid_of q1; have B2 := hid_of (B1.out.trans (q2.mono T1.out.hB)); have T2 := hid_of (T1.out.same q2.size); clear q1 q2)
    | (go_at_call 29; ((with_reducible refine (CFL.out _ w2 jb b _ _ true f HF255.out J2.out T2.out).mono ?_); (rintro e w3 ⟨rfl, q1, q2, q3⟩)); have T3 := hid_of (T2.out.same q3.1); have B3 := hid_of (B2.out.trans q2); have b4 := bel_alloc w3 (.cells #[] 46); have J4 := hid_of (q1.bel0 T3.out b4); have T4 := hid_of (T3.out.same b4.size); have B4 := hid_of (B3.out.trans (b4.mono T3.out.hB)); have Z4 := hid_of ((fail_same (newF n z) f).2.1.trans S0.out.2); clear q1 q2 q3 b4)
    | (go_at_call 30; ((with_reducible refine (CRN.out _ _ jb b _ _ _ _ _ J4.out T4.out Z4.out B4.out (rb_nil _ _ _ _ (by omega))).mono ?_); (rintro e w5 ⟨yo, yn, yc, zo, zn, zc, k5, rfl, M5, R5, Rb, wk5, T5, q1, q2, q3, q4, q5, q6, _, q8⟩)); have J5 := hid_of q1; have T5' := hid_of q2; have Z5 := hid_of q3; have Y5 := hid_of q4; have V5 := hid_of q5; have B5 := hid_of (B4.out.trans q8); obtain ⟨Rc, q9, q10⟩ := amb_pick q6 kl; have HRc := hid_of q9; have HOR := hid_of q10; have ZC := hid_of (show (crashF M5 kl).sz = z from q3); clear q1 q2 q3 q4 q5 q6 q8 q9 q10)
    | (go_at_call 23; ((with_reducible refine (CCR.out _ w5 jb b _ _ _ J5.out T5'.out B5.out).mono ?_); (rintro e w6 ⟨rfl, q1, q2, q3⟩)); have J6 := hid_of q1; have T6 := hid_of (T5'.out.same q3.1); have B6 := hid_of (B5.out.trans q2); have Y6 := hid_of (Y5.out.keep q3); have V6 := hid_of (V5.out.keep q3); clear q1 q2 q3)
    | (go_at_call 15; ((with_reducible refine (COX.out _ w6 jb b M5 kl R5 Rc wk5 J6.out T6.out HRc.out).mono ?_); (rintro e w7 ⟨kb, rfl, q1, q2⟩)); have J7 := hid_of q1; have T7 := hid_of (T6.out.same q2.size); have B7 := hid_of (B6.out.trans (q2.mono T6.out.hB)); have Y7 := hid_of (Y6.out.bel q2); have V7 := hid_of (V6.out.bel q2); have A7 : Hid ((streamF Rc).length ≤ ar) := hid_of (by have h9 := J7.out.area; rw [show (crashF M5 kl).sz = M5.sz from rfl, Z5.out, HAR.out] at h9; exact h9); clear q1 q2)
    | (go_at_call 19; ((with_reducible refine (CRC.out _ w7 kb b _ _ true J7.out T7.out).mono ?_); (rintro e w8 ⟨go, gn, gc, rfl, q1, q2⟩)); have G8 := hid_of q1; have J8 := hid_of (J7.out.bel q2); have T8 := hid_of (T7.out.next q2.size); have B8 := hid_of (B7.out.trans (q2.mono T7.out.hB)); have Y8 := hid_of (Y7.out.tn q2); have V8 := hid_of (V7.out.tn q2); clear q1 q2)
    | (go_at_call 12; ((with_reducible refine (AW.out w8).mono ?_); (rintro e w9 ⟨rfl, q2⟩)); have J9 := hid_of (J8.out.bel0 T8.out q2); have T9 := hid_of (T8.out.same q2.size); have B9 := hid_of (B8.out.trans (q2.mono T8.out.hB)); have Y9 := hid_of (Y8.out.bel q2); have V9 := hid_of (V8.out.bel q2); have G9 := hid_of (G8.out.bel q2); clear q2)
    | (go_at_call 18; ((with_reducible refine (CSX.out _ _ Rc R5 go gn gc yo yn yc w9 G9.out Y9.out).mono ?_); (rintro e wA ⟨xA, rfl, hxA, q2⟩)); have JA := hid_of (J9.out.bel0 T9.out q2); have TA := hid_of (T9.out.same q2.size); have BA := hid_of (B9.out.trans (q2.mono T9.out.hB)); have VA := hid_of (V9.out.bel q2); have GA := hid_of (G9.out.bel q2); have HXA := hid_of hxA; clear q2 hxA; cases xA)
    | (go_at_call 18; ((with_reducible refine (CSX.out _ _ Rc Rb go gn gc zo zn zc wA GA.out VA.out).mono ?_); (rintro e wB ⟨xB, rfl, hxB, q2⟩)); have JA := hid_of (JA.out.bel0 TA.out q2); have BA := hid_of (BA.out.trans (q2.mono TA.out.hB)); have GA := hid_of (GA.out.bel q2); have TA := hid_of (TA.out.same q2.size); obtain rfl : xB = true := hxB (by rcases HOR.out with h9 | h9; (exact absurd (HXA.out h9) (by simp)); exact h9); clear q2 hxB)
    | (go_at_call 20; ((with_reducible refine (CLF.out _ _ kb b _ Rc JA.out ZC.out).mono ?_); (rintro e wC ⟨rfl, q2⟩)); have TC := hid_of (TA.out.same q2.size); have BC := hid_of (BA.out.trans (q2.mono TA.out.hB)); have GC := hid_of (GA.out.bel q2); clear q2)
    | (go_at_call 21; ((with_reducible refine (CRL.out _ Rc go gn gc wC GC.out TC.out A7.out).mono ?_); (rintro e wD ⟨rfl, q2⟩)); have BD := hid_of (BC.out.trans (q2.mono TC.out.hB)); clear q2))
  all_goals go_ret
  all_goals exact ⟨rfl, BD.out⟩
end Go.Proofs.Ytofmijebinnejaa
