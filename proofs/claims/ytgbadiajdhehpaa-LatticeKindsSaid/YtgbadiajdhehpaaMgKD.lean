/- Texts in one: LatPrt, LatREq, LatRnm, LatRis, LatRsh, LatRnd, LatRnf, LatRch, LatRfn, LatRfi. -/
import Derived.Test.YtgbadiajdhehpaaMgKC
set_option linter.unusedVariables false
set_option linter.unusedSimpArgs false
/- The law on parts. Bounds on sizes alone. -/
namespace Go.Proofs.Ytgbadiajdhehpaa
open Go.RowKit

set_option maxRecDepth 100000 in
set_option maxHeartbeats 6400000 in
theorem parts_law (t : Lat) (k lo hi : Int) (an : Option Addr) (nn cn : Nat) (ap : Option Addr) (np cp : Nat) (ar : Option Addr) (nr cr : Nat) (w : World) (H : LO w k lo hi an nn cn ap np cp ar nr cr t) : Calls Try.prog 8 #[.agg #[.int .i64 k, .int .i64 lo, .int .i64 hi, .slice an nn cn, .slice ap np cp, .slice ar nr cr]] w (BoP true w) := by
  have HBW := hid_of (bel_alloc w (.cells #[.int .i64 k, .int .i64 lo, .int .i64 hi, .slice an nn cn, .slice ap np cp, .slice ar nr cr] 26))
  have AW := hid_of (fun w => awake_any w)
  have HH := hid_of H
  have HX : Hid (∀ wz, Below (w.alloc (.cells #[.int .i64 k, .int .i64 lo, .int .i64 hi, .slice an nn cn, .slice ap np cp, .slice ar nr cr] 26)).heap.size (w.alloc (.cells #[.int .i64 k, .int .i64 lo, .int .i64 hi, .slice an nn cn, .slice ap np cp, .slice ar nr cr] 26)) wz → _) := hid_of (fun wz hz => box6 k lo hi an nn cn ap np cp ar nr cr hz)
  have CKT := hid_of (fun (wz : World) (hz : Below (w.alloc (.cells #[.int .i64 k, .int .i64 lo, .int .i64 hi, .slice an nn cn, .slice ap np cp, .slice ar nr cr] 26)).heap.size (w.alloc (.cells #[.int .i64 k, .int .i64 lo, .int .i64 hi, .slice an nn cn, .slice ap np cp, .slice ar nr cr] 26)) wz) => check_any t k lo hi an nn cn ap np cp ar nr cr wz (H.at (HBW.out.trans (hz.mono HBW.out.size))))
  have hl := H.p.len
  have hnp : np ≤ 9223372036854775807 := by omega
  clear H
  by_cases h0 : chkL t = 0
  case neg =>
    obtain ⟨E, hE⟩ : ∃ E, E = chkL t := ⟨_, rfl⟩
    rw [← hE] at CKT h0
    have e0 : (E == 0) = false := beq_eq_false_iff_ne.2 h0
    have e1 : (E != 0) = true := bne_iff_ne.2 h0
    clear hE h0 hl
    go_enter Try.func8, Try.ntmps8
    go_wp2_with (first
      | (go_at_call 9; ((with_reducible refine (AW.out _).mono ?_); (rintro e w1 ⟨rfl, h1⟩); (have E1 := hid_of h1); (obtain ⟨p0, p1, p2, p3, p4, p5⟩ := HX.out w1 h1); clear h1))
      | (go_at_call 10; ((with_reducible refine (CKT.out _ E1.out).mono ?_); (rintro e w2 ⟨rfl, h2⟩); (have E2 := hid_of (E1.out.trans (h2.mono E1.out.size))); clear h2)))
    go_ret
    exact ⟨rfl, HBW.out.trans (E2.out.mono HBW.out.size)⟩
  rw [h0] at CKT
  obtain ⟨hd6, hpt⟩ := parts_ok h0
  have HPT := hid_of hpt
  have HNP : Hid (np = t.ps.length) := hid_of hl.1
  have HDT : Hid (depthL t = depthsL t.ps + 1) := hid_of (depthL_eq t)
  have HD6 := hid_of hd6
  have CDT0 := hid_of (fun (wz : World) (hz : Below (w.alloc (.cells #[.int .i64 k, .int .i64 lo, .int .i64 hi, .slice an nn cn, .slice ap np cp, .slice ar nr cr] 26)).heap.size (w.alloc (.cells #[.int .i64 k, .int .i64 lo, .int .i64 hi, .slice an nn cn, .slice ap np cp, .slice ar nr cr] 26)) wz) => dist_any t k lo hi an nn cn ap np cp ar nr cr wz (HH.out.at (HBW.out.trans (hz.mono HBW.out.size))))
  have CFT0 := hid_of (fun (wz : World) (hz : Below (w.alloc (.cells #[.int .i64 k, .int .i64 lo, .int .i64 hi, .slice an nn cn, .slice ap np cp, .slice ar nr cr] 26)).heap.size (w.alloc (.cells #[.int .i64 k, .int .i64 lo, .int .i64 hi, .slice an nn cn, .slice ap np cp, .slice ar nr cr] 26)) wz) => finite_any t k lo hi an nn cn ap np cp ar nr cr wz (HH.out.at (HBW.out.trans (hz.mono HBW.out.size))))
  have CPT : Hid (∀ (wz : World) (hz : Below (w.alloc (.cells #[.int .i64 k, .int .i64 lo, .int .i64 hi, .slice an nn cn, .slice ap np cp, .slice ar nr cr] 26)).heap.size (w.alloc (.cells #[.int .i64 k, .int .i64 lo, .int .i64 hi, .slice an nn cn, .slice ap np cp, .slice ar nr cr] 26)) wz), Calls Try.prog 20 #[.agg #[.int .i64 k, .int .i64 lo, .int .i64 hi, .slice an nn cn, .slice ap np cp, .slice ar nr cr]] wz (DepP t wz)) := hid_of (fun wz hz => depth_any t k lo hi an nn cn ap np cp ar nr cr wz (HH.out.at (HBW.out.trans (hz.mono HBW.out.size))) (by omega))
  obtain ⟨qd, hqd⟩ : ∃ q, q = distL t := ⟨_, rfl⟩
  obtain ⟨qf, hqf⟩ : ∃ q, q = finL t := ⟨_, rfl⟩
  rw [← hqd] at CDT0
  rw [← hqf] at CFT0
  have HQD := hid_of hqd
  have HQF := hid_of hqf
  clear h0 hd6 hpt hl hqd hqf
  go_enter Try.func8, Try.ntmps8
  go_wp2_with (first
    | (go_at_call 9; ((with_reducible refine (AW.out _).mono ?_); (rintro e w1 ⟨rfl, h1⟩); (have E1 := hid_of h1); (obtain ⟨p0, p1, p2, p3, p4, p5⟩ := HX.out w1 h1); clear h1))
    | (go_at_call 10; ((with_reducible refine (CKT.out _ E1.out).mono ?_); (rintro e w2 ⟨rfl, h2⟩); (have E2 := hid_of (E1.out.trans (h2.mono E1.out.size))); clear h2 p0 p1 p2 p3 p4 p5)))
  obtain ⟨WW, hWW⟩ : ∃ WW, WW = (w.alloc (.cells #[.int .i64 k, .int .i64 lo, .int .i64 hi, .slice an nn cn, .slice ap np cp, .slice ar nr cr] 26)) := ⟨_, rfl⟩
  rw [← hWW] at E1 E2 HX HBW CDT0 CFT0 CPT CKT
  clear hWW
  go_loopw [3, 4] (fun mv iv wr => ∃ i m : Nat, mv = .int .i64 m ∧ iv = .int .i64 i ∧ i ≤ np ∧ Hid (m = depthsL (t.ps.take i)) ∧ Hid (Below WW.heap.size WW wr)) (fun _ iv _ => np - (intOf iv).toNat)
  case atStart => exact ⟨0, 0, rfl, rfl, Nat.zero_le _, hid_of rfl, E2⟩
  case round =>
    clear E1 E2
    obtain ⟨i, m, rfl, rfl, hin, HM, hb⟩ := hrel
    have E1 := hb
    by_cases hlt : i < np
    · have d1 : decide (i < np) = true := decide_eq_true hlt
      have hlt' : (i : Int) < (np : Int) := by omega
      have HLT := hid_of hlt
      obtain ⟨u, hu⟩ : ∃ u, t.ps[i]? = some u := ⟨_, List.getElem?_eq_getElem (by have := HNP.out; omega)⟩
      obtain ⟨g, o, kA, loA, hiA, anA, nnA, cnA, apA, npA, cpA, arA, nrA, crA, rfl, LA, hcA⟩ := HH.out.p.get hu
      have hum := HPT.out u (List.mem_of_getElem? hu)
      have hdu := depthsL_get _ _ _ hu
      have hdt := depthsL_take t.ps i
      have HC : Hid (∀ wz, Below WW.heap.size WW wz → (_ ∧ _)) := hid_of (fun wz hz => ⟨HX.out wz hz, hcA wz (HBW.out.trans (hz.mono HBW.out.size))⟩)
      obtain ⟨q, hq⟩ : ∃ q, q = depthL u := ⟨_, rfl⟩
      have hm : m ≤ 6 := by have := HM.out; have := HDT.out; have := HD6.out; omega
      have hqm : q ≤ 6 := by have := HDT.out; have := HD6.out; omega
      have HS : Hid (depthsL (t.ps.take (i + 1)) = max m q) := hid_of (by rw [take_next hu, depthsL_snoc, HM.out, hq])
      have CKU := hid_of (fun (wz : World) (hz : Below WW.heap.size WW wz) => check_any u kA loA hiA anA nnA cnA apA npA cpA arA nrA crA wz (LA.at (HBW.out.trans (hz.mono HBW.out.size))))
      have CDU := hid_of (fun (wz : World) (hz : Below WW.heap.size WW wz) => dist_any u kA loA hiA anA nnA cnA apA npA cpA arA nrA crA wz (LA.at (HBW.out.trans (hz.mono HBW.out.size))))
      have CFU := hid_of (fun (wz : World) (hz : Below WW.heap.size WW wz) => finite_any u kA loA hiA anA nnA cnA apA npA cpA arA nrA crA wz (LA.at (HBW.out.trans (hz.mono HBW.out.size))))
      have CPU : Hid (∀ (wz : World) (hz : Below WW.heap.size WW wz), Calls Try.prog 20 #[.agg #[.int .i64 kA, .int .i64 loA, .int .i64 hiA, .slice anA nnA cnA, .slice apA npA cpA, .slice arA nrA crA]] wz fun e w' => e = .returned (.int .i64 (q : Nat)) ∧ Below wz.heap.size wz w') := hid_of (fun wz hz => by rw [hq]; exact depth_any u kA loA hiA anA nnA cnA apA npA cpA arA nrA crA wz (LA.at (HBW.out.trans (hz.mono HBW.out.size))) (by omega))
      rw [hum.1] at CKU
      have HUD := hid_of hum.2.1
      have HUF := hid_of hum.2.2
      have CDT := CDT0
      have CFT := CFT0
      obtain ⟨⟨p10, p11, p12, p13, p14, p15⟩, r10, r11, r12, r13, r14, r15⟩ := HC.out wr E1.out
      clear hlt hu hcA LA hum hdu hdt hq
      cases qd
      · cases qf
        · go_wp2_with (first
            | (go_at_call 10; ((with_reducible refine (CKU.out _ E1.out).mono ?_); (rintro e w2 ⟨rfl, h2⟩); (have E2 := hid_of (E1.out.trans (h2.mono E1.out.size))); (obtain ⟨⟨p20, p21, p22, p23, p24, p25⟩, r20, r21, r22, r23, r24, r25⟩ := HC w2 E2.out); clear p10 p11 p12 p13 p14 p15 r10 r11 r12 r13 r14 r15; clear h2))
            | (go_at_call 18; ((with_reducible refine (CDT.out _ E2.out).mono ?_); (rintro e w3 ⟨rfl, h3⟩); (have E3 := hid_of (E2.out.trans (h3.mono E2.out.size))); (obtain ⟨⟨p30, p31, p32, p33, p34, p35⟩, r30, r31, r32, r33, r34, r35⟩ := HC w3 E3.out); clear p20 p21 p22 p23 p24 p25 r20 r21 r22 r23 r24 r25; clear h3))
            | (go_at_call 16; ((with_reducible refine (CFT.out _ E3.out).mono ?_); (rintro e w4 ⟨rfl, h4⟩); (have E4 := hid_of (E3.out.trans (h4.mono E3.out.size))); (obtain ⟨⟨p40, p41, p42, p43, p44, p45⟩, r40, r41, r42, r43, r44, r45⟩ := HC w4 E4.out); clear p30 p31 p32 p33 p34 p35 r30 r31 r32 r33 r34 r35; clear h4))
            | (go_at_call 20; ((with_reducible refine (CPU.out _ E4.out).mono ?_); (rintro e w5 ⟨rfl, h5⟩); (have E5 := hid_of (E4.out.trans (h5.mono E4.out.size))); (obtain ⟨⟨p50, p51, p52, p53, p54, p55⟩, r50, r51, r52, r53, r54, r55⟩ := HC w5 E5.out); clear p40 p41 p42 p43 p44 p45 r40 r41 r42 r43 r44 r45; clear h5)))
          go_roundw
          case rel => exact ⟨i + 1, max m q, by go_num, by go_num, HLT.out, hid_of HS.out.symm, E5⟩
          case measure => have := HLT.out; simp [intOf]; omega
        · rw [HUF.out HQF.out.symm] at CFU
          go_wp2_with (first
            | (go_at_call 10; ((with_reducible refine (CKU.out _ E1.out).mono ?_); (rintro e w2 ⟨rfl, h2⟩); (have E2 := hid_of (E1.out.trans (h2.mono E1.out.size))); (obtain ⟨⟨p20, p21, p22, p23, p24, p25⟩, r20, r21, r22, r23, r24, r25⟩ := HC w2 E2.out); clear p10 p11 p12 p13 p14 p15 r10 r11 r12 r13 r14 r15; clear h2))
            | (go_at_call 18; ((with_reducible refine (CDT.out _ E2.out).mono ?_); (rintro e w3 ⟨rfl, h3⟩); (have E3 := hid_of (E2.out.trans (h3.mono E2.out.size))); (obtain ⟨⟨p30, p31, p32, p33, p34, p35⟩, r30, r31, r32, r33, r34, r35⟩ := HC w3 E3.out); clear p20 p21 p22 p23 p24 p25 r20 r21 r22 r23 r24 r25; clear h3))
            | (go_at_call 16; ((with_reducible refine (CFT.out _ E3.out).mono ?_); (rintro e w4 ⟨rfl, h4⟩); (have E4 := hid_of (E3.out.trans (h4.mono E3.out.size))); (obtain ⟨⟨p40, p41, p42, p43, p44, p45⟩, r40, r41, r42, r43, r44, r45⟩ := HC w4 E4.out); clear p30 p31 p32 p33 p34 p35 r30 r31 r32 r33 r34 r35; clear h4))
            | (go_at_call 16; ((with_reducible refine (CFU.out _ E4.out).mono ?_); (rintro e w5 ⟨rfl, h5⟩); (have E5 := hid_of (E4.out.trans (h5.mono E4.out.size))); (obtain ⟨⟨p50, p51, p52, p53, p54, p55⟩, r50, r51, r52, r53, r54, r55⟩ := HC w5 E5.out); clear p40 p41 p42 p43 p44 p45 r40 r41 r42 r43 r44 r45; clear h5))
            | (go_at_call 20; ((with_reducible refine (CPU.out _ E5.out).mono ?_); (rintro e w6 ⟨rfl, h6⟩); (have E6 := hid_of (E5.out.trans (h6.mono E5.out.size))); (obtain ⟨⟨p60, p61, p62, p63, p64, p65⟩, r60, r61, r62, r63, r64, r65⟩ := HC w6 E6.out); clear p50 p51 p52 p53 p54 p55 r50 r51 r52 r53 r54 r55; clear h6)))
          go_roundw
          case rel => exact ⟨i + 1, max m q, by go_num, by go_num, HLT.out, hid_of HS.out.symm, E6⟩
          case measure => have := HLT.out; simp [intOf]; omega
      · rw [HUD.out HQD.out.symm] at CDU
        cases qf
        · go_wp2_with (first
            | (go_at_call 10; ((with_reducible refine (CKU.out _ E1.out).mono ?_); (rintro e w2 ⟨rfl, h2⟩); (have E2 := hid_of (E1.out.trans (h2.mono E1.out.size))); (obtain ⟨⟨p20, p21, p22, p23, p24, p25⟩, r20, r21, r22, r23, r24, r25⟩ := HC w2 E2.out); clear p10 p11 p12 p13 p14 p15 r10 r11 r12 r13 r14 r15; clear h2))
            | (go_at_call 18; ((with_reducible refine (CDT.out _ E2.out).mono ?_); (rintro e w3 ⟨rfl, h3⟩); (have E3 := hid_of (E2.out.trans (h3.mono E2.out.size))); (obtain ⟨⟨p30, p31, p32, p33, p34, p35⟩, r30, r31, r32, r33, r34, r35⟩ := HC w3 E3.out); clear p20 p21 p22 p23 p24 p25 r20 r21 r22 r23 r24 r25; clear h3))
            | (go_at_call 18; ((with_reducible refine (CDU.out _ E3.out).mono ?_); (rintro e w4 ⟨rfl, h4⟩); (have E4 := hid_of (E3.out.trans (h4.mono E3.out.size))); (obtain ⟨⟨p40, p41, p42, p43, p44, p45⟩, r40, r41, r42, r43, r44, r45⟩ := HC w4 E4.out); clear p30 p31 p32 p33 p34 p35 r30 r31 r32 r33 r34 r35; clear h4))
            | (go_at_call 16; ((with_reducible refine (CFT.out _ E4.out).mono ?_); (rintro e w5 ⟨rfl, h5⟩); (have E5 := hid_of (E4.out.trans (h5.mono E4.out.size))); (obtain ⟨⟨p50, p51, p52, p53, p54, p55⟩, r50, r51, r52, r53, r54, r55⟩ := HC w5 E5.out); clear p40 p41 p42 p43 p44 p45 r40 r41 r42 r43 r44 r45; clear h5))
            | (go_at_call 20; ((with_reducible refine (CPU.out _ E5.out).mono ?_); (rintro e w6 ⟨rfl, h6⟩); (have E6 := hid_of (E5.out.trans (h6.mono E5.out.size))); (obtain ⟨⟨p60, p61, p62, p63, p64, p65⟩, r60, r61, r62, r63, r64, r65⟩ := HC w6 E6.out); clear p50 p51 p52 p53 p54 p55 r50 r51 r52 r53 r54 r55; clear h6)))
          go_roundw
          case rel => exact ⟨i + 1, max m q, by go_num, by go_num, HLT.out, hid_of HS.out.symm, E6⟩
          case measure => have := HLT.out; simp [intOf]; omega
        · rw [HUF.out HQF.out.symm] at CFU
          go_wp2_with (first
            | (go_at_call 10; ((with_reducible refine (CKU.out _ E1.out).mono ?_); (rintro e w2 ⟨rfl, h2⟩); (have E2 := hid_of (E1.out.trans (h2.mono E1.out.size))); (obtain ⟨⟨p20, p21, p22, p23, p24, p25⟩, r20, r21, r22, r23, r24, r25⟩ := HC w2 E2.out); clear p10 p11 p12 p13 p14 p15 r10 r11 r12 r13 r14 r15; clear h2))
            | (go_at_call 18; ((with_reducible refine (CDT.out _ E2.out).mono ?_); (rintro e w3 ⟨rfl, h3⟩); (have E3 := hid_of (E2.out.trans (h3.mono E2.out.size))); (obtain ⟨⟨p30, p31, p32, p33, p34, p35⟩, r30, r31, r32, r33, r34, r35⟩ := HC w3 E3.out); clear p20 p21 p22 p23 p24 p25 r20 r21 r22 r23 r24 r25; clear h3))
            | (go_at_call 18; ((with_reducible refine (CDU.out _ E3.out).mono ?_); (rintro e w4 ⟨rfl, h4⟩); (have E4 := hid_of (E3.out.trans (h4.mono E3.out.size))); (obtain ⟨⟨p40, p41, p42, p43, p44, p45⟩, r40, r41, r42, r43, r44, r45⟩ := HC w4 E4.out); clear p30 p31 p32 p33 p34 p35 r30 r31 r32 r33 r34 r35; clear h4))
            | (go_at_call 16; ((with_reducible refine (CFT.out _ E4.out).mono ?_); (rintro e w5 ⟨rfl, h5⟩); (have E5 := hid_of (E4.out.trans (h5.mono E4.out.size))); (obtain ⟨⟨p50, p51, p52, p53, p54, p55⟩, r50, r51, r52, r53, r54, r55⟩ := HC w5 E5.out); clear p40 p41 p42 p43 p44 p45 r40 r41 r42 r43 r44 r45; clear h5))
            | (go_at_call 16; ((with_reducible refine (CFU.out _ E5.out).mono ?_); (rintro e w6 ⟨rfl, h6⟩); (have E6 := hid_of (E5.out.trans (h6.mono E5.out.size))); (obtain ⟨⟨p60, p61, p62, p63, p64, p65⟩, r60, r61, r62, r63, r64, r65⟩ := HC w6 E6.out); clear p50 p51 p52 p53 p54 p55 r50 r51 r52 r53 r54 r55; clear h6))
            | (go_at_call 20; ((with_reducible refine (CPU.out _ E6.out).mono ?_); (rintro e w7 ⟨rfl, h7⟩); (have E7 := hid_of (E6.out.trans (h7.mono E6.out.size))); (obtain ⟨⟨p70, p71, p72, p73, p74, p75⟩, r70, r71, r72, r73, r74, r75⟩ := HC w7 E7.out); clear p60 p61 p62 p63 p64 p65 r60 r61 r62 r63 r64 r65; clear h7)))
          go_roundw
          case rel => exact ⟨i + 1, max m q, by go_num, by go_num, HLT.out, hid_of HS.out.symm, E7⟩
          case measure => have := HLT.out; simp [intOf]; omega
    · have d1 : decide (i < np) = false := decide_eq_false hlt
      have HI : Hid (i = np) := hid_of (by omega)
      have HME : Hid (m = depthsL t.ps) := hid_of (by have := HM.out; rw [HI.out, HNP.out, List.take_length] at this; exact this)
      have hm : m ≤ 5 := by have := HME.out; have := HDT.out; have := HD6.out; omega
      have CPE : Hid (∀ (wz : World) (hz : Below WW.heap.size WW wz), Calls Try.prog 20 #[.agg #[.int .i64 k, .int .i64 lo, .int .i64 hi, .slice an nn cn, .slice ap np cp, .slice ar nr cr]] wz fun e w' => e = .returned (.int .i64 ((m : Int) + 1)) ∧ Below wz.heap.size wz w') := hid_of (fun wz hz => (CPT.out wz hz).mono (by rintro e w' ⟨rfl, h⟩; exact ⟨ret_i (by rw [HDT.out, ← HME.out]; rfl), h⟩))
      obtain ⟨p10, p11, p12, p13, p14, p15⟩ := HX.out wr E1.out
      have d6 : decide (m < 6) = true := decide_eq_true (by omega)
      have d6i : decide ((m : Int) < 6) = true := decide_eq_true (by omega)
      clear hlt
      go_wp2_with (go_at_call 20; ((with_reducible refine (CPE.out _ E1.out).mono ?_); (rintro e w2 ⟨rfl, h2⟩); (have E2 := hid_of (E1.out.trans (h2.mono E1.out.size))); clear h2))
      go_ret
      exact ⟨rfl, HBW.out.trans (E2.out.mono HBW.out.size)⟩
end Go.Proofs.Ytgbadiajdhehpaa

/- The reference: Equal. Bounds on sizes alone. -/
namespace Go.Proofs.Ytgbadiajdhehpaa
open Go.RowKit

set_option maxRecDepth 100000 in
set_option maxHeartbeats 3200000 in
theorem rnames_q (l m : List Str) (ao bo : Option Addr) (n n2 cap cap2 : Nat) (w : World) (R1 : Rd w (.slice ao n cap) (ss l)) (R2 : Rd w (.slice bo n2 cap2) (ss m)) :
    Calls Try.prog 33 #[.slice ao n cap, .slice bo n2 cap2] w (fun e w' => e = .returned (.bool (decide (l = m))) ∧ ∃ m, w' = w.drewN m) := by
  obtain ⟨hn, _, hcap, h3⟩ := rds_open R1
  obtain ⟨hn2, _, hcap2, k3⟩ := rds_open R2
  obtain ⟨r, hr⟩ : ∃ r, r = decide (l = m) := ⟨_, rfl⟩
  rw [← hr]
  have HR := hid_of hr
  clear hr R1 R2
  by_cases hnn : n = n2
  case neg =>
    have RF : Hid (false = r) := hid_of (by rw [HR.out]; exact (decide_eq_false (fun h => hnn (by rw [hn, hn2, h]))).symm)
    have e1 : (n == n2) = false := beq_eq_false_iff_ne.2 hnn
    have e2 : ((n : Int) == (n2 : Int)) = false := beq_eq_false_iff_ne.2 (by omega)
    have e3 : ((n : Int) != (n2 : Int)) = true := bne_iff_ne.2 (by omega)
    clear hnn hn hn2 h3 k3
    go_enter Try.func33, Try.ntmps33
    go_wp2
    go_ret
    exact ⟨ret_b RF.out, 0, rfl⟩
  subst hnn
  have HN := hid_of hn
  have HN2 := hid_of hn2
  have H3 := hid_of h3
  have K3 := hid_of k3
  clear hn hn2 h3 k3
  go_enter Try.func33, Try.ntmps33
  go_wp2
  go_loopw [5] (fun iv wr => ∃ i : Nat, iv = .int .i64 i ∧ i ≤ n ∧ Hid (∀ j, j < i → l[j]? = m[j]?) ∧ Hid (∃ m, wr = w.drewN m)) (fun iv _ => n - (intOf iv).toNat)
  case atStart => exact ⟨0, rfl, Nat.zero_le _, hid_of (fun j h => absurd h (Nat.not_lt_zero j)), hid_of ⟨0, rfl⟩⟩
  case round =>
    obtain ⟨i, rfl, hi, HM, hb⟩ := hrel
    by_cases hlt : i < n
    · have d1 : decide (i < n) = true := decide_eq_true hlt
      have hlt' : (i : Int) < (n : Int) := by omega
      have HLT := hid_of hlt
      have hl : i < l.length := by have := HN.out; omega
      have hm : i < m.length := by have := HN2.out; omega
      rcases H3.out with h3 | ⟨g, o, rfl, hg, hc⟩
      · exfalso; rw [h3] at hl; simp at hl
      rcases K3.out with k3 | ⟨g2, o2, rfl, hg2, hc2⟩
      · exfalso; rw [k3] at hm; simp at hm
      have hbb : Below w.heap.size w wr := by obtain ⟨md, hmd⟩ := hb.out; rw [hmd]; exact bel_drewN (Below.refl _ _) md
      have c1 := (hbb.cell (p := ⟨g, o + i, none⟩) hg).trans (hc i _ (List.getElem?_eq_getElem hl))
      have c2 := (hbb.cell (p := ⟨g2, o2 + i, none⟩) hg2).trans (hc2 i _ (List.getElem?_eq_getElem hm))
      obtain ⟨bx, hx⟩ : ∃ bx, bx = ba l[i] := ⟨_, rfl⟩
      obtain ⟨by', hy⟩ : ∃ by', by' = ba m[i] := ⟨_, rfl⟩
      rw [← hx] at c1
      rw [← hy] at c2
      by_cases he : l[i] = m[i]
      · have et := eq_t hx hy he
        have HE : Hid (∀ j, j < i + 1 → l[j]? = m[j]?) := hid_of (fun j hj => by
          by_cases e : j = i
          · subst e; rw [List.getElem?_eq_getElem hl, List.getElem?_eq_getElem hm, he]
          · exact HM.out j (by omega))
        clear hbb hlt hc hc2 hx hy he hl hm H3 K3 hg hg2 HM
        go_wp2
        go_quiet (fail)
        go_wp2
        go_roundw
        case rel => exact ⟨i + 1, by go_num, HLT.out, HE, hid_of (by obtain ⟨md, hmd⟩ := hb.out; exact ⟨md + nq, by rw [hmd, World.drewN_drewN]⟩)⟩
        case measure => have := HLT.out; simp [intOf]; omega
      · have et := eq_f hx hy he
        have RF : Hid (false = r) := hid_of (by
          rw [HR.out]
          refine (decide_eq_false fun h => he ?_).symm
          subst h; rfl)
        clear hbb hlt hc hc2 hx hy he hl hm H3 K3 hg hg2 HM
        go_wp2
        go_quiet (fail)
        go_wp2
        go_ret
        exact ⟨ret_b RF.out, by obtain ⟨md, hmd⟩ := hb.out; exact ⟨md + nq, by rw [hmd, World.drewN_drewN]⟩⟩
    · have d1 : decide (i < n) = false := decide_eq_false hlt
      have RT : Hid (true = r) := hid_of (by
        rw [HR.out]
        refine (decide_eq_true ?_).symm
        refine List.ext_getElem? fun j => ?_
        by_cases hj : j < n
        · exact HM.out j (by omega)
        · rw [List.getElem?_eq_none (by have := HN.out; omega), List.getElem?_eq_none (by have := HN2.out; omega)])
      go_wp2
      go_ret
      exact ⟨ret_b RT.out, hb.out⟩

theorem two_box {w w' : World} (kA loA hiA : Int) (anA : Option Addr) (nnA cnA : Nat) (apA : Option Addr) (npA cpA : Nat) (arA : Option Addr) (nrA crA : Nat) (kB loB hiB : Int) (anB : Option Addr) (nnB cnB : Nat) (apB : Option Addr) (npB cpB : Nat) (arB : Option Addr) (nrB crB : Nat) (h : Below ((w.alloc (.cells #[.int .i64 kA, .int .i64 loA, .int .i64 hiA, .slice anA nnA cnA, .slice apA npA cpA, .slice arA nrA crA] 26)).alloc (.cells #[.int .i64 kB, .int .i64 loB, .int .i64 hiB, .slice anB nnB cnB, .slice apB npB cpB, .slice arB nrB crB] 26)).heap.size ((w.alloc (.cells #[.int .i64 kA, .int .i64 loA, .int .i64 hiA, .slice anA nnA cnA, .slice apA npA cpA, .slice arA nrA crA] 26)).alloc (.cells #[.int .i64 kB, .int .i64 loB, .int .i64 hiB, .slice anB nnB cnB, .slice apB npB cpB, .slice arB nrB crB] 26)) w') : w'.cell? ⟨w.heap.size, 0, none⟩ = some (.int .i64 kA) ∧ w'.cell? ⟨w.heap.size, 1, none⟩ = some (.int .i64 loA) ∧ w'.cell? ⟨w.heap.size, 2, none⟩ = some (.int .i64 hiA) ∧ w'.cell? ⟨w.heap.size, 3, none⟩ = some (.slice anA nnA cnA) ∧ w'.cell? ⟨w.heap.size, 4, none⟩ = some (.slice apA npA cpA) ∧ w'.cell? ⟨w.heap.size, 5, none⟩ = some (.slice arA nrA crA) ∧
    w'.cell? ⟨w.heap.size + 1, 0, none⟩ = some (.int .i64 kB) ∧ w'.cell? ⟨w.heap.size + 1, 1, none⟩ = some (.int .i64 loB) ∧ w'.cell? ⟨w.heap.size + 1, 2, none⟩ = some (.int .i64 hiB) ∧ w'.cell? ⟨w.heap.size + 1, 3, none⟩ = some (.slice anB nnB cnB) ∧ w'.cell? ⟨w.heap.size + 1, 4, none⟩ = some (.slice apB npB cpB) ∧ w'.cell? ⟨w.heap.size + 1, 5, none⟩ = some (.slice arB nrB crB) := by
  obtain ⟨b1, b2⟩ := two_new w (.cells #[.int .i64 kA, .int .i64 loA, .int .i64 hiA, .slice anA nnA cnA, .slice apA npA cpA, .slice arA nrA crA] 26) (.cells #[.int .i64 kB, .int .i64 loB, .int .i64 hiB, .slice anB nnB cnB, .slice apB npB cpB, .slice arB nrB crB] 26)
  exact ⟨blk_kept (cs := [.int .i64 kA, .int .i64 loA, .int .i64 hiA, .slice anA nnA cnA, .slice apA npA cpA, .slice arA nrA crA]) b1 h rfl, blk_kept (cs := [.int .i64 kA, .int .i64 loA, .int .i64 hiA, .slice anA nnA cnA, .slice apA npA cpA, .slice arA nrA crA]) b1 h rfl, blk_kept (cs := [.int .i64 kA, .int .i64 loA, .int .i64 hiA, .slice anA nnA cnA, .slice apA npA cpA, .slice arA nrA crA]) b1 h rfl, blk_kept (cs := [.int .i64 kA, .int .i64 loA, .int .i64 hiA, .slice anA nnA cnA, .slice apA npA cpA, .slice arA nrA crA]) b1 h rfl, blk_kept (cs := [.int .i64 kA, .int .i64 loA, .int .i64 hiA, .slice anA nnA cnA, .slice apA npA cpA, .slice arA nrA crA]) b1 h rfl, blk_kept (cs := [.int .i64 kA, .int .i64 loA, .int .i64 hiA, .slice anA nnA cnA, .slice apA npA cpA, .slice arA nrA crA]) b1 h rfl, blk_kept (cs := [.int .i64 kB, .int .i64 loB, .int .i64 hiB, .slice anB nnB cnB, .slice apB npB cpB, .slice arB nrB crB]) b2 h rfl, blk_kept (cs := [.int .i64 kB, .int .i64 loB, .int .i64 hiB, .slice anB nnB cnB, .slice apB npB cpB, .slice arB nrB crB]) b2 h rfl, blk_kept (cs := [.int .i64 kB, .int .i64 loB, .int .i64 hiB, .slice anB nnB cnB, .slice apB npB cpB, .slice arB nrB crB]) b2 h rfl, blk_kept (cs := [.int .i64 kB, .int .i64 loB, .int .i64 hiB, .slice anB nnB cnB, .slice apB npB cpB, .slice arB nrB crB]) b2 h rfl, blk_kept (cs := [.int .i64 kB, .int .i64 loB, .int .i64 hiB, .slice anB nnB cnB, .slice apB npB cpB, .slice arB nrB crB]) b2 h rfl, blk_kept (cs := [.int .i64 kB, .int .i64 loB, .int .i64 hiB, .slice anB nnB cnB, .slice apB npB cpB, .slice arB nrB crB]) b2 h rfl⟩
theorem ext_to {α : Type} {l m : List α} {n : Nat} (h1 : n = l.length) (h2 : n = m.length) (h : ∀ j, j < n → l[j]? = m[j]?) : l = m := by
  refine List.ext_getElem? fun j => ?_
  by_cases hj : j < n
  · exact h j hj
  · rw [List.getElem?_eq_none (by omega), List.getElem?_eq_none (by omega)]
set_option maxRecDepth 100000 in
set_option maxHeartbeats 6400000 in
theorem requal_any : ∀ (t u : Lat) (kA loA hiA : Int) (anA : Option Addr) (nnA cnA : Nat) (apA : Option Addr) (npA cpA : Nat) (arA : Option Addr) (nrA crA : Nat) (kB loB hiB : Int) (anB : Option Addr) (nnB cnB : Nat) (apB : Option Addr) (npB cpB : Nat) (arB : Option Addr) (nrB crB : Nat) (w : World), LO w kA loA hiA anA nnA cnA apA npA cpA arA nrA crA t → LO w kB loB hiB anB nnB cnB apB npB cpB arB nrB crB u → Calls Try.prog 13 #[.agg #[.int .i64 kA, .int .i64 loA, .int .i64 hiA, .slice anA nnA cnA, .slice apA npA cpA, .slice arA nrA crA], .agg #[.int .i64 kB, .int .i64 loB, .int .i64 hiB, .slice anB nnB cnB, .slice apB npB cpB, .slice arB nrB crB]] w (BoP (decide (t = u)) w) := by
  refine lat_ind ?_
  intro k' lo' hi' ns' ps' rs' ih u kA loA hiA anA nnA cnA apA npA cpA arA nrA crA kB loB hiB anB nnB cnB apB npB cpB arB nrB crB w H1 H2
  obtain rfl : kA = k' := H1.hk
  obtain rfl : loA = lo' := H1.hlo
  obtain rfl : hiA = hi' := H1.hhi
  obtain ⟨r, hr⟩ : ∃ r, r = decide (Lat.mk kA loA hiA ns' ps' rs' = u) := ⟨_, rfl⟩
  have hr0 := hr
  rw [lat_eq, ← H2.hk, ← H2.hlo, ← H2.hhi] at hr
  rw [← hr0]
  have HR := hid_of hr
  have HBB := hid_of (((Below.refl w.heap.size w).alloc (Nat.le_refl _) (.cells #[.int .i64 kA, .int .i64 loA, .int .i64 hiA, .slice anA nnA cnA, .slice apA npA cpA, .slice arA nrA crA] 26)).alloc (by simp) (.cells #[.int .i64 kB, .int .i64 loB, .int .i64 hiB, .slice anB nnB cnB, .slice apB npB cpB, .slice arB nrB crB] 26))
  have HC := hid_of (fun (w' : World) (h : Below ((w.alloc (.cells #[.int .i64 kA, .int .i64 loA, .int .i64 hiA, .slice anA nnA cnA, .slice apA npA cpA, .slice arA nrA crA] 26)).alloc (.cells #[.int .i64 kB, .int .i64 loB, .int .i64 hiB, .slice anB nnB cnB, .slice apB npB cpB, .slice arB nrB crB] 26)).heap.size ((w.alloc (.cells #[.int .i64 kA, .int .i64 loA, .int .i64 hiA, .slice anA nnA cnA, .slice apA npA cpA, .slice arA nrA crA] 26)).alloc (.cells #[.int .i64 kB, .int .i64 loB, .int .i64 hiB, .slice anB nnB cnB, .slice apB npB cpB, .slice arB nrB crB] 26)) w') => two_box kA loA hiA anA nnA cnA apA npA cpA arA nrA crA kB loB hiB anB nnB cnB apB npB cpB arB nrB crB h)
  have CN := hid_of (fun (wz : World) (hz : Below w.heap.size w wz) => rnames_any ns' u.ns anA anB nnA nnB cnA cnB wz (H1.n.at hz) (H2.n.at hz))
  have L1p := H1.p.len
  have L2p := H2.p.len
  have L1r := H1.r.len
  have L2r := H2.r.len
  have hpA : npA ≤ 9223372036854775807 := by omega
  have hpB : npB ≤ 9223372036854775807 := by omega
  have hrA : nrA ≤ 9223372036854775807 := by omega
  have hrB : nrB ≤ 9223372036854775807 := by omega
  have X1 := hid_of H1
  have X2 := hid_of H2
  have IH := hid_of ih
  obtain ⟨qn, hqn⟩ : ∃ q, q = decide (ns' = u.ns) := ⟨_, rfl⟩
  rw [← hqn] at CN
  have HQN := hid_of hqn
  have HL : Hid (npA = ps'.length ∧ npB = u.ps.length ∧ nrA = rs'.length ∧ nrB = u.rs.length) := hid_of ⟨L1p.1, L2p.1, L1r.1, L2r.1⟩
  clear hr hr0 H1 H2 ih hqn L1p L2p L1r L2r
  by_cases hk : kA = kB
  case neg =>
    have RF : Hid (false = r) := hid_of (by rw [HR.out, decide_eq_false hk]; rfl)
    have e1 : (kA == kB) = false := beq_eq_false_iff_ne.2 hk
    have e1' : (kA != kB) = true := bne_iff_ne.2 hk
    clear hk
    go_enter Try.func13, Try.ntmps13
    go_wp2
    go_ret
    exact ⟨ret_b RF.out, HBB.out⟩
  by_cases hlo : loA = loB
  case neg =>
    have RF : Hid (false = r) := hid_of (by rw [HR.out, decide_eq_false hlo]; simp)
    have e1 : (kA == kB) = true := beq_iff_eq.2 hk
    have e1' : (kA != kB) = false := by simp [hk]
    have e2 : (loA == loB) = false := beq_eq_false_iff_ne.2 hlo
    have e2' : (loA != loB) = true := bne_iff_ne.2 hlo
    clear hk hlo
    go_enter Try.func13, Try.ntmps13
    go_wp2
    go_ret
    exact ⟨ret_b RF.out, HBB.out⟩
  by_cases hhi : hiA = hiB
  case neg =>
    have RF : Hid (false = r) := hid_of (by rw [HR.out, decide_eq_false hhi]; simp)
    have e1 : (kA == kB) = true := beq_iff_eq.2 hk
    have e1' : (kA != kB) = false := by simp [hk]
    have e2 : (loA == loB) = true := beq_iff_eq.2 hlo
    have e2' : (loA != loB) = false := by simp [hlo]
    have e3 : (hiA == hiB) = false := beq_eq_false_iff_ne.2 hhi
    have e3' : (hiA != hiB) = true := bne_iff_ne.2 hhi
    clear hk hlo hhi
    go_enter Try.func13, Try.ntmps13
    go_wp2
    go_ret
    exact ⟨ret_b RF.out, HBB.out⟩
  have e1 : (kA == kB) = true := beq_iff_eq.2 hk
  have e1' : (kA != kB) = false := by simp [hk]
  have e2 : (loA == loB) = true := beq_iff_eq.2 hlo
  have e2' : (loA != loB) = false := by simp [hlo]
  have e3 : (hiA == hiB) = true := beq_iff_eq.2 hhi
  have e3' : (hiA != hiB) = false := by simp [hhi]
  have HR2 : Hid (r = (qn && decide (ps' = u.ps) && decide (rs' = u.rs))) := hid_of (by rw [HR.out, decide_eq_true hk, decide_eq_true hlo, decide_eq_true hhi, HQN.out]; rfl)
  clear hk hlo hhi HR
  cases qn
  · have RF : Hid (false = r) := hid_of (by rw [HR2.out]; rfl)
    go_enter Try.func13, Try.ntmps13
    go_wp2_with (go_at_call 33; ((with_reducible refine (CN.out _ HBB.out).mono ?_); (rintro e w2 ⟨rfl, h2⟩)); (have K2 := hid_of h2); (obtain ⟨a0, a1, a2, a3, a4, a5, b0, b1, b2, b3, b4, b5⟩ := HC.out w2 h2); clear h2)
    go_ret
    exact ⟨ret_b RF.out, HBB.out.trans (K2.out.mono HBB.out.size)⟩
  by_cases hp : npA = npB
  case neg =>
    have RF : Hid (false = r) := hid_of (by rw [HR2.out, decide_eq_false (p := ps' = u.ps) (fun h => hp (by rw [HL.out.1, HL.out.2.1, h]))]; rfl)
    have f1 : (npA == npB) = false := beq_eq_false_iff_ne.2 hp
    have f2 : ((npA : Int) == (npB : Int)) = false := beq_eq_false_iff_ne.2 (by omega)
    have f3 : ((npA : Int) != (npB : Int)) = true := bne_iff_ne.2 (by omega)
    clear hp
    go_enter Try.func13, Try.ntmps13
    go_wp2_with (go_at_call 33; ((with_reducible refine (CN.out _ HBB.out).mono ?_); (rintro e w2 ⟨rfl, h2⟩)); (have K2 := hid_of h2); (obtain ⟨a0, a1, a2, a3, a4, a5, b0, b1, b2, b3, b4, b5⟩ := HC.out w2 h2); clear h2)
    go_ret
    exact ⟨ret_b RF.out, HBB.out.trans (K2.out.mono HBB.out.size)⟩
  by_cases hrr : nrA = nrB
  case neg =>
    subst hp
    have RF : Hid (false = r) := hid_of (by rw [HR2.out, decide_eq_false (p := rs' = u.rs) (fun h => hrr (by rw [HL.out.2.2.1, HL.out.2.2.2, h])), Bool.and_false])
    have f1 : (nrA == nrB) = false := beq_eq_false_iff_ne.2 hrr
    have f2 : ((nrA : Int) == (nrB : Int)) = false := beq_eq_false_iff_ne.2 (by omega)
    have f3 : ((nrA : Int) != (nrB : Int)) = true := bne_iff_ne.2 (by omega)
    clear hrr
    go_enter Try.func13, Try.ntmps13
    go_wp2_with (go_at_call 33; ((with_reducible refine (CN.out _ HBB.out).mono ?_); (rintro e w2 ⟨rfl, h2⟩)); (have K2 := hid_of h2); (obtain ⟨a0, a1, a2, a3, a4, a5, b0, b1, b2, b3, b4, b5⟩ := HC.out w2 h2); clear h2)
    go_ret
    exact ⟨ret_b RF.out, HBB.out.trans (K2.out.mono HBB.out.size)⟩
  subst hp hrr
  go_enter Try.func13, Try.ntmps13
  go_wp2_with (go_at_call 33; ((with_reducible refine (CN.out _ HBB.out).mono ?_); (rintro e w2 ⟨rfl, h2⟩)); (have K2 := hid_of h2); (obtain ⟨a0, a1, a2, a3, a4, a5, b0, b1, b2, b3, b4, b5⟩ := HC.out w2 h2); clear h2)
  obtain ⟨WW, hWW⟩ : ∃ WW, WW = ((w.alloc (.cells #[.int .i64 kA, .int .i64 loA, .int .i64 hiA, .slice anA nnA cnA, .slice apA npA cpA, .slice arA nrA crA] 26)).alloc (.cells #[.int .i64 kB, .int .i64 loB, .int .i64 hiB, .slice anB nnB cnB, .slice apB npA cpB, .slice arB nrA crB] 26)) := ⟨_, rfl⟩
  rw [← hWW] at K2 HC HBB
  clear hWW
  clear a0 a1 a2 a3 a4 a5 b0 b1 b2 b3 b4 b5
  go_loopw [5] (fun iv wr => ∃ i : Nat, iv = .int .i64 i ∧ i ≤ nrA ∧ Hid (∀ j, j < i → rs'[j]? = u.rs[j]?) ∧ Hid (Below WW.heap.size WW wr)) (fun iv _ => nrA - (intOf iv).toNat)
  case atStart => exact ⟨0, rfl, Nat.zero_le _, hid_of (fun j h => absurd h (Nat.not_lt_zero j)), K2⟩
  case round =>
    clear K2
    obtain ⟨i, rfl, hi, HM, hb⟩ := hrel
    obtain ⟨a0, a1, a2, a3, a4, a5, b0, b1, b2, b3, b4, b5⟩ := HC.out wr hb.out
    by_cases hlt : i < nrA
    · have d1 : decide (i < nrA) = true := decide_eq_true hlt
      have hlt' : (i : Int) < (nrA : Int) := by omega
      have HLT := hid_of hlt
      have hl : i < rs'.length := by have := HL.out; omega
      have hm : i < u.rs.length := by have := HL.out; omega
      obtain ⟨g, o, aX, kX, dX, rfl, RX, hcX⟩ := X1.out.r.get (List.getElem?_eq_getElem hl)
      obtain ⟨g2, o2, aY, kY, dY, rfl, RY, hcY⟩ := X2.out.r.get (List.getElem?_eq_getElem hm)
      have hbw : Below w.heap.size w wr := HBB.out.trans (hb.out.mono HBB.out.size)
      obtain ⟨c0, c1⟩ := hcX wr hbw
      obtain ⟨d0, d2⟩ := hcY wr hbw
      obtain ⟨bx, hx⟩ : ∃ bx, bx = ba rs'[i].2 := ⟨_, rfl⟩
      obtain ⟨bz, hz⟩ : ∃ bz, bz = ba u.rs[i].2 := ⟨_, rfl⟩
      rw [← hx] at c1
      rw [← hz] at d2
      have RQ : Hid (∀ m, Calls Try.prog 33 #[.slice aX kX dX, .slice aY kY dY] (wr.drewN m) fun e w' => e = .returned (.bool (decide (rs'[i].1 = u.rs[i].1))) ∧ ∃ m', w' = (wr.drewN m).drewN m') := hid_of (fun m => rnames_q _ _ aX aY kX kY dX dY _ (RX.at (bel_drewN hbw m)) (RY.at (bel_drewN hbw m)))
      obtain ⟨q, hq⟩ : ∃ q, q = decide (rs'[i].1 = u.rs[i].1) := ⟨_, rfl⟩
      rw [← hq] at RQ
      have HLX := hid_of hl
      have HMX := hid_of hm
      by_cases he : rs'[i].2 = u.rs[i].2
      case neg =>
        have et := eq_f hx hz he
        have RF : Hid (false = r) := hid_of (by
          rw [HR2.out, decide_eq_false (p := rs' = u.rs) (fun h => he (by subst h; rfl)), Bool.and_false])
        clear hlt hl hm hcX hcY hx hz he hq hbw RX RY
        go_wp2
        go_quiet (fail)
        go_wp2
        go_ret
        exact ⟨ret_b RF.out, HBB.out.trans ((bel_drewN hb.out nq).mono HBB.out.size)⟩
      have et := eq_t hx hz he
      cases q
      · have RF : Hid (false = r) := hid_of (by
          rw [HR2.out, decide_eq_false (p := rs' = u.rs) (fun h => of_decide_eq_false hq.symm (by subst h; rfl)), Bool.and_false])
        clear hlt hl hm hcX hcY hx hz he hq hbw RX RY
        go_wp2
        go_quiet ((go_at_call 33; exact Calls.quiet_of (RQ.out _)))
        go_wp2
        go_ret
        exact ⟨ret_b RF.out, HBB.out.trans ((bel_drewN hb.out nq).mono HBB.out.size)⟩
      · have HE : Hid (∀ j, j < i + 1 → rs'[j]? = u.rs[j]?) := hid_of (fun j hj => by
          by_cases e : j = i
          · subst e
            rw [List.getElem?_eq_getElem hl, List.getElem?_eq_getElem hm]
            exact congrArg some (Prod.ext (of_decide_eq_true hq.symm) he)
          · exact HM.out j (by omega))
        clear hlt hl hm hcX hcY hx hz he hq hbw RX RY
        go_wp2
        go_quiet ((go_at_call 33; exact Calls.quiet_of (RQ.out _)))
        go_wp2
        go_roundw
        case rel => exact ⟨i + 1, by go_num, HLT.out, HE, hid_of (bel_drewN hb.out nq)⟩
        case measure => have := HLT.out; simp [intOf]; omega
    · have d1 : decide (i < nrA) = false := decide_eq_false hlt
      have HRE : Hid (rs' = u.rs) := hid_of (ext_to HL.out.2.2.1 HL.out.2.2.2 (fun j hj => HM.out j (by omega)))
      have HR3 : Hid (r = decide (ps' = u.ps)) := hid_of (by rw [HR2.out, decide_eq_true HRE.out]; simp)
      have HB0 := hb
      clear hlt hi HM
      go_wp2
      clear a0 a1 a2 a3 a4 a5 b0 b1 b2 b3 b4 b5
      go_loopw [6] (fun iv w5 => ∃ i : Nat, iv = .int .i64 i ∧ i ≤ npA ∧ Hid (∀ j, j < i → ps'[j]? = u.ps[j]?) ∧ Hid (Below WW.heap.size WW w5)) (fun iv _ => npA - (intOf iv).toNat)
      case atStart => exact ⟨0, rfl, Nat.zero_le _, hid_of (fun j h => absurd h (Nat.not_lt_zero j)), HB0⟩
      case round =>
        clear HB0 hb d1
        obtain ⟨i, rfl, hin, HM, hb⟩ := hrel
        obtain ⟨a0, a1, a2, a3, a4, a5, b0, b1, b2, b3, b4, b5⟩ := HC.out wr hb.out
        by_cases hlt : i < npA
        · have d1 : decide (i < npA) = true := decide_eq_true hlt
          have hlt' : (i : Int) < (npA : Int) := by omega
          have HLT := hid_of hlt
          have hl : i < ps'.length := by have := HL.out; omega
          have hm : i < u.ps.length := by have := HL.out; omega
          obtain ⟨g, o, kX, loX, hiX, anX, nnX, cnX, apX, npX, cpX, arX, nrX, crX, rfl, LX, hcX⟩ := X1.out.p.get (List.getElem?_eq_getElem hl)
          obtain ⟨g2, o2, kY, loY, hiY, anY, nnY, cnY, apY, npY, cpY, arY, nrY, crY, rfl, LY, hcY⟩ := X2.out.p.get (List.getElem?_eq_getElem hm)
          have hbw : Below w.heap.size w wr := HBB.out.trans (hb.out.mono HBB.out.size)
          have HX : Hid (∀ wz, Below w.heap.size w wz → _) := hid_of hcX
          have HY : Hid (∀ wz, Below w.heap.size w wz → _) := hid_of hcY
          obtain ⟨c0, c1, c2, c3, c4, c5⟩ := hcX wr hbw
          obtain ⟨d0, d2, d3, d4, d5, d6⟩ := hcY wr hbw
          have CALL := hid_of (fun (wz : World) (hz : Below w.heap.size w wz) => IH.out ps'[i] (List.getElem_mem hl) u.ps[i] kX loX hiX anX nnX cnX apX npX cpX arX nrX crX kY loY hiY anY nnY cnY apY npY cpY arY nrY crY wz (LX.at hz) (LY.at hz))
          obtain ⟨q, hq⟩ : ∃ q, q = decide (ps'[i] = u.ps[i]) := ⟨_, rfl⟩
          rw [← hq] at CALL
          have HBW5 := hid_of hbw
          cases q
          · have RF : Hid (false = r) := hid_of (by
              rw [HR3.out, decide_eq_false (p := ps' = u.ps) (fun h => of_decide_eq_false hq.symm (by subst h; rfl))])
            clear hlt hl hm hcX hcY hq hbw LX LY
            go_wp2
            have cs0 := And.intro a4 (And.intro b4 (And.intro c0 (And.intro c1 (And.intro c2 (And.intro c3 (And.intro c4 (And.intro c5 (And.intro d0 (And.intro d2 (And.intro d3 (And.intro d4 (And.intro d5 d6))))))))))))
            go_region_held3 (fun wz => wz.cell? ⟨w.heap.size, 4, none⟩ = some (.slice (some ⟨g, o, none⟩) npA cpA) ∧ wz.cell? ⟨w.heap.size + 1, 4, none⟩ = some (.slice (some ⟨g2, o2, none⟩) npA cpB) ∧ wz.cell? ⟨g, o + i * 6, none⟩ = some (.int .i64 kX) ∧ wz.cell? ⟨g, o + i * 6 + 1, none⟩ = some (.int .i64 loX) ∧ wz.cell? ⟨g, o + i * 6 + 2, none⟩ = some (.int .i64 hiX) ∧ wz.cell? ⟨g, o + i * 6 + 3, none⟩ = some (.slice anX nnX cnX) ∧ wz.cell? ⟨g, o + i * 6 + 4, none⟩ = some (.slice apX npX cpX) ∧ wz.cell? ⟨g, o + i * 6 + 5, none⟩ = some (.slice arX nrX crX) ∧ wz.cell? ⟨g2, o2 + i * 6, none⟩ = some (.int .i64 kY) ∧ wz.cell? ⟨g2, o2 + i * 6 + 1, none⟩ = some (.int .i64 loY) ∧ wz.cell? ⟨g2, o2 + i * 6 + 2, none⟩ = some (.int .i64 hiY) ∧ wz.cell? ⟨g2, o2 + i * 6 + 3, none⟩ = some (.slice anY nnY cnY) ∧ wz.cell? ⟨g2, o2 + i * 6 + 4, none⟩ = some (.slice apY npY cpY) ∧ wz.cell? ⟨g2, o2 + i * 6 + 5, none⟩ = some (.slice arY nrY crY)) (first | exact cs0 | exact cs6 | go_keep) ((go_at_call 13; ((with_reducible refine (CALL.out _ HBW5.out.drew).mono ?_); (rintro e w6 ⟨rfl, h6⟩); (have H6 := hid_of (hb.out.trans ((undrew h6).mono hb.out.size))); (have G6 := hid_of (HBW5.out.trans ((undrew h6).mono HBW5.out.size))); (obtain ⟨_, _, _, _, z4, _, _, _, _, _, z10, _⟩ := HC.out w6 H6.out); (obtain ⟨x0, x1, x2, x3, x4, x5⟩ := HX.out w6 G6.out); (obtain ⟨y0, y1, y2, y3, y4, y5⟩ := HY.out w6 G6.out); (have cs6 := And.intro z4 (And.intro z10 (And.intro x0 (And.intro x1 (And.intro x2 (And.intro x3 (And.intro x4 (And.intro x5 (And.intro y0 (And.intro y1 (And.intro y2 (And.intro y3 (And.intro y4 y5))))))))))))); clear h6)))
            all_goals go_wp2
            all_goals go_ret
            all_goals exact ⟨ret_b RF.out, HBB.out.trans (H6.out.mono HBB.out.size)⟩
          · have HE : Hid (∀ j, j < i + 1 → ps'[j]? = u.ps[j]?) := hid_of (fun j hj => by
              by_cases e : j = i
              · subst e
                rw [List.getElem?_eq_getElem hl, List.getElem?_eq_getElem hm]
                exact congrArg some (of_decide_eq_true hq.symm)
              · exact HM.out j (by omega))
            clear hlt hl hm hcX hcY hq hbw LX LY
            go_wp2
            have cs0 := And.intro a4 (And.intro b4 (And.intro c0 (And.intro c1 (And.intro c2 (And.intro c3 (And.intro c4 (And.intro c5 (And.intro d0 (And.intro d2 (And.intro d3 (And.intro d4 (And.intro d5 d6))))))))))))
            go_region_held3 (fun wz => wz.cell? ⟨w.heap.size, 4, none⟩ = some (.slice (some ⟨g, o, none⟩) npA cpA) ∧ wz.cell? ⟨w.heap.size + 1, 4, none⟩ = some (.slice (some ⟨g2, o2, none⟩) npA cpB) ∧ wz.cell? ⟨g, o + i * 6, none⟩ = some (.int .i64 kX) ∧ wz.cell? ⟨g, o + i * 6 + 1, none⟩ = some (.int .i64 loX) ∧ wz.cell? ⟨g, o + i * 6 + 2, none⟩ = some (.int .i64 hiX) ∧ wz.cell? ⟨g, o + i * 6 + 3, none⟩ = some (.slice anX nnX cnX) ∧ wz.cell? ⟨g, o + i * 6 + 4, none⟩ = some (.slice apX npX cpX) ∧ wz.cell? ⟨g, o + i * 6 + 5, none⟩ = some (.slice arX nrX crX) ∧ wz.cell? ⟨g2, o2 + i * 6, none⟩ = some (.int .i64 kY) ∧ wz.cell? ⟨g2, o2 + i * 6 + 1, none⟩ = some (.int .i64 loY) ∧ wz.cell? ⟨g2, o2 + i * 6 + 2, none⟩ = some (.int .i64 hiY) ∧ wz.cell? ⟨g2, o2 + i * 6 + 3, none⟩ = some (.slice anY nnY cnY) ∧ wz.cell? ⟨g2, o2 + i * 6 + 4, none⟩ = some (.slice apY npY cpY) ∧ wz.cell? ⟨g2, o2 + i * 6 + 5, none⟩ = some (.slice arY nrY crY)) (first | exact cs0 | exact cs6 | go_keep) ((go_at_call 13; ((with_reducible refine (CALL.out _ HBW5.out.drew).mono ?_); (rintro e w6 ⟨rfl, h6⟩); (have H6 := hid_of (hb.out.trans ((undrew h6).mono hb.out.size))); (have G6 := hid_of (HBW5.out.trans ((undrew h6).mono HBW5.out.size))); (obtain ⟨_, _, _, _, z4, _, _, _, _, _, z10, _⟩ := HC.out w6 H6.out); (obtain ⟨x0, x1, x2, x3, x4, x5⟩ := HX.out w6 G6.out); (obtain ⟨y0, y1, y2, y3, y4, y5⟩ := HY.out w6 G6.out); (have cs6 := And.intro z4 (And.intro z10 (And.intro x0 (And.intro x1 (And.intro x2 (And.intro x3 (And.intro x4 (And.intro x5 (And.intro y0 (And.intro y1 (And.intro y2 (And.intro y3 (And.intro y4 y5))))))))))))); clear h6)))
            all_goals go_wp2
            go_roundw
            case rel => exact ⟨i + 1, by go_num, HLT.out, HE, H6⟩
            case measure => have := HLT.out; simp [intOf]; omega
        · have d1 : decide (i < npA) = false := decide_eq_false hlt
          have RT : Hid (true = r) := hid_of (by
            rw [HR3.out]
            exact (decide_eq_true (ext_to HL.out.1 HL.out.2.1 (fun j hj => HM.out j (by omega)))).symm)
          clear hlt
          go_wp2
          go_ret
          exact ⟨ret_b RT.out, HBB.out.trans (hb.out.mono HBB.out.size)⟩
end Go.Proofs.Ytgbadiajdhehpaa

/- The reference's Name. Bounds on sizes alone. -/
namespace Go.Proofs.Ytgbadiajdhehpaa
open Go.RowKit

set_option maxRecDepth 100000 in
theorem rname9_any (s : ByteArray) (w : World) (hs : s.size ≤ maxLen) : Calls Try.prog 82 #[.string s] w fun e w' => e = .returned (.bool (isName (strBytes s))) ∧ w' = w := by
  unfold maxLen at hs
  obtain ⟨r, hr⟩ : ∃ r, r = isName (strBytes s) := ⟨_, rfl⟩
  rw [← hr]
  have HR := hid_of hr
  clear hr
  by_cases h0 : s.size = 0
  · have RF : Hid (r = false) := hid_of (by
      rw [HR.out, Bool.eq_false_iff]; intro h; have := ((isName_iff _).1 h).1; rw [strBytes_length] at this; omega)
    have d0 : decide ((s.size : Int) < 1) = true := decide_eq_true (by omega)
    go_enter Try.func82, Try.ntmps82
    go_wp2
    go_ret
    exact ⟨by rw [RF.out] <;> rfl, rfl⟩
  by_cases h16 : 16 < s.size
  · have RF : Hid (r = false) := hid_of (by
      rw [HR.out, Bool.eq_false_iff]; intro h; have := ((isName_iff _).1 h).2.1; rw [strBytes_length] at this; omega)
    have d0 : decide ((s.size : Int) < 1) = false := decide_eq_false (by omega)
    have d1 : decide ((s.size : Int) > 16) = true := decide_eq_true (by omega)
    go_enter Try.func82, Try.ntmps82
    go_wp2
    go_ret
    exact ⟨by rw [RF.out] <;> rfl, rfl⟩
  have d0 : decide ((s.size : Int) < 1) = false := decide_eq_false (by omega)
  have d1 : decide ((s.size : Int) > 16) = false := decide_eq_false (by omega)
  have hp : 0 < s.size := by omega
  obtain ⟨y, hy⟩ : ∃ y : Int, y = ((s[0]).toNat : Int) := ⟨_, rfl⟩
  have HY : Hid ((strBytes s)[0]? = some y) := hid_of (by rw [strBytes_at s 0 hp, hy])
  have hys : ((s[0]).toNat : Int) = y := hy.symm
  clear hy
  have HP := hid_of hp
  have H16 := hid_of h16
  obtain ⟨q, hq⟩ : ∃ q, q = isl y := ⟨_, rfl⟩
  have HQ := hid_of hq
  have hsp : (q = true ∧ 97 ≤ y ∧ y ≤ 122) ∨ (q = false ∧ y < 97) ∨ (q = false ∧ 97 ≤ y ∧ 122 < y) := by
    rw [hq]
    by_cases h1 : 97 ≤ y
    · by_cases h2 : y ≤ 122
      · exact .inl ⟨by simp [isl]; omega, h1, h2⟩
      · exact .inr (.inr ⟨by simp [isl]; omega, h1, by omega⟩)
    · exact .inr (.inl ⟨by simp [isl]; omega, by omega⟩)
  clear hq
  rcases hsp with ⟨rfl, e1, e2⟩ | ⟨rfl, e1⟩ | ⟨rfl, e1, e2⟩
  rotate_left
  · have RF : Hid (r = false) := hid_of (by
      rw [HR.out, Bool.eq_false_iff]; intro h; have := ((isName_iff _).1 h).2.2.1 y HY.out; rw [← HQ.out] at this; exact absurd this (by simp))
    have dA : decide (y < 97) = true := decide_eq_true (by omega)
    go_enter Try.func82, Try.ntmps82
    go_wp2
    go_ret
    exact ⟨by rw [RF.out] <;> rfl, rfl⟩
  · have RF : Hid (r = false) := hid_of (by
      rw [HR.out, Bool.eq_false_iff]; intro h; have := ((isName_iff _).1 h).2.2.1 y HY.out; rw [← HQ.out] at this; exact absurd this (by simp))
    have dA : decide (y < 97) = false := decide_eq_false (by omega)
    have dB : decide (y > 122) = true := decide_eq_true (by omega)
    go_enter Try.func82, Try.ntmps82
    go_wp2
    go_ret
    exact ⟨by rw [RF.out] <;> rfl, rfl⟩
  have dA : decide (y < 97) = false := decide_eq_false (by omega)
  have dB : decide (y > 122) = false := decide_eq_false (by omega)
  go_enter Try.func82, Try.ntmps82
  go_wp2
  clear hys
  go_loopw [3] (fun iv wr => ∃ (i : Nat), i ≤ s.size ∧ iv = .int .i64 i ∧ wr = w ∧ Hid (∀ (j : Nat) (c : Int), j < i → (strBytes s)[j]? = some c → inw c = true)) (fun iv _ => s.size - (intOf iv).toNat)
  case atStart => exact ⟨0, Nat.zero_le _, rfl, rfl, hid_of (fun j c hj => by omega)⟩
  case round =>
    obtain ⟨i, hi, rfl, rfl, hall⟩ := hrel
    have HALL := hid_of hall.out
    clear hall
    by_cases hlt : i < s.size
    · obtain ⟨x, hx⟩ : ∃ x : Int, x = ((s[i]).toNat : Int) := ⟨_, rfl⟩
      have HX : Hid ((strBytes s)[i]? = some x) := hid_of (by rw [strBytes_at s i hlt, hx])
      have hxs : ((s[i]).toNat : Int) = x := hx.symm
      clear hx
      have HLT := hid_of hlt
      have hcs : (97 ≤ x ∧ x ≤ 122) ∨ (48 ≤ x ∧ x ≤ 57) ∨ (x = 45) ∨ (x < 48 ∧ x ≠ 45) ∨ (57 < x ∧ x < 97) ∨ (122 < x) := by omega
      rcases hcs with hcs | hcs | hcs | hcs | hcs | hcs
      · have HI : Hid (inw x = true) := hid_of (by unfold inw isl; simp; omega)
        have ta : decide (x < 97) = false := by simp; omega
        have tb : decide (x > 122) = false := by simp; omega
        clear hcs
        go_wp2
        go_roundw
        case rel => have := HLT.out; exact ⟨i + 1, by omega, by go_num, trivial, hid_of (fun j c hj hc => by
          by_cases e : j = i
          · subst e; rw [HX.out] at hc; cases hc; exact HI.out
          · exact HALL.out j c (by omega) hc)⟩
        case measure => have := HLT.out; simp [intOf]; omega
      · have HI : Hid (inw x = true) := hid_of (by unfold inw isl; simp; omega)
        have ta : decide (x < 97) = true := by simp; omega
        have tc : decide (x < 48) = false := by simp; omega
        have td : decide (x > 57) = false := by simp; omega
        clear hcs
        go_wp2
        go_roundw
        case rel => have := HLT.out; exact ⟨i + 1, by omega, by go_num, trivial, hid_of (fun j c hj hc => by
          by_cases e : j = i
          · subst e; rw [HX.out] at hc; cases hc; exact HI.out
          · exact HALL.out j c (by omega) hc)⟩
        case measure => have := HLT.out; simp [intOf]; omega
      · have HI : Hid (inw x = true) := hid_of (by unfold inw isl; simp; omega)
        have ta : decide (x < 97) = true := by simp; omega
        have tc : decide (x < 48) = true := by simp; omega
        have te : (x != 45) = false := by simp; omega
        clear hcs
        go_wp2
        go_roundw
        case rel => have := HLT.out; exact ⟨i + 1, by omega, by go_num, trivial, hid_of (fun j c hj hc => by
          by_cases e : j = i
          · subst e; rw [HX.out] at hc; cases hc; exact HI.out
          · exact HALL.out j c (by omega) hc)⟩
        case measure => have := HLT.out; simp [intOf]; omega
      · have HI : Hid (inw x = false) := hid_of (by unfold inw isl; simp; omega)
        have ta : decide (x < 97) = true := by simp; omega
        have tc : decide (x < 48) = true := by simp; omega
        have te : (x != 45) = true := by simp; omega
        clear hcs
        have RF : Hid (r = false) := hid_of (by
          rw [HR.out, Bool.eq_false_iff]; intro h; have := ((isName_iff _).1 h).2.2.2 i x HX.out; rw [HI.out] at this; exact absurd this (by simp))
        go_wp2
        go_ret
        exact ⟨by rw [RF.out] <;> rfl, rfl⟩
      · have HI : Hid (inw x = false) := hid_of (by unfold inw isl; simp; omega)
        have ta : decide (x < 97) = true := by simp; omega
        have tc : decide (x < 48) = false := by simp; omega
        have td : decide (x > 57) = true := by simp; omega
        have te : (x != 45) = true := by simp; omega
        clear hcs
        have RF : Hid (r = false) := hid_of (by
          rw [HR.out, Bool.eq_false_iff]; intro h; have := ((isName_iff _).1 h).2.2.2 i x HX.out; rw [HI.out] at this; exact absurd this (by simp))
        go_wp2
        go_ret
        exact ⟨by rw [RF.out] <;> rfl, rfl⟩
      · have HI : Hid (inw x = false) := hid_of (by unfold inw isl; simp; omega)
        have ta : decide (x < 97) = false := by simp; omega
        have tb : decide (x > 122) = true := by simp; omega
        have tc : decide (x < 48) = false := by simp; omega
        have td : decide (x > 57) = true := by simp; omega
        have te : (x != 45) = true := by simp; omega
        clear hcs
        have RF : Hid (r = false) := hid_of (by
          rw [HR.out, Bool.eq_false_iff]; intro h; have := ((isName_iff _).1 h).2.2.2 i x HX.out; rw [HI.out] at this; exact absurd this (by simp))
        go_wp2
        go_ret
        exact ⟨by rw [RF.out] <;> rfl, rfl⟩
    · obtain rfl : s.size = i := by omega
      have RT : Hid (r = true) := hid_of (by
        rw [HR.out, isName_iff, strBytes_length]
        exact ⟨HP.out, by have := H16.out; omega, fun c hc => by rw [HY.out] at hc; cases hc; exact HQ.out.symm, fun j c hc => HALL.out j c (by have := (List.getElem?_eq_some_iff.1 hc).1; rw [strBytes_length] at this; exact this) hc⟩)
      go_wp2
      go_ret
      exact ⟨by rw [RT.out] <;> rfl, rfl⟩
end Go.Proofs.Ytgbadiajdhehpaa

/- The reference's In and Rising. Bounds on sizes alone. -/
namespace Go.Proofs.Ytgbadiajdhehpaa
open Go.RowKit

set_option maxRecDepth 100000 in
theorem rin_any (l : List Str) (x : Str) (ao : Option Addr) (n cap : Nat) (w : World) (R : Rd w (.slice ao n cap) (ss l)) :
    Calls Try.prog 83 #[.slice ao n cap, .string (ba x)] w fun e w' => e = .returned (.bool (decide (x ∈ l))) ∧ w' = w := by
  obtain ⟨hn, _, hcap, h3⟩ := rds_open R
  obtain ⟨r, hr⟩ : ∃ r, r = decide (x ∈ l) := ⟨_, rfl⟩
  rw [← hr]
  have HR := hid_of hr
  have HN := hid_of hn
  have H3 := hid_of h3
  obtain ⟨bs, hbs⟩ : ∃ bs, bs = ba x := ⟨_, rfl⟩
  rw [← hbs]
  have HBS := hid_of hbs
  clear hr hn h3 R hbs
  go_enter Try.func83, Try.ntmps83
  go_wp2
  go_loopw [5] (fun iv wr => ∃ i : Nat, iv = .int .i64 i ∧ i ≤ n ∧ Hid (x ∉ l.take i) ∧ w = wr) (fun iv _ => n - (intOf iv).toNat)
  case atStart => exact ⟨0, rfl, Nat.zero_le _, hid_of (by simp), rfl⟩
  case round =>
    obtain ⟨i, rfl, hi, HM, rfl⟩ := hrel
    by_cases hlt : i < n
    · have d1 : decide (i < n) = true := decide_eq_true hlt
      have hlt' : (i : Int) < (n : Int) := by omega
      have HLT := hid_of hlt
      have hl : i < l.length := by have := HN.out; omega
      rcases H3.out with h3 | ⟨g, o, rfl, hg, hc⟩
      · exfalso; rw [h3] at hl; simp at hl
      have c1 := hc i _ (List.getElem?_eq_getElem hl)
      obtain ⟨bx, hx⟩ : ∃ bx, bx = ba l[i] := ⟨_, rfl⟩
      rw [← hx] at c1
      by_cases he : l[i] = x
      · have et := eq_t hx HBS.out he
        have RT : Hid (true = r) := hid_of (by rw [HR.out]; exact (decide_eq_true (by rw [← he]; exact List.getElem_mem hl)).symm)
        clear hlt hc hx he hl H3 hg
        go_wp2
        go_ret
        exact ⟨ret_b RT.out, rfl⟩
      · have et := eq_f hx HBS.out he
        have HE := hid_of (take_not hl HM.out he)
        clear hlt hc hx he hl H3 hg
        go_wp2
        go_roundw
        case rel => exact ⟨i + 1, by go_num, HLT.out, HE, by first | trivial | rfl⟩
        case measure => have := HLT.out; simp [intOf]; omega
    · have d1 : decide (i < n) = false := decide_eq_false hlt
      have RF : Hid (false = r) := hid_of (by
        rw [HR.out]
        refine (decide_eq_false (fun h => HM.out ?_)).symm
        rw [show i = l.length by have := HN.out; omega, List.take_length]; exact h)
      go_wp2
      go_ret
      exact ⟨ret_b RF.out, rfl⟩
/-- Valid names, strictly increasing. -/
def risB (l : List Str) : Bool := l.all nameB && ssB l
theorem ris_bad {l : List Str} {i : Nat} {x : Str} (h : l[i]? = some x) (hx : nameB x = false) : risB l = false := by
  unfold risB; rw [all_bad h hx, Bool.false_and]
set_option maxRecDepth 100000 in
set_option maxHeartbeats 3200000 in
theorem rising_any (l : List Str) (ao : Option Addr) (n cap : Nat) (w : World) (R : Rd w (.slice ao n cap) (ss l)) (on : Ok l) :
    Calls Try.prog 84 #[.slice ao n cap] w fun e w' => e = .returned (.bool (risB l)) ∧ ∃ m, w' = w.drewN m := by
  obtain ⟨hn, _, hcap, h3⟩ := rds_open R
  obtain ⟨r, hr⟩ : ∃ r, r = risB l := ⟨_, rfl⟩
  rw [← hr]
  have HR := hid_of hr
  have HN := hid_of hn
  have H3 := hid_of h3
  have ON := hid_of on
  clear hr hn h3 R on
  go_enter Try.func84, Try.ntmps84
  go_wp2
  go_loopw [3] (fun iv wr => ∃ k : Nat, iv = .int .i64 k ∧ k ≤ n ∧ Hid (ssTo l k) ∧ Hid (∀ j, j < k → ∀ p, l[j]? = some p → nameB p = true) ∧ Hid (∃ m, wr = w.drewN m)) (fun iv _ => n - (intOf iv).toNat)
  case atStart => exact ⟨0, rfl, Nat.zero_le _, hid_of (fun i hi => by omega), hid_of (fun j h => absurd h (Nat.not_lt_zero j)), hid_of ⟨0, rfl⟩⟩
  case round =>
    obtain ⟨k, rfl, hk, hs, hq, hb⟩ := hrel
    have hbb : Below w.heap.size w wr := by obtain ⟨md, hmd⟩ := hb.out; rw [hmd]; exact bel_drewN (Below.refl _ _) md
    have HB2 : Hid (∀ nq, ∃ m, wr.drewN nq = w.drewN m) := hid_of (fun nq => by obtain ⟨md, hmd⟩ := hb.out; exact ⟨md + nq, by rw [hmd, World.drewN_drewN]⟩)
    by_cases hlt : k < n
    · have hd : decide (k < n) = true := decide_eq_true hlt
      have HLT := hid_of hlt
      have hkl : k < l.length := by have := HN.out; omega
      rcases H3.out with h3 | ⟨g, o, rfl, hg, hc⟩
      · exfalso; rw [h3] at hkl; simp at hkl
      obtain ⟨x, hx⟩ : ∃ x, l[k]? = some x := ⟨_, List.getElem?_eq_getElem hkl⟩
      have c1 := (hbb.cell (p := ⟨g, o + k, none⟩) hg).trans (hc k _ hx)
      have hxl := ON.out x (List.mem_of_getElem? hx)
      have VC : Hid (∀ w, Calls Try.prog 82 #[.string (ba x)] w fun ee w' => ee = .returned (.bool (nameB x)) ∧ w' = w) := hid_of (fun w => rname9_any (ba x) w (by unfold maxLen; show x.toArray.size ≤ _; simpa using hxl))
      obtain ⟨qv, hqv⟩ : ∃ q, q = nameB x := ⟨_, rfl⟩
      rw [← hqv] at VC
      obtain ⟨bk, hbk⟩ : ∃ b, b = ba x := ⟨_, rfl⟩
      rw [← hbk] at c1 VC
      have b1 : (k : Int) < (n : Int) := by omega
      have b3 : (0 : Int) ≤ (k : Int) := by omega
      cases qv
      · have RF : Hid (false = r) := hid_of (by rw [HR.out, ris_bad hx hqv.symm])
        clear hc hx hxl hqv hbk hbb hlt hkl H3
        go_wp2
        go_quiet ((go_at_call 82; exact Calls.quiet_of_same (VC.out _)))
        go_wp2
        go_ret
        exact ⟨ret_b RF.out, HB2.out nq⟩
      have HQ2 : Hid (∀ j, j < k + 1 → ∀ p, l[j]? = some p → nameB p = true) := hid_of (fun j hj p hp => by
        by_cases e : j = k
        · subst e; rw [hx] at hp; cases hp; exact hqv.symm
        · exact hq.out j (by omega) p hp)
      by_cases h0 : k = 0
      · have g0 : decide (0 < k) = false := by simp; omega
        have HS2 : Hid (ssTo l (k + 1)) := hid_of (fun i hi => by omega)
        clear hc hx hxl hqv hbk hbb hlt hkl H3 h0
        go_wp2
        go_quiet ((go_at_call 82; exact Calls.quiet_of_same (VC.out _)))
        go_wp2
        go_roundw
        case rel => exact ⟨k + 1, by go_num, HLT.out, HS2, HQ2, hid_of (HB2.out nq)⟩
        case measure => have := HLT.out; simp [intOf]; omega
      · have g0 : decide (0 < k) = true := by simp; omega
        obtain ⟨p, hpk⟩ : ∃ p, p + 1 = k := ⟨k - 1, by omega⟩
        have hpl : p < l.length := by omega
        obtain ⟨bp, hbp⟩ : ∃ b, b = ba l[p] := ⟨_, rfl⟩
        have c2 := (hbb.cell (p := ⟨g, o + p, none⟩) hg).trans (hc p _ (List.getElem?_eq_getElem hpl))
        rw [← hbp] at c2
        have s1 : IntKind.i64.wrap ((k : Int) - 1) = (p : Int) := by rw [IntWalk.i64_in _ (by omega)]; omega
        have b2 : (p : Int) < (n : Int) := by omega
        have b4 : (0 : Int) ≤ (p : Int) := by omega
        have hxe : x = l[k] := by rw [List.getElem?_eq_getElem hkl] at hx; exact (Option.some.inj hx).symm
        by_cases e : l[p] < x
        · have t1 := lt_t hbp hbk e
          have HS2 := hid_of (ssTo_succ hs.out hpk (by rw [getD_of hpl, getD_of hkl, ← hxe]; exact e))
          clear hc hx hxl hqv hbk hbb hlt hkl H3 h0 hpk hbp hxe hpl e
          go_wp2
          go_quiet ((go_at_call 82; exact Calls.quiet_of_same (VC.out _)))
          clear s1
          go_wp2
          go_roundw
          case rel => exact ⟨k + 1, by go_num, HLT.out, HS2, HQ2, hid_of (HB2.out nq)⟩
          case measure => have := HLT.out; simp [intOf]; omega
        · have RF : Hid (false = r) := hid_of (by
            rw [HR.out]; unfold risB
            rw [ssB_no hpk hkl (by rw [getD_of hpl, getD_of hkl, ← hxe]; exact e), Bool.and_false])
          have t1 := lt_f hbp hbk e
          clear hc hx hxl hqv hbk hbb hlt hkl H3 h0 hpk hbp hxe hpl e
          go_wp2
          go_quiet ((go_at_call 82; exact Calls.quiet_of_same (VC.out _)))
          clear s1
          go_wp2
          go_ret
          exact ⟨ret_b RF.out, HB2.out nq⟩
    · have hd : decide (k < n) = false := decide_eq_false hlt
      have RT : Hid (true = r) := hid_of (by
        rw [HR.out]; unfold risB
        rw [ssB_yes HN.out (by rw [show n = k by omega]; exact hs.out), all_end HN.out (fun j hj p hp => hq.out j (by omega) p hp)]; rfl)
      clear hbb hlt
      go_wp2
      go_ret
      exact ⟨ret_b RT.out, hb.out⟩
end Go.Proofs.Ytgbadiajdhehpaa

/- The reference's shape. Bounds on sizes alone. -/
namespace Go.Proofs.Ytgbadiajdhehpaa
open Go.RowKit

set_option maxRecDepth 100000 in
set_option maxHeartbeats 6400000 in
theorem rshape_any (k lo hi : Int) (an : Option Addr) (nn cn : Nat) (ap : Option Addr) (np cp : Nat) (ar : Option Addr) (nr cr : Nat) (w : World) : Calls Try.prog 73 #[.agg #[.int .i64 k, .int .i64 lo, .int .i64 hi, .slice an nn cn, .slice ap np cp, .slice ar nr cr]] w (BoP (fieldsB k lo hi nn np nr) w) := by
  obtain ⟨r, hr⟩ : ∃ r, r = fieldsB k lo hi nn np nr := ⟨_, rfl⟩
  rw [← hr]
  have HR := hid_of hr
  clear hr
  rcases kinds k with rfl | rfl | rfl | rfl | rfl | rfl | rfl | rfl | rfl | rfl | hx
  · rw [fb1] at HR
    by_cases hc : lo = 0
    case neg =>
      have RF : Hid (false = r) := hid_of (by rw [HR.out]; simp [hnB, hc])
      have f1 : (lo == 0) = false := beq_eq_false_iff_ne.2 hc
      have f2 : (lo != 0) = true := bne_iff_ne.2 hc
      clear hc
      go_enter Try.func73, Try.ntmps73
      go_wp2
      go_ret
      exact ⟨ret_b RF.out, bel_alloc w _⟩
    subst hc
    by_cases hc : hi = 0
    case neg =>
      have RF : Hid (false = r) := hid_of (by rw [HR.out]; simp [hnB, hc])
      have f1 : (hi == 0) = false := beq_eq_false_iff_ne.2 hc
      have f2 : (hi != 0) = true := bne_iff_ne.2 hc
      clear hc
      go_enter Try.func73, Try.ntmps73
      go_wp2
      go_ret
      exact ⟨ret_b RF.out, bel_alloc w _⟩
    subst hc
    by_cases hc : nr = 0
    case neg =>
      have RF : Hid (false = r) := hid_of (by rw [HR.out]; simp [hnB, hc])
      have f1 : (nr == 0) = false := beq_eq_false_iff_ne.2 hc
      have f2 : ((nr : Int) == 0) = false := beq_eq_false_iff_ne.2 (by omega)
      have f3 : ((nr : Int) != 0) = true := bne_iff_ne.2 (by omega)
      have f4 : (nr != 0) = true := bne_iff_ne.2 hc
      clear hc
      go_enter Try.func73, Try.ntmps73
      go_wp2
      go_ret
      exact ⟨ret_b RF.out, bel_alloc w _⟩
    subst hc
    by_cases hc : nn = 0
    case neg =>
      have RF : Hid (false = r) := hid_of (by rw [HR.out]; simp [hnB, hc])
      have f1 : (nn == 0) = false := beq_eq_false_iff_ne.2 hc
      have f2 : ((nn : Int) == 0) = false := beq_eq_false_iff_ne.2 (by omega)
      have f3 : ((nn : Int) != 0) = true := bne_iff_ne.2 (by omega)
      have f4 : (nn != 0) = true := bne_iff_ne.2 hc
      clear hc
      go_enter Try.func73, Try.ntmps73
      go_wp2
      go_ret
      exact ⟨ret_b RF.out, bel_alloc w _⟩
    subst hc
    by_cases hc : np = 0
    case neg =>
      have RF : Hid (false = r) := hid_of (by rw [HR.out]; simp [hnB, hc])
      have f1 : (np == 0) = false := beq_eq_false_iff_ne.2 hc
      have f2 : ((np : Int) == 0) = false := beq_eq_false_iff_ne.2 (by omega)
      have f3 : ((np : Int) != 0) = true := bne_iff_ne.2 (by omega)
      have f4 : (np != 0) = true := bne_iff_ne.2 hc
      clear hc
      go_enter Try.func73, Try.ntmps73
      go_wp2
      go_ret
      exact ⟨ret_b RF.out, bel_alloc w _⟩
    subst hc
    have RT : Hid (true = r) := hid_of (by rw [HR.out]; simp [hnB])
    go_enter Try.func73, Try.ntmps73
    go_wp2
    go_ret
    exact ⟨ret_b RT.out, bel_alloc w _⟩
  · rw [fb2] at HR
    by_cases hc : nr = 0
    case neg =>
      have RF : Hid (false = r) := hid_of (by rw [HR.out]; simp [hnB, hc])
      have f1 : (nr == 0) = false := beq_eq_false_iff_ne.2 hc
      have f2 : ((nr : Int) == 0) = false := beq_eq_false_iff_ne.2 (by omega)
      have f3 : ((nr : Int) != 0) = true := bne_iff_ne.2 (by omega)
      have f4 : (nr != 0) = true := bne_iff_ne.2 hc
      clear hc
      go_enter Try.func73, Try.ntmps73
      go_wp2
      go_ret
      exact ⟨ret_b RF.out, bel_alloc w _⟩
    subst hc
    by_cases hc : nn = 0
    case neg =>
      have RF : Hid (false = r) := hid_of (by rw [HR.out]; simp [hnB, hc])
      have f1 : (nn == 0) = false := beq_eq_false_iff_ne.2 hc
      have f2 : ((nn : Int) == 0) = false := beq_eq_false_iff_ne.2 (by omega)
      have f3 : ((nn : Int) != 0) = true := bne_iff_ne.2 (by omega)
      have f4 : (nn != 0) = true := bne_iff_ne.2 hc
      clear hc
      go_enter Try.func73, Try.ntmps73
      go_wp2
      go_ret
      exact ⟨ret_b RF.out, bel_alloc w _⟩
    subst hc
    by_cases hc : np = 0
    case neg =>
      have RF : Hid (false = r) := hid_of (by rw [HR.out]; simp [hnB, hc])
      have f1 : (np == 0) = false := beq_eq_false_iff_ne.2 hc
      have f2 : ((np : Int) == 0) = false := beq_eq_false_iff_ne.2 (by omega)
      have f3 : ((np : Int) != 0) = true := bne_iff_ne.2 (by omega)
      have f4 : (np != 0) = true := bne_iff_ne.2 hc
      clear hc
      go_enter Try.func73, Try.ntmps73
      go_wp2
      go_ret
      exact ⟨ret_b RF.out, bel_alloc w _⟩
    subst hc
    have RT : Hid (true = r) := hid_of (by rw [HR.out]; simp [hnB])
    go_enter Try.func73, Try.ntmps73
    go_wp2
    go_ret
    exact ⟨ret_b RT.out, bel_alloc w _⟩
  · rw [fb3] at HR
    by_cases hc : nr = 0
    case neg =>
      have RF : Hid (false = r) := hid_of (by rw [HR.out]; simp [hnB, hc])
      have f1 : (nr == 0) = false := beq_eq_false_iff_ne.2 hc
      have f2 : ((nr : Int) == 0) = false := beq_eq_false_iff_ne.2 (by omega)
      have f3 : ((nr : Int) != 0) = true := bne_iff_ne.2 (by omega)
      have f4 : (nr != 0) = true := bne_iff_ne.2 hc
      clear hc
      go_enter Try.func73, Try.ntmps73
      go_wp2
      go_ret
      exact ⟨ret_b RF.out, bel_alloc w _⟩
    subst hc
    by_cases hc : nn = 0
    case neg =>
      have RF : Hid (false = r) := hid_of (by rw [HR.out]; simp [hnB, hc])
      have f1 : (nn == 0) = false := beq_eq_false_iff_ne.2 hc
      have f2 : ((nn : Int) == 0) = false := beq_eq_false_iff_ne.2 (by omega)
      have f3 : ((nn : Int) != 0) = true := bne_iff_ne.2 (by omega)
      have f4 : (nn != 0) = true := bne_iff_ne.2 hc
      clear hc
      go_enter Try.func73, Try.ntmps73
      go_wp2
      go_ret
      exact ⟨ret_b RF.out, bel_alloc w _⟩
    subst hc
    by_cases hc : np = 0
    case neg =>
      have RF : Hid (false = r) := hid_of (by rw [HR.out]; simp [hnB, hc])
      have f1 : (np == 0) = false := beq_eq_false_iff_ne.2 hc
      have f2 : ((np : Int) == 0) = false := beq_eq_false_iff_ne.2 (by omega)
      have f3 : ((np : Int) != 0) = true := bne_iff_ne.2 (by omega)
      have f4 : (np != 0) = true := bne_iff_ne.2 hc
      clear hc
      go_enter Try.func73, Try.ntmps73
      go_wp2
      go_ret
      exact ⟨ret_b RF.out, bel_alloc w _⟩
    subst hc
    have RT : Hid (true = r) := hid_of (by rw [HR.out]; simp [hnB])
    go_enter Try.func73, Try.ntmps73
    go_wp2
    go_ret
    exact ⟨ret_b RT.out, bel_alloc w _⟩
  · rw [fb4] at HR
    by_cases hc : lo = 0
    case neg =>
      have RF : Hid (false = r) := hid_of (by rw [HR.out]; simp [hnB, hc])
      have f1 : (lo == 0) = false := beq_eq_false_iff_ne.2 hc
      have f2 : (lo != 0) = true := bne_iff_ne.2 hc
      clear hc
      go_enter Try.func73, Try.ntmps73
      go_wp2
      go_ret
      exact ⟨ret_b RF.out, bel_alloc w _⟩
    subst hc
    by_cases hc : hi = 0
    case neg =>
      have RF : Hid (false = r) := hid_of (by rw [HR.out]; simp [hnB, hc])
      have f1 : (hi == 0) = false := beq_eq_false_iff_ne.2 hc
      have f2 : (hi != 0) = true := bne_iff_ne.2 hc
      clear hc
      go_enter Try.func73, Try.ntmps73
      go_wp2
      go_ret
      exact ⟨ret_b RF.out, bel_alloc w _⟩
    subst hc
    by_cases hc : nr = 0
    case neg =>
      have RF : Hid (false = r) := hid_of (by rw [HR.out]; simp [hnB, hc])
      have f1 : (nr == 0) = false := beq_eq_false_iff_ne.2 hc
      have f2 : ((nr : Int) == 0) = false := beq_eq_false_iff_ne.2 (by omega)
      have f3 : ((nr : Int) != 0) = true := bne_iff_ne.2 (by omega)
      have f4 : (nr != 0) = true := bne_iff_ne.2 hc
      clear hc
      go_enter Try.func73, Try.ntmps73
      go_wp2
      go_ret
      exact ⟨ret_b RF.out, bel_alloc w _⟩
    subst hc
    by_cases hc : np = 0
    case neg =>
      have RF : Hid (false = r) := hid_of (by rw [HR.out]; simp [hnB, hc])
      have f1 : (np == 0) = false := beq_eq_false_iff_ne.2 hc
      have f2 : ((np : Int) == 0) = false := beq_eq_false_iff_ne.2 (by omega)
      have f3 : ((np : Int) != 0) = true := bne_iff_ne.2 (by omega)
      have f4 : (np != 0) = true := bne_iff_ne.2 hc
      clear hc
      go_enter Try.func73, Try.ntmps73
      go_wp2
      go_ret
      exact ⟨ret_b RF.out, bel_alloc w _⟩
    subst hc
    have RT : Hid (true = r) := hid_of (by rw [HR.out]; simp [hnB])
    go_enter Try.func73, Try.ntmps73
    go_wp2
    go_ret
    exact ⟨ret_b RT.out, bel_alloc w _⟩
  · rw [fb5] at HR
    by_cases hc : lo = 0
    case neg =>
      have RF : Hid (false = r) := hid_of (by rw [HR.out]; simp [hnB, hc])
      have f1 : (lo == 0) = false := beq_eq_false_iff_ne.2 hc
      have f2 : (lo != 0) = true := bne_iff_ne.2 hc
      clear hc
      go_enter Try.func73, Try.ntmps73
      go_wp2
      go_ret
      exact ⟨ret_b RF.out, bel_alloc w _⟩
    subst hc
    by_cases hc : hi = 0
    case neg =>
      have RF : Hid (false = r) := hid_of (by rw [HR.out]; simp [hnB, hc])
      have f1 : (hi == 0) = false := beq_eq_false_iff_ne.2 hc
      have f2 : (hi != 0) = true := bne_iff_ne.2 hc
      clear hc
      go_enter Try.func73, Try.ntmps73
      go_wp2
      go_ret
      exact ⟨ret_b RF.out, bel_alloc w _⟩
    subst hc
    by_cases hc : nr = 0
    case neg =>
      have RF : Hid (false = r) := hid_of (by rw [HR.out]; simp [hnB, hc])
      have f1 : (nr == 0) = false := beq_eq_false_iff_ne.2 hc
      have f2 : ((nr : Int) == 0) = false := beq_eq_false_iff_ne.2 (by omega)
      have f3 : ((nr : Int) != 0) = true := bne_iff_ne.2 (by omega)
      have f4 : (nr != 0) = true := bne_iff_ne.2 hc
      clear hc
      go_enter Try.func73, Try.ntmps73
      go_wp2
      go_ret
      exact ⟨ret_b RF.out, bel_alloc w _⟩
    subst hc
    by_cases hc : np = 1
    case neg =>
      have RF : Hid (false = r) := hid_of (by rw [HR.out]; simp [hnB, hc])
      have f1 : (np == 1) = false := beq_eq_false_iff_ne.2 hc
      have f2 : ((np : Int) == 1) = false := beq_eq_false_iff_ne.2 (by omega)
      clear hc
      go_enter Try.func73, Try.ntmps73
      go_wp2
      go_ret
      exact ⟨ret_b RF.out, bel_alloc w _⟩
    subst hc
    have RT : Hid (true = r) := hid_of (by rw [HR.out]; simp [hnB])
    go_enter Try.func73, Try.ntmps73
    go_wp2
    go_ret
    exact ⟨ret_b RT.out, bel_alloc w _⟩
  · rw [fb6] at HR
    by_cases hc : lo = 0
    case neg =>
      have RF : Hid (false = r) := hid_of (by rw [HR.out]; simp [hnB, hc])
      have f1 : (lo == 0) = false := beq_eq_false_iff_ne.2 hc
      have f2 : (lo != 0) = true := bne_iff_ne.2 hc
      clear hc
      go_enter Try.func73, Try.ntmps73
      go_wp2
      go_ret
      exact ⟨ret_b RF.out, bel_alloc w _⟩
    subst hc
    by_cases hc : hi = 0
    case neg =>
      have RF : Hid (false = r) := hid_of (by rw [HR.out]; simp [hnB, hc])
      have f1 : (hi == 0) = false := beq_eq_false_iff_ne.2 hc
      have f2 : (hi != 0) = true := bne_iff_ne.2 hc
      clear hc
      go_enter Try.func73, Try.ntmps73
      go_wp2
      go_ret
      exact ⟨ret_b RF.out, bel_alloc w _⟩
    subst hc
    by_cases hc : nr = 0
    case neg =>
      have RF : Hid (false = r) := hid_of (by rw [HR.out]; simp [hnB, hc])
      have f1 : (nr == 0) = false := beq_eq_false_iff_ne.2 hc
      have f2 : ((nr : Int) == 0) = false := beq_eq_false_iff_ne.2 (by omega)
      have f3 : ((nr : Int) != 0) = true := bne_iff_ne.2 (by omega)
      have f4 : (nr != 0) = true := bne_iff_ne.2 hc
      clear hc
      go_enter Try.func73, Try.ntmps73
      go_wp2
      go_ret
      exact ⟨ret_b RF.out, bel_alloc w _⟩
    subst hc
    by_cases hc : 0 < nn
    case neg =>
      have RF : Hid (false = r) := hid_of (by rw [HR.out]; simp [hnB, hc])
      have f1 : decide (0 < nn) = false := decide_eq_false hc
      have f2 : decide ((0 : Int) < (nn : Int)) = false := decide_eq_false (by omega)
      clear hc
      go_enter Try.func73, Try.ntmps73
      go_wp2
      go_ret
      exact ⟨ret_b RF.out, bel_alloc w _⟩
    have g1 : decide (0 < nn) = true := decide_eq_true hc
    have g2 : decide ((0 : Int) < (nn : Int)) = true := decide_eq_true (by omega)
    have hpos := hid_of hc
    clear hc
    by_cases hc : nn = np
    case neg =>
      have RF : Hid (false = r) := hid_of (by rw [HR.out]; rw [show (np == nn) = false from beq_eq_false_iff_ne.2 (fun e => hc e.symm)]; simp)
      have f1 : (nn == np) = false := beq_eq_false_iff_ne.2 hc
      have f2 : ((nn : Int) == (np : Int)) = false := beq_eq_false_iff_ne.2 (by omega)
      clear hc
      go_enter Try.func73, Try.ntmps73
      go_wp2
      go_ret
      exact ⟨ret_b RF.out, bel_alloc w _⟩
    subst hc
    have RT : Hid (true = r) := hid_of (by rw [HR.out]; simp [hnB, hpos.out])
    go_enter Try.func73, Try.ntmps73
    go_wp2
    go_ret
    exact ⟨ret_b RT.out, bel_alloc w _⟩
  · rw [fb7] at HR
    by_cases hc : lo = 0
    case neg =>
      have RF : Hid (false = r) := hid_of (by rw [HR.out]; simp [hnB, hc])
      have f1 : (lo == 0) = false := beq_eq_false_iff_ne.2 hc
      have f2 : (lo != 0) = true := bne_iff_ne.2 hc
      clear hc
      go_enter Try.func73, Try.ntmps73
      go_wp2
      go_ret
      exact ⟨ret_b RF.out, bel_alloc w _⟩
    subst hc
    by_cases hc : hi = 0
    case neg =>
      have RF : Hid (false = r) := hid_of (by rw [HR.out]; simp [hnB, hc])
      have f1 : (hi == 0) = false := beq_eq_false_iff_ne.2 hc
      have f2 : (hi != 0) = true := bne_iff_ne.2 hc
      clear hc
      go_enter Try.func73, Try.ntmps73
      go_wp2
      go_ret
      exact ⟨ret_b RF.out, bel_alloc w _⟩
    subst hc
    by_cases hc : nr = 0
    case neg =>
      have RF : Hid (false = r) := hid_of (by rw [HR.out]; simp [hnB, hc])
      have f1 : (nr == 0) = false := beq_eq_false_iff_ne.2 hc
      have f2 : ((nr : Int) == 0) = false := beq_eq_false_iff_ne.2 (by omega)
      have f3 : ((nr : Int) != 0) = true := bne_iff_ne.2 (by omega)
      have f4 : (nr != 0) = true := bne_iff_ne.2 hc
      clear hc
      go_enter Try.func73, Try.ntmps73
      go_wp2
      go_ret
      exact ⟨ret_b RF.out, bel_alloc w _⟩
    subst hc
    by_cases hc : nn = 0
    case neg =>
      have RF : Hid (false = r) := hid_of (by rw [HR.out]; simp [hnB, hc])
      have f1 : (nn == 0) = false := beq_eq_false_iff_ne.2 hc
      have f2 : ((nn : Int) == 0) = false := beq_eq_false_iff_ne.2 (by omega)
      have f3 : ((nn : Int) != 0) = true := bne_iff_ne.2 (by omega)
      have f4 : (nn != 0) = true := bne_iff_ne.2 hc
      clear hc
      go_enter Try.func73, Try.ntmps73
      go_wp2
      go_ret
      exact ⟨ret_b RF.out, bel_alloc w _⟩
    subst hc
    by_cases hc : np = 2
    case neg =>
      have RF : Hid (false = r) := hid_of (by rw [HR.out]; simp [hnB, hc])
      have f1 : (np == 2) = false := beq_eq_false_iff_ne.2 hc
      have f2 : ((np : Int) == 2) = false := beq_eq_false_iff_ne.2 (by omega)
      clear hc
      go_enter Try.func73, Try.ntmps73
      go_wp2
      go_ret
      exact ⟨ret_b RF.out, bel_alloc w _⟩
    subst hc
    have RT : Hid (true = r) := hid_of (by rw [HR.out]; simp [hnB])
    go_enter Try.func73, Try.ntmps73
    go_wp2
    go_ret
    exact ⟨ret_b RT.out, bel_alloc w _⟩
  · rw [fb8] at HR
    by_cases hc : lo = 0
    case neg =>
      have RF : Hid (false = r) := hid_of (by rw [HR.out]; simp [hnB, hc])
      have f1 : (lo == 0) = false := beq_eq_false_iff_ne.2 hc
      have f2 : (lo != 0) = true := bne_iff_ne.2 hc
      clear hc
      go_enter Try.func73, Try.ntmps73
      go_wp2
      go_ret
      exact ⟨ret_b RF.out, bel_alloc w _⟩
    subst hc
    by_cases hc : hi = 0
    case neg =>
      have RF : Hid (false = r) := hid_of (by rw [HR.out]; simp [hnB, hc])
      have f1 : (hi == 0) = false := beq_eq_false_iff_ne.2 hc
      have f2 : (hi != 0) = true := bne_iff_ne.2 hc
      clear hc
      go_enter Try.func73, Try.ntmps73
      go_wp2
      go_ret
      exact ⟨ret_b RF.out, bel_alloc w _⟩
    subst hc
    by_cases hc : nr = 0
    case neg =>
      have RF : Hid (false = r) := hid_of (by rw [HR.out]; simp [hnB, hc])
      have f1 : (nr == 0) = false := beq_eq_false_iff_ne.2 hc
      have f2 : ((nr : Int) == 0) = false := beq_eq_false_iff_ne.2 (by omega)
      have f3 : ((nr : Int) != 0) = true := bne_iff_ne.2 (by omega)
      have f4 : (nr != 0) = true := bne_iff_ne.2 hc
      clear hc
      go_enter Try.func73, Try.ntmps73
      go_wp2
      go_ret
      exact ⟨ret_b RF.out, bel_alloc w _⟩
    subst hc
    by_cases hc : np = 0
    case neg =>
      have RF : Hid (false = r) := hid_of (by rw [HR.out]; simp [hnB, hc])
      have f1 : (np == 0) = false := beq_eq_false_iff_ne.2 hc
      have f2 : ((np : Int) == 0) = false := beq_eq_false_iff_ne.2 (by omega)
      have f3 : ((np : Int) != 0) = true := bne_iff_ne.2 (by omega)
      have f4 : (np != 0) = true := bne_iff_ne.2 hc
      clear hc
      go_enter Try.func73, Try.ntmps73
      go_wp2
      go_ret
      exact ⟨ret_b RF.out, bel_alloc w _⟩
    subst hc
    have RT : Hid (true = r) := hid_of (by rw [HR.out]; simp [hnB])
    go_enter Try.func73, Try.ntmps73
    go_wp2
    go_ret
    exact ⟨ret_b RT.out, bel_alloc w _⟩
  · rw [fb9] at HR
    by_cases hc : lo = 0
    case neg =>
      have RF : Hid (false = r) := hid_of (by rw [HR.out]; simp [hnB, hc])
      have f1 : (lo == 0) = false := beq_eq_false_iff_ne.2 hc
      have f2 : (lo != 0) = true := bne_iff_ne.2 hc
      clear hc
      go_enter Try.func73, Try.ntmps73
      go_wp2
      go_ret
      exact ⟨ret_b RF.out, bel_alloc w _⟩
    subst hc
    by_cases hc : hi = 0
    case neg =>
      have RF : Hid (false = r) := hid_of (by rw [HR.out]; simp [hnB, hc])
      have f1 : (hi == 0) = false := beq_eq_false_iff_ne.2 hc
      have f2 : (hi != 0) = true := bne_iff_ne.2 hc
      clear hc
      go_enter Try.func73, Try.ntmps73
      go_wp2
      go_ret
      exact ⟨ret_b RF.out, bel_alloc w _⟩
    subst hc
    by_cases hc : nr = 0
    case neg =>
      have RF : Hid (false = r) := hid_of (by rw [HR.out]; simp [hnB, hc])
      have f1 : (nr == 0) = false := beq_eq_false_iff_ne.2 hc
      have f2 : ((nr : Int) == 0) = false := beq_eq_false_iff_ne.2 (by omega)
      have f3 : ((nr : Int) != 0) = true := bne_iff_ne.2 (by omega)
      have f4 : (nr != 0) = true := bne_iff_ne.2 hc
      clear hc
      go_enter Try.func73, Try.ntmps73
      go_wp2
      go_ret
      exact ⟨ret_b RF.out, bel_alloc w _⟩
    subst hc
    by_cases hc : nn = 0
    case neg =>
      have RF : Hid (false = r) := hid_of (by rw [HR.out]; simp [hnB, hc])
      have f1 : (nn == 0) = false := beq_eq_false_iff_ne.2 hc
      have f2 : ((nn : Int) == 0) = false := beq_eq_false_iff_ne.2 (by omega)
      have f3 : ((nn : Int) != 0) = true := bne_iff_ne.2 (by omega)
      have f4 : (nn != 0) = true := bne_iff_ne.2 hc
      clear hc
      go_enter Try.func73, Try.ntmps73
      go_wp2
      go_ret
      exact ⟨ret_b RF.out, bel_alloc w _⟩
    subst hc
    by_cases hc : np = 0
    case neg =>
      have RF : Hid (false = r) := hid_of (by rw [HR.out]; simp [hnB, hc])
      have f1 : (np == 0) = false := beq_eq_false_iff_ne.2 hc
      have f2 : ((np : Int) == 0) = false := beq_eq_false_iff_ne.2 (by omega)
      have f3 : ((np : Int) != 0) = true := bne_iff_ne.2 (by omega)
      have f4 : (np != 0) = true := bne_iff_ne.2 hc
      clear hc
      go_enter Try.func73, Try.ntmps73
      go_wp2
      go_ret
      exact ⟨ret_b RF.out, bel_alloc w _⟩
    subst hc
    have RT : Hid (true = r) := hid_of (by rw [HR.out]; simp [hnB])
    go_enter Try.func73, Try.ntmps73
    go_wp2
    go_ret
    exact ⟨ret_b RT.out, bel_alloc w _⟩
  · rw [fb10] at HR
    by_cases hc : lo = 0
    case neg =>
      have RF : Hid (false = r) := hid_of (by rw [HR.out]; simp [hnB, hc])
      have f1 : (lo == 0) = false := beq_eq_false_iff_ne.2 hc
      have f2 : (lo != 0) = true := bne_iff_ne.2 hc
      clear hc
      go_enter Try.func73, Try.ntmps73
      go_wp2
      go_ret
      exact ⟨ret_b RF.out, bel_alloc w _⟩
    subst hc
    by_cases hc : hi = 0
    case neg =>
      have RF : Hid (false = r) := hid_of (by rw [HR.out]; simp [hnB, hc])
      have f1 : (hi == 0) = false := beq_eq_false_iff_ne.2 hc
      have f2 : (hi != 0) = true := bne_iff_ne.2 hc
      clear hc
      go_enter Try.func73, Try.ntmps73
      go_wp2
      go_ret
      exact ⟨ret_b RF.out, bel_alloc w _⟩
    subst hc
    by_cases hc : 0 < nn
    case neg =>
      have RF : Hid (false = r) := hid_of (by rw [HR.out]; simp [hnB, hc])
      have f1 : decide (0 < nn) = false := decide_eq_false hc
      have f2 : decide ((0 : Int) < (nn : Int)) = false := decide_eq_false (by omega)
      clear hc
      go_enter Try.func73, Try.ntmps73
      go_wp2
      go_ret
      exact ⟨ret_b RF.out, bel_alloc w _⟩
    have g1 : decide (0 < nn) = true := decide_eq_true hc
    have g2 : decide ((0 : Int) < (nn : Int)) = true := decide_eq_true (by omega)
    have hpos := hid_of hc
    clear hc
    by_cases hc : np = 0
    case neg =>
      have RF : Hid (false = r) := hid_of (by rw [HR.out]; simp [hnB, hc])
      have f1 : (np == 0) = false := beq_eq_false_iff_ne.2 hc
      have f2 : ((np : Int) == 0) = false := beq_eq_false_iff_ne.2 (by omega)
      have f3 : ((np : Int) != 0) = true := bne_iff_ne.2 (by omega)
      have f4 : (np != 0) = true := bne_iff_ne.2 hc
      clear hc
      go_enter Try.func73, Try.ntmps73
      go_wp2
      go_ret
      exact ⟨ret_b RF.out, bel_alloc w _⟩
    subst hc
    have RT : Hid (true = r) := hid_of (by rw [HR.out]; simp [hnB, hpos.out])
    go_enter Try.func73, Try.ntmps73
    go_wp2
    go_ret
    exact ⟨ret_b RT.out, bel_alloc w _⟩
  · rw [fb0 _ _ _ _ _ hx] at HR
    obtain ⟨h1, h2, h3, h4, h5, h6, h7, h8, h9, h10⟩ := hx
    go_enter Try.func73, Try.ntmps73
    go_wp2
    all_goals go_ret
    all_goals exact ⟨ret_b HR.out.symm, bel_alloc w _⟩
end Go.Proofs.Ytgbadiajdhehpaa

/- The reference's named. Bounds on sizes alone. -/
namespace Go.Proofs.Ytgbadiajdhehpaa
open Go.RowKit

def rruleB (ns : List Str) (x : Gr) : Bool := !x.1.isEmpty && risB x.1 && decide (x.2 ∈ ns) && x.1.all fun s => decide (s ∈ ns)
def rnamedB (t : Lat) : Bool := if t.k = 6 then t.ns.all nameB && decide t.ns.Nodup else risB t.ns && t.rs.all (rruleB t.ns)
theorem all_imp {α : Type} {f g : α → Bool} {l : List α} (h : ∀ x ∈ l, f x = g x) : l.all f = l.all g := by
  induction l with
  | nil => rfl
  | cons a l ih => rw [List.all_cons, List.all_cons, h a (by simp), ih fun x hx => h x (by simp [hx])]
theorem rnamed_eq {t : Lat} (hs : shapeB t = true) : rnamedB t = (namesB t && rulesB t.ns t.rs) := by
  unfold rnamedB namesB
  by_cases h6 : t.k = 6
  · have hr : t.rs = [] := by
      unfold shapeB at hs
      rw [if_neg (by omega), if_neg (by omega), if_neg (by omega), if_neg (by omega), if_pos h6] at hs
      exact (of_decide_eq_true hs).2.2.1
    rw [if_pos h6, decide_eq_true h6, hr]
    simp [rulesB]
  · rw [if_neg h6, decide_eq_false h6, Bool.false_or]
    unfold risB
    by_cases hn : t.ns.all nameB = true
    · by_cases hss : ssB t.ns = true
      · have hnd : decide t.ns.Nodup = true := decide_eq_true (ss_nodup (of_decide_eq_true hss))
        rw [hn, hss, hnd]
        simp only [Bool.true_and]
        unfold rulesB
        refine all_imp fun x _ => ?_
        unfold rruleB ruleB risB
        rw [List.all_append]
        simp only [List.all_cons, List.all_nil, Bool.and_true]
        by_cases hin : x.1.all (fun s => decide (s ∈ t.ns)) = true
        · have hv : x.1.all nameB = true := by
            rw [List.all_eq_true] at hin hn ⊢
            exact fun s h => hn s (of_decide_eq_true (hin s h))
          rw [hin, hv]
          cases x.1.isEmpty <;> cases ssB x.1 <;> simp
        · rw [Bool.not_eq_true] at hin
          rw [hin]
          simp
      · rw [Bool.not_eq_true] at hss
        rw [hss]
        simp
    · rw [Bool.not_eq_true] at hn
      rw [hn]
      simp
theorem Rd.take {w : World} {ao : Option Addr} {n cap i : Nat} {l : List Str} (h : Rd w (.slice ao n cap) (ss l)) (hi : i ≤ n) : Rd w (.slice ao i cap) (ss (l.take i)) := by
  obtain ⟨hn, h1, h2, h3⟩ := rds_open h
  have hlt : (l.take i).length = i := by rw [List.length_take]; omega
  refine ⟨ao, cap, by rw [ss_length, hlt], by rw [ss_length, hlt]; omega, h2, fun h0 => ?_⟩
  rw [ss_length, hlt] at h0
  rcases h3 with h3 | ⟨g, o, rfl, hg, hc⟩
  · rw [h3] at hn; simp at hn; omega
  · refine ⟨g, o, rfl, hg, fun j u hu => ?_⟩
    simp only [ss, List.getElem?_map] at hu
    obtain ⟨x, hx, rfl⟩ := Option.map_eq_some_iff.1 hu
    rw [List.getElem?_take] at hx
    split at hx
    · exact hc j x hx
    · cases hx
theorem nd_bad {t : Lat} {i : Nat} {x : Str} (h6 : t.k = 6) (hx : t.ns[i]? = some x) (hn : x ∈ t.ns.take i) : rnamedB t = false := by
  unfold rnamedB; rw [if_pos h6, decide_eq_false (nodup_bad hx hn), Bool.and_false]
theorem nd_inv {t : Lat} {i : Nat} {x : Str} (h6 : t.k = 6) (hx : t.ns[i]? = some x) (hn : nameB x = false) : rnamedB t = false := by
  unfold rnamedB; rw [if_pos h6, all_bad hx hn, Bool.false_and]
set_option maxRecDepth 100000 in
set_option maxHeartbeats 6400000 in
theorem rnamed6_any (t : Lat) (lo hi : Int) (an : Option Addr) (nn cn : Nat) (ap : Option Addr) (np cp : Nat) (ar : Option Addr) (nr cr : Nat) (w : World) (H : LO w 6 lo hi an nn cn ap np cp ar nr cr t) : Calls Try.prog 74 #[.agg #[.int .i64 6, .int .i64 lo, .int .i64 hi, .slice an nn cn, .slice ap np cp, .slice ar nr cr]] w (BoP (rnamedB t) w) := by
  obtain ⟨r, hr⟩ : ∃ r, r = rnamedB t := ⟨_, rfl⟩
  rw [← hr]
  have HR := hid_of hr
  have HH := hid_of H
  have HN := hid_of H.ln
  have H6 : Hid (t.k = 6) := hid_of H.hk.symm
  obtain ⟨hnl, hcn, hcap, h3⟩ := rds_open H.n
  have H3 := hid_of h3
  have HBW := hid_of (bel_alloc w (.cells #[.int .i64 6, .int .i64 lo, .int .i64 hi, .slice an nn cn, .slice ap np cp, .slice ar nr cr] 26))
  have HX : Hid (∀ wz, Below (w.alloc (.cells #[.int .i64 6, .int .i64 lo, .int .i64 hi, .slice an nn cn, .slice ap np cp, .slice ar nr cr] 26)).heap.size (w.alloc (.cells #[.int .i64 6, .int .i64 lo, .int .i64 hi, .slice an nn cn, .slice ap np cp, .slice ar nr cr] 26)) wz → _) := hid_of (fun wz hz => box6 6 lo hi an nn cn ap np cp ar nr cr hz)
  obtain ⟨WW, hWW⟩ : ∃ WW, WW = (w.alloc (.cells #[.int .i64 6, .int .i64 lo, .int .i64 hi, .slice an nn cn, .slice ap np cp, .slice ar nr cr] 26)) := ⟨_, rfl⟩
  have K0 : Hid (Below WW.heap.size WW (w.alloc (.cells #[.int .i64 6, .int .i64 lo, .int .i64 hi, .slice an nn cn, .slice ap np cp, .slice ar nr cr] 26))) := hid_of (by rw [← hWW]; exact Below.refl _ _)
  rw [← hWW] at HX HBW
  clear hr H hWW h3 hnl
  go_enter Try.func74, Try.ntmps74
  go_wp2
  go_loopw [3] (fun iv wr => ∃ i : Nat, iv = .int .i64 i ∧ i ≤ nn ∧ Hid ((∀ x ∈ t.ns.take i, nameB x = true) ∧ (t.ns.take i).Nodup) ∧ Hid (Below WW.heap.size WW wr)) (fun iv _ => nn - (intOf iv).toNat)
  case atStart => exact ⟨0, rfl, Nat.zero_le _, hid_of ⟨by simp, by simp⟩, K0⟩
  case round =>
    obtain ⟨i, rfl, hin, hq, hb⟩ := hrel
    obtain ⟨p0, p1, p2, p3, p4, p5⟩ := HX.out wr hb.out
    have hbw : Below w.heap.size w wr := HBW.out.trans (hb.out.mono HBW.out.size)
    by_cases hlt : i < nn
    · have d1 : decide (i < nn) = true := decide_eq_true hlt
      have hlt' : (i : Int) < (nn : Int) := by omega
      have h0i : (0 : Int) ≤ (i : Int) := by omega
      have hic : (i : Int) ≤ (cn : Int) := by omega
      have HLT := hid_of hlt
      have hl : i < t.ns.length := by have := HN.out; omega
      rcases H3.out with h3 | ⟨g, o, rfl, hg, hc⟩
      · exfalso; rw [h3] at hl; simp at hl
      obtain ⟨x, hx⟩ : ∃ x, t.ns[i]? = some x := ⟨_, List.getElem?_eq_getElem hl⟩
      have c1 := (hbw.cell (p := ⟨g, o + i, none⟩) hg).trans (hc i _ hx)
      have hxl := HH.out.on x (List.mem_of_getElem? hx)
      have VC : Hid (∀ w, Calls Try.prog 82 #[.string (ba x)] w fun ee w' => ee = .returned (.bool (nameB x)) ∧ w' = w) := hid_of (fun w => rname9_any (ba x) w (by unfold maxLen; show x.toArray.size ≤ _; simpa using hxl))
      have IC : Hid (∀ m, Calls Try.prog 83 #[.slice (some ⟨g, o, none⟩) i cn, .string (ba x)] (wr.drewN m) fun ee w' => ee = .returned (.bool (decide (x ∈ t.ns.take i))) ∧ w' = wr.drewN m) := hid_of (fun m => rin_any _ x (some ⟨g, o, none⟩) i cn _ ((HH.out.n.at (bel_drewN hbw m)).take (by omega)))
      obtain ⟨qv, hqv⟩ : ∃ q, q = nameB x := ⟨_, rfl⟩
      obtain ⟨qi, hqi⟩ : ∃ q, q = decide (x ∈ t.ns.take i) := ⟨_, rfl⟩
      rw [← hqv] at VC
      rw [← hqi] at IC
      obtain ⟨bk, hbk⟩ : ∃ b, b = ba x := ⟨_, rfl⟩
      rw [← hbk] at c1 VC IC
      have HXX := hid_of hx
      cases qv
      · have RF : Hid (false = r) := hid_of (by rw [HR.out, nd_inv H6.out hx hqv.symm])
        clear hc hx hxl hqv hqi hbk hlt hl H3 hbw IC
        go_wp2
        go_quiet ((go_at_call 82; exact Calls.quiet_of_same (VC.out _)))
        go_wp2
        go_ret
        exact ⟨ret_b RF.out, HBW.out.trans ((bel_drewN hb.out nq).mono HBW.out.size)⟩
      cases qi
      case true =>
        have RF : Hid (false = r) := hid_of (by rw [HR.out, nd_bad H6.out hx (of_decide_eq_true hqi.symm)])
        clear hc hx hxl hqv hqi hbk hlt hl H3 hbw
        go_wp2
        go_quiet (first | ((go_at_call 82; exact Calls.quiet_of_same (VC.out _))) | ((go_at_call 83; exact Calls.quiet_of_same (IC.out _))))
        go_wp2
        go_ret
        exact ⟨ret_b RF.out, HBW.out.trans ((bel_drewN hb.out nq).mono HBW.out.size)⟩
      have HQ2 : Hid ((∀ x ∈ t.ns.take (i + 1), nameB x = true) ∧ (t.ns.take (i + 1)).Nodup) := hid_of ⟨fun y hy => by
        rw [take_next hx, List.mem_append, List.mem_singleton] at hy
        rcases hy with hy | rfl
        · exact hq.out.1 y hy
        · exact hqv.symm, nodup_next hq.out.2 hx (of_decide_eq_false hqi.symm)⟩
      clear hc hx hxl hqv hqi hbk hlt hl H3 hbw
      go_wp2
      go_quiet (first | ((go_at_call 82; exact Calls.quiet_of_same (VC.out _))) | ((go_at_call 83; exact Calls.quiet_of_same (IC.out _))))
      go_wp2
      go_roundw
      case rel => exact ⟨i + 1, by go_num, HLT.out, HQ2, hid_of (bel_drewN hb.out nq)⟩
      case measure => have := HLT.out; simp [intOf]; omega
    · have d1 : decide (i < nn) = false := decide_eq_false hlt
      have RT : Hid (true = r) := hid_of (by
        have e : i = t.ns.length := by have := HN.out; omega
        have h := hq.out
        rw [e, List.take_length] at h
        rw [HR.out]; unfold rnamedB
        rw [if_pos H6.out, List.all_eq_true.2 h.1, decide_eq_true h.2]; rfl)
      clear hlt
      go_wp2
      go_ret
      exact ⟨ret_b RT.out, hbw⟩
end Go.Proofs.Ytgbadiajdhehpaa

/- The reference's named, of all kinds. Bounds on sizes alone. -/
namespace Go.Proofs.Ytgbadiajdhehpaa
open Go.RowKit

theorem rr_bad {t : Lat} {i : Nat} {x : Gr} (h6 : t.k ≠ 6) (hx : t.rs[i]? = some x) (hn : rruleB t.ns x = false) : rnamedB t = false := by
  unfold rnamedB; rw [if_neg h6, all_bad hx hn, Bool.and_false]
theorem rr_ok {ns : List Str} {x : Gr} (h0 : x.1 ≠ []) (h1 : risB x.1 = true) (h2 : x.2 ∈ ns) (h3 : x.1.all (fun s => decide (s ∈ ns)) = true) : rruleB ns x = true := by
  unfold rruleB
  rw [h1, decide_eq_true h2, h3]
  cases hx : x.1 with
  | nil => exact absurd hx h0
  | cons a l => rfl
set_option maxRecDepth 100000 in
set_option maxHeartbeats 6400000 in
theorem rnamed_any (t : Lat) (k lo hi : Int) (an : Option Addr) (nn cn : Nat) (ap : Option Addr) (np cp : Nat) (ar : Option Addr) (nr cr : Nat) (w : World) (H : LO w k lo hi an nn cn ap np cp ar nr cr t) : Calls Try.prog 74 #[.agg #[.int .i64 k, .int .i64 lo, .int .i64 hi, .slice an nn cn, .slice ap np cp, .slice ar nr cr]] w (BoP (rnamedB t) w) := by
  by_cases h6 : k = 6
  · subst h6
    exact rnamed6_any t lo hi an nn cn ap np cp ar nr cr w H
  obtain ⟨r, hr⟩ : ∃ r, r = rnamedB t := ⟨_, rfl⟩
  rw [← hr]
  have HR := hid_of hr
  have HH := hid_of H
  have H6 : Hid (t.k ≠ 6) := hid_of (by rw [← H.hk]; exact h6)
  have e6 : (k == 6) = false := beq_eq_false_iff_ne.2 h6
  have hrl := H.r.len
  have HRL := hid_of hrl.1
  have hcr : nr ≤ 9223372036854775807 := by omega
  have HBW := hid_of (bel_alloc w (.cells #[.int .i64 k, .int .i64 lo, .int .i64 hi, .slice an nn cn, .slice ap np cp, .slice ar nr cr] 26))
  have HX : Hid (∀ wz, Below (w.alloc (.cells #[.int .i64 k, .int .i64 lo, .int .i64 hi, .slice an nn cn, .slice ap np cp, .slice ar nr cr] 26)).heap.size (w.alloc (.cells #[.int .i64 k, .int .i64 lo, .int .i64 hi, .slice an nn cn, .slice ap np cp, .slice ar nr cr] 26)) wz → _) := hid_of (fun wz hz => box6 k lo hi an nn cn ap np cp ar nr cr hz)
  have RC0 := hid_of (rising_any t.ns an nn cn (w.alloc (.cells #[.int .i64 k, .int .i64 lo, .int .i64 hi, .slice an nn cn, .slice ap np cp, .slice ar nr cr] 26)) (H.n.at HBW.out) H.on)
  obtain ⟨WW, hWW⟩ : ∃ WW, WW = (w.alloc (.cells #[.int .i64 k, .int .i64 lo, .int .i64 hi, .slice an nn cn, .slice ap np cp, .slice ar nr cr] 26)) := ⟨_, rfl⟩
  have K0 : Hid (∀ m, Below WW.heap.size WW ((w.alloc (.cells #[.int .i64 k, .int .i64 lo, .int .i64 hi, .slice an nn cn, .slice ap np cp, .slice ar nr cr] 26)).drewN m)) := hid_of (fun m => by rw [← hWW]; exact bel_drewN (Below.refl _ _) m)
  rw [← hWW] at HX HBW
  obtain ⟨q0, hq0⟩ : ∃ q, q = risB t.ns := ⟨_, rfl⟩
  rw [← hq0] at RC0
  have HQ0 := hid_of hq0
  have RC := RC0
  clear hr H hWW h6 hrl hq0
  cases q0
  · have RF : Hid (false = r) := hid_of (by rw [HR.out]; unfold rnamedB; rw [if_neg H6.out, ← HQ0.out]; rfl)
    go_enter Try.func74, Try.ntmps74
    go_wp2_with (go_at_call 84; ((with_reducible refine (RC.out).mono ?_); (rintro e w2 ⟨rfl, m2, rfl⟩)))
    go_ret
    exact ⟨ret_b RF.out, HBW.out.trans ((K0.out m2).mono HBW.out.size)⟩
  go_enter Try.func74, Try.ntmps74
  go_wp2_with (go_at_call 84; ((with_reducible refine (RC.out).mono ?_); (rintro e w2 ⟨rfl, m2, rfl⟩)))
  go_loopw [4] (fun iv wr => ∃ i : Nat, iv = .int .i64 i ∧ i ≤ nr ∧ Hid (∀ j, j < i → ∀ p, t.rs[j]? = some p → rruleB t.ns p = true) ∧ Hid (Below WW.heap.size WW wr)) (fun iv _ => nr - (intOf iv).toNat)
  case atStart => exact ⟨0, rfl, Nat.zero_le _, hid_of (fun j h => absurd h (Nat.not_lt_zero j)), hid_of (K0.out m2)⟩
  case round =>
    clear RC RC0 K0
    obtain ⟨i, rfl, hin, hq, hb⟩ := hrel
    obtain ⟨p0, p1, p2, p3, p4, p5⟩ := HX.out wr hb.out
    have hbw : Below w.heap.size w wr := HBW.out.trans (hb.out.mono HBW.out.size)
    by_cases hlt : i < nr
    · have d1 : decide (i < nr) = true := decide_eq_true hlt
      have hlt' : (i : Int) < (nr : Int) := by omega
      have HLT := hid_of hlt
      have hl : i < t.rs.length := by have := HRL.out; omega
      obtain ⟨x, hx⟩ : ∃ x, t.rs[i]? = some x := ⟨_, List.getElem?_eq_getElem hl⟩
      obtain ⟨g, o, aA, kA, dA, rfl, RA, hcA⟩ := HH.out.r.get hx
      obtain ⟨c0, c1⟩ := hcA _ hbw
      have HXX := hid_of hx
      have HOX := hid_of (HH.out.or x (List.mem_of_getElem? hx))
      obtain ⟨bx, hbx⟩ : ∃ bx, bx = ba x.2 := ⟨_, rfl⟩
      have HBX2 := hid_of hbx
      rw [← hbx] at c1
      have HKA := hid_of (rds_open RA).1
      have HRA := hid_of RA
      have HBWR := hid_of hbw
      have HWB : Hid (Below WW.heap.size WW (wr.alloc (.cells #[.slice aA kA dA, .string bx] 46))) := hid_of (hb.out.alloc hb.out.size _)
      have HWBw : Hid (Below w.heap.size w (wr.alloc (.cells #[.slice aA kA dA, .string bx] 46))) := hid_of (hbw.alloc hbw.size _)
      obtain ⟨o0, o1, o2, o3, o4, o5⟩ := HX.out (wr.alloc (.cells #[.slice aA kA dA, .string bx] 46)) HWB.out
      have HBC : Hid (∀ w', Below (wr.alloc (.cells #[.slice aA kA dA, .string bx] 46)).heap.size (wr.alloc (.cells #[.slice aA kA dA, .string bx] 46)) w' → w'.cell? ⟨wr.heap.size, 0, none⟩ = some (.slice aA kA dA) ∧ w'.cell? ⟨wr.heap.size, 1, none⟩ = some (.string bx)) := hid_of (fun w' h =>
        ⟨blk_kept (cs := [.slice aA kA dA, .string bx]) (heap_alloc_new wr _) h rfl, blk_kept (cs := [.slice aA kA dA, .string bx]) (heap_alloc_new wr _) h rfl⟩)
      clear hlt hl hx hcA hbx RA hbw
      by_cases hk0 : kA = 0
      · subst hk0
        have RF : Hid (false = r) := hid_of (by rw [HR.out, rr_bad H6.out HXX.out (by unfold rruleB; rw [List.eq_nil_of_length_eq_zero HKA.out.symm]; rfl)])
        go_wp2
        go_ret
        exact ⟨ret_b RF.out, HWBw.out⟩
      have ek : (kA == 0) = false := beq_eq_false_iff_ne.2 hk0
      have ek' : ((kA : Int) == 0) = false := beq_eq_false_iff_ne.2 (by omega)
      have HK0 := hid_of hk0
      have RC := hid_of (rising_any x.1 aA kA dA (wr.alloc (.cells #[.slice aA kA dA, .string bx] 46)) (HRA.out.at HWBw.out) HOX.out.1)
      have IC : Hid (∀ m, Calls Try.prog 83 #[.slice an nn cn, .string bx] ((wr.alloc (.cells #[.slice aA kA dA, .string bx] 46)).drewN m) fun ee w' => ee = .returned (.bool (decide (x.2 ∈ t.ns))) ∧ (wr.alloc (.cells #[.slice aA kA dA, .string bx] 46)).drewN m = w') := hid_of (fun m => by
        have h := rin_any t.ns x.2 an nn cn ((wr.alloc (.cells #[.slice aA kA dA, .string bx] 46)).drewN m) (HH.out.n.at (bel_drewN HWBw.out m))
        rw [← HBX2.out] at h
        exact h.mono fun _ _ h => ⟨h.1, h.2.symm⟩)
      obtain ⟨q1, hq1⟩ : ∃ q, q = risB x.1 := ⟨_, rfl⟩
      obtain ⟨q2, hq2⟩ : ∃ q, q = decide (x.2 ∈ t.ns) := ⟨_, rfl⟩
      rw [← hq1] at RC
      rw [← hq2] at IC
      have HQ1 := hid_of hq1
      have HQ2 := hid_of hq2
      clear hk0 hq1 hq2
      cases q1
      · have RF : Hid (false = r) := hid_of (by rw [HR.out, rr_bad H6.out HXX.out (by unfold rruleB; rw [← HQ1.out]; simp)])
        go_wp2_with (go_at_call 84; ((with_reducible refine (RC.out).mono ?_); (rintro e w2 ⟨rfl, m2, rfl⟩)))
        go_ret
        exact ⟨ret_b RF.out, bel_drewN HWBw.out m2⟩
      cases q2
      · have RF : Hid (false = r) := hid_of (by rw [HR.out, rr_bad H6.out HXX.out (by unfold rruleB; rw [← HQ2.out]; simp)])
        go_wp2_with (first | (go_at_call 84; ((with_reducible refine (RC.out).mono ?_); (rintro e w2 ⟨rfl, m2, rfl⟩))) | (go_at_call 83; ((with_reducible refine (IC.out m2).mono ?_); (rintro e w3 ⟨rfl, rfl⟩))))
        go_ret
        exact ⟨ret_b RF.out, bel_drewN HWBw.out m2⟩
      go_wp2_with (first | (go_at_call 84; ((with_reducible refine (RC.out).mono ?_); (rintro e w2 ⟨rfl, m2, rfl⟩))) | (go_at_call 83; ((with_reducible refine (IC.out m2).mono ?_); (rintro e w3 ⟨rfl, rfl⟩))))
      have KS : Hid (Below (wr.alloc (.cells #[.slice aA kA dA, .string bx] 46)).heap.size (wr.alloc (.cells #[.slice aA kA dA, .string bx] 46)) ((wr.alloc (.cells #[.slice aA kA dA, .string bx] 46)).drewN m2)) := hid_of (bel_drewN (Below.refl _ _) m2)
      obtain ⟨BB, hBB⟩ : ∃ BB, BB = (wr.alloc (.cells #[.slice aA kA dA, .string bx] 46)) := ⟨_, rfl⟩
      rw [← hBB] at HBC HWB HWBw
      have KS2 : Hid (Below BB.heap.size BB ((wr.alloc (.cells #[.slice aA kA dA, .string bx] 46)).drewN m2)) := hid_of (by rw [hBB]; exact KS.out)
      clear KS hBB c0 c1 o0 o1 o2 o3 o4 o5 p0 p1 p2 p3 p4 p5
      go_loopw [6] (fun iv wz => ∃ j : Nat, iv = .int .i64 j ∧ j ≤ kA ∧ Hid (∀ jj, jj < j → ∀ s, x.1[jj]? = some s → decide (s ∈ t.ns) = true) ∧ Hid (Below BB.heap.size BB wz)) (fun iv _ => kA - (intOf iv).toNat)
      case atStart => exact ⟨0, rfl, Nat.zero_le _, hid_of (fun j h => absurd h (Nat.not_lt_zero j)), KS2⟩
      case round =>
        clear KS2 RC IC
        obtain ⟨j, rfl, hjn, hjq, hbj⟩ := hrel
        have hbW : Below WW.heap.size WW wr := HWB.out.trans (hbj.out.mono HWB.out.size)
        have hbw : Below w.heap.size w wr := HWBw.out.trans (hbj.out.mono HWBw.out.size)
        have HbW := hid_of hbW
        have Hbw := hid_of hbw
        obtain ⟨p0, p1, p2, p3, p4, p5⟩ := HX.out wr hbW
        obtain ⟨c0, c1⟩ := HBC.out wr hbj.out
        by_cases hjlt : j < kA
        · have d2 : decide (j < kA) = true := decide_eq_true hjlt
          have hjlt' : (j : Int) < (kA : Int) := by omega
          have HJLT := hid_of hjlt
          obtain ⟨s, hs⟩ : ∃ s, x.1[j]? = some s := ⟨_, List.getElem?_eq_getElem (by have := HKA.out; omega)⟩
          obtain ⟨_, _, _, h3⟩ := rds_open (HRA.out.at hbw)
          rcases h3 with h3 | ⟨g5, o5, rfl, _, hc5⟩
          · exfalso; rw [h3] at hs; simp at hs
          have cs := hc5 j s hs
          have IC : Hid (∀ m, Calls Try.prog 83 #[.slice an nn cn, .string (ba s)] (wr.drewN m) fun ee w' => ee = .returned (.bool (decide (s ∈ t.ns))) ∧ w' = wr.drewN m) := hid_of (fun m => rin_any t.ns s an nn cn _ (HH.out.n.at (bel_drewN hbw m)))
          obtain ⟨bs, hbs⟩ : ∃ bs, bs = ba s := ⟨_, rfl⟩
          rw [← hbs] at cs IC
          obtain ⟨q3, hq3⟩ : ∃ q, q = decide (s ∈ t.ns) := ⟨_, rfl⟩
          rw [← hq3] at IC
          have HSX := hid_of hs
          have HQ3 := hid_of hq3
          clear hs hjlt hbs hq3 hc5 hbW hbw
          cases q3
          · have RF : Hid (false = r) := hid_of (by
              rw [HR.out, rr_bad H6.out HXX.out (by unfold rruleB; rw [all_bad (f := fun s => decide (s ∈ t.ns)) HSX.out HQ3.out.symm, Bool.and_false])])
            go_wp2
            go_quiet ((go_at_call 83; exact Calls.quiet_of_same (IC.out _)))
            go_wp2
            go_ret
            exact ⟨ret_b RF.out, bel_drewN Hbw.out nq⟩
          · go_wp2
            go_quiet ((go_at_call 83; exact Calls.quiet_of_same (IC.out _)))
            go_wp2
            go_roundw
            case rel => exact ⟨j + 1, by go_num, HJLT.out, hid_of (fun jj hjj s' hs' => by
              by_cases e : jj = j
              · subst e
                rw [HSX.out] at hs'
                cases hs'
                exact HQ3.out.symm
              · exact hjq.out jj (by omega) s' hs'), hid_of (bel_drewN hbj.out nq)⟩
            case measure => have := HJLT.out; simp [intOf]; omega
        · have d2 : decide (j < kA) = false := decide_eq_false hjlt
          have RO : Hid (rruleB t.ns x = true) := hid_of (rr_ok (fun h => HK0.out (by rw [HKA.out, h]; rfl)) HQ1.out.symm (of_decide_eq_true HQ2.out.symm) (all_end (f := fun s => decide (s ∈ t.ns)) HKA.out (fun jj hjj s hs => hjq.out jj (by omega) s hs)))
          clear hjlt hbW hbw
          go_wp2
          go_roundw
          case rel => exact ⟨i + 1, by go_num, HLT.out, hid_of (fun jj hjj p hp => by
              by_cases e : jj = i
              · subst e
                rw [HXX.out] at hp
                cases hp
                exact RO.out
              · exact hq.out jj (by omega) p hp), HbW⟩
          case measure => have := HLT.out; simp [intOf]; omega
    · have d1 : decide (i < nr) = false := decide_eq_false hlt
      have RT : Hid (true = r) := hid_of (by
        rw [HR.out]; unfold rnamedB
        rw [if_neg H6.out, ← HQ0.out, all_end HRL.out (fun j hj p hp => hq.out j (by omega) p hp)]; rfl)
      clear hlt
      go_wp2
      go_ret
      exact ⟨ret_b RT.out, hbw⟩
end Go.Proofs.Ytgbadiajdhehpaa

/- The reference's Chain and Distributive. Bounds on sizes alone. -/
namespace Go.Proofs.Ytgbadiajdhehpaa
open Go.RowKit

set_option maxRecDepth 100000 in
set_option maxHeartbeats 3200000 in
theorem rchain_any : ∀ (t : Lat) (k lo hi : Int) (an : Option Addr) (nn cn : Nat) (ap : Option Addr) (np cp : Nat) (ar : Option Addr) (nr cr : Nat) (w : World), LO w k lo hi an nn cn ap np cp ar nr cr t → Calls Try.prog 15 #[.agg #[.int .i64 k, .int .i64 lo, .int .i64 hi, .slice an nn cn, .slice ap np cp, .slice ar nr cr]] w (BoP (chainL t) w) := by
  refine lat_ind ?_
  intro k' lo' hi' ns' ps' rs' ih k lo hi an nn cn ap np cp ar nr cr w H
  obtain rfl : k = k' := H.hk
  have HB := hid_of (bel_alloc w (.cells #[.int .i64 k, .int .i64 lo, .int .i64 hi, .slice an nn cn, .slice ap np cp, .slice ar nr cr] 26))
  rw [chainL]
  by_cases h7 : k = 7
  case neg =>
    rw [if_neg h7]
    clear H ih
    rcases kinds k with rfl | rfl | rfl | rfl | rfl | rfl | rfl | rfl | rfl | rfl | hx
    case inr.inr.inr.inr.inr.inr.inr.inr.inr.inr =>
      obtain ⟨h1, h2, h3, h4, h5, h6, h7', h8, h9, h10⟩ := hx
      rw [decide_eq_false (by omega)]
      have g1 : (k == 1) = false := beq_eq_false_iff_ne.2 h1
      have g2 : (k == 2) = false := beq_eq_false_iff_ne.2 h2
      have g3 : (k == 3) = false := beq_eq_false_iff_ne.2 h3
      have g7 : (k == 7) = false := beq_eq_false_iff_ne.2 h7
      go_enter Try.func15, Try.ntmps15
      go_wp2
      go_ret
      exact ⟨rfl, HB.out⟩
    case inr.inr.inr.inr.inr.inr.inl => exact absurd rfl h7
    all_goals
      clear h7
      go_enter Try.func15, Try.ntmps15
      go_wp2
      go_ret
      exact ⟨rfl, HB.out⟩
  subst h7
  rw [if_pos rfl, chainsL_all]
  have hl := H.p.len
  simp only [Lat.ps] at hl
  by_cases h2 : np = 2
  case neg =>
    have e2 : (np == 2) = false := beq_eq_false_iff_ne.2 h2
    have e3 : ((np : Int) == 2) = false := beq_eq_false_iff_ne.2 (by omega)
    rw [decide_eq_false (by omega), Bool.false_and]
    clear h2 hl H ih
    go_enter Try.func15, Try.ntmps15
    go_wp2
    go_ret
    exact ⟨rfl, HB.out⟩
  subst h2
  rw [decide_eq_true hl.1.symm, Bool.true_and]
  obtain ⟨p0, p1, rfl⟩ : ∃ p0 p1, ps' = [p0, p1] := by
    match ps', hl.1 with
    | [a, b], _ => exact ⟨a, b, rfl⟩
  obtain ⟨g, o, kA, loA, hiA, anA, nnA, cnA, apA, npA, cpA, arA, nrA, crA, rfl, LA, hcA⟩ := H.p.get (show [p0, p1][0]? = some p0 from rfl)
  obtain ⟨gB, oB, kB, loB, hiB, anB, nnB, cnB, apB, npB, cpB, arB, nrB, crB, eB, LB, hcB⟩ := H.p.get (show [p0, p1][1]? = some p1 from rfl)
  simp only [Option.some.injEq, Addr.mk.injEq, and_true] at eB
  obtain ⟨rfl, rfl⟩ := eB
  have CA := hid_of (fun (wz : World) (hz : Below w.heap.size w wz) => ih p0 (by simp) kA loA hiA anA nnA cnA apA npA cpA arA nrA crA wz (LA.at hz))
  have CB := hid_of (fun (wz : World) (hz : Below w.heap.size w wz) => ih p1 (by simp) kB loB hiB anB nnB cnB apB npB cpB arB nrB crB wz (LB.at hz))
  simp only [List.all_cons, List.all_nil, Bool.and_true]
  obtain ⟨qa, hqa⟩ : ∃ q, q = chainL p0 := ⟨_, rfl⟩
  obtain ⟨qb, hqb⟩ : ∃ q, q = chainL p1 := ⟨_, rfl⟩
  rw [← hqa] at CA ⊢
  rw [← hqb] at CB ⊢
  obtain ⟨a0, a1, a2, a3, a4, a5⟩ := hcA _ HB.out
  have HC : Hid (∀ w', Below (w.alloc (.cells #[.int .i64 7, .int .i64 lo, .int .i64 hi, .slice an nn cn, .slice (some ⟨g, o, none⟩) 2 cp, .slice ar nr cr] 26)).heap.size (w.alloc (.cells #[.int .i64 7, .int .i64 lo, .int .i64 hi, .slice an nn cn, .slice (some ⟨g, o, none⟩) 2 cp, .slice ar nr cr] 26)) w' → w'.cell? ⟨w.heap.size, 4, none⟩ = some (.slice (some ⟨g, o, none⟩) 2 cp)) := hid_of (fun w' h =>
    blk_kept (cs := [.int .i64 7, .int .i64 lo, .int .i64 hi, .slice an nn cn, .slice (some ⟨g, o, none⟩) 2 cp, .slice ar nr cr]) (heap_alloc_new w _) h rfl)
  have HCB := hid_of hcB
  clear hqa hqb hcA hcB H ih hl LA LB
  simp only [Nat.zero_mul, Nat.one_mul, Nat.add_zero] at a0 a1 a2 a3 a4 a5 HCB
  cases qa
  · rw [Bool.false_and]
    go_enter Try.func15, Try.ntmps15
    go_wp2_with (go_at_call 15; ((with_reducible refine (CA.out _ HB.out).mono ?_); (rintro e w2 ⟨rfl, h2⟩)); (have H2 := hid_of (HB.out.trans (h2.mono HB.out.size))); clear h2)
    go_ret
    exact ⟨rfl, H2.out⟩
  · rw [Bool.true_and]
    go_enter Try.func15, Try.ntmps15
    go_wp2_with (first
      | (go_at_call 15; ((with_reducible refine (CA.out _ HB.out).mono ?_); (rintro e w2 ⟨rfl, h2⟩)); (have H2 := hid_of (HB.out.trans (h2.mono HB.out.size))); (have s4 := HC.out w2 h2); (obtain ⟨b0, b1, b2, b3, b4, b5⟩ := HCB.out w2 H2.out); clear h2)
      | (go_at_call 15; ((with_reducible refine (CB.out _ H2.out).mono ?_); (rintro e w3 ⟨rfl, h3⟩)); (have H3 := hid_of (H2.out.trans (h3.mono H2.out.size))); clear h3))
    go_ret
    exact ⟨rfl, H3.out⟩
end Go.Proofs.Ytgbadiajdhehpaa

/- The reference's Chain and Distributive. Bounds on sizes alone. -/
namespace Go.Proofs.Ytgbadiajdhehpaa
open Go.RowKit
set_option maxRecDepth 100000 in
set_option maxHeartbeats 6400000 in
theorem rdist_any : ∀ (t : Lat) (k lo hi : Int) (an : Option Addr) (nn cn : Nat) (ap : Option Addr) (np cp : Nat) (ar : Option Addr) (nr cr : Nat) (w : World), LO w k lo hi an nn cn ap np cp ar nr cr t → Calls Try.prog 19 #[.agg #[.int .i64 k, .int .i64 lo, .int .i64 hi, .slice an nn cn, .slice ap np cp, .slice ar nr cr]] w (BoP (distL t) w) := by
  refine lat_ind ?_
  intro k' lo' hi' ns' ps' rs' ih k lo hi an nn cn ap np cp ar nr cr w H
  obtain rfl : k = k' := H.hk
  have HBW := hid_of (bel_alloc w (.cells #[.int .i64 k, .int .i64 lo, .int .i64 hi, .slice an nn cn, .slice ap np cp, .slice ar nr cr] 26))
  have HX : Hid (∀ wz, Below (w.alloc (.cells #[.int .i64 k, .int .i64 lo, .int .i64 hi, .slice an nn cn, .slice ap np cp, .slice ar nr cr] 26)).heap.size (w.alloc (.cells #[.int .i64 k, .int .i64 lo, .int .i64 hi, .slice an nn cn, .slice ap np cp, .slice ar nr cr] 26)) wz → _) := hid_of (fun wz hz => box6 k lo hi an nn cn ap np cp ar nr cr hz)
  have hnl := H.ln
  have hl := H.p.len
  have hnp : np ≤ 9223372036854775807 := by omega
  have HNP := hid_of hl.1
  have HP := hid_of H.p
  have IH := hid_of ih
  simp only [Lat.ps] at HP HNP
  obtain ⟨r, hr⟩ : ∃ r, r = distL ⟨k, lo', hi', ns', ps', rs'⟩ := ⟨_, rfl⟩
  rw [← hr]
  rw [distL, distsL_all] at hr
  have HR := hid_of hr
  clear hr H ih hl
  by_cases h8 : k = 8
  · subst h8
    have RF : Hid (false = r) := hid_of (by rw [HR.out]; rfl)
    clear hnl
    go_enter Try.func19, Try.ntmps19
    go_wp2
    go_ret
    exact ⟨ret_b RF.out, HBW.out⟩
  by_cases h10 : k = 10
  · subst h10
    have RF : Hid (false = r) := hid_of (by rw [HR.out]; rfl)
    clear hnl
    go_enter Try.func19, Try.ntmps19
    go_wp2
    go_ret
    exact ⟨ret_b RF.out, HBW.out⟩
  have e8 : (k == 8) = false := beq_eq_false_iff_ne.2 h8
  have e10 : (k == 10) = false := beq_eq_false_iff_ne.2 h10
  have HR : Hid (r = ps'.all distL) := hid_of (by rw [HR.out, if_neg (by omega)])
  clear h8 h10 hnl
  obtain ⟨WW, hWW⟩ : ∃ WW, WW = (w.alloc (.cells #[.int .i64 k, .int .i64 lo, .int .i64 hi, .slice an nn cn, .slice ap np cp, .slice ar nr cr] 26)) := ⟨_, rfl⟩
  have K0 : Hid (Below WW.heap.size WW (w.alloc (.cells #[.int .i64 k, .int .i64 lo, .int .i64 hi, .slice an nn cn, .slice ap np cp, .slice ar nr cr] 26))) := hid_of (by rw [← hWW]; exact Below.refl _ _)
  rw [← hWW] at HX HBW
  clear hWW
  go_enter Try.func19, Try.ntmps19
  go_wp2
  go_loopw [3] (fun iv wr => ∃ i : Nat, iv = .int .i64 i ∧ i ≤ np ∧ Hid (∀ j, j < i → ∀ p, ps'[j]? = some p → distL p = true) ∧ Hid (Below WW.heap.size WW wr)) (fun iv _ => np - (intOf iv).toNat)
  case atStart => exact ⟨0, rfl, Nat.zero_le _, hid_of (fun j h => absurd h (Nat.not_lt_zero j)), K0⟩
  case round =>
    obtain ⟨i, rfl, hin, HM, hb⟩ := hrel
    obtain ⟨p0, p1, p2, p3, p4, p5⟩ := HX.out wr hb.out
    have HBWR : Hid (Below w.heap.size w wr) := hid_of (HBW.out.trans (hb.out.mono HBW.out.size))
    by_cases hlt : i < np
    · have d1 : decide (i < np) = true := decide_eq_true hlt
      have hlt' : (i : Int) < (np : Int) := by omega
      have HLT := hid_of hlt
      obtain ⟨u, hu⟩ : ∃ u, ps'[i]? = some u := ⟨_, List.getElem?_eq_getElem (by have := HNP.out; omega)⟩
      obtain ⟨g, o, kA, loA, hiA, anA, nnA, cnA, apA, npA, cpA, arA, nrA, crA, rfl, LA, hcA⟩ := HP.out.get hu
      obtain ⟨c0, c1, c2, c3, c4, c5⟩ := hcA wr HBWR.out
      have CALL := hid_of (IH.out u (List.mem_of_getElem? hu) kA loA hiA anA nnA cnA apA npA cpA arA nrA crA wr (LA.at HBWR.out))
      obtain ⟨q, hq⟩ : ∃ q, q = distL u := ⟨_, rfl⟩
      rw [← hq] at CALL
      have HU := hid_of hu
      have HQ := hid_of hq
      clear hlt hu hcA LA hq
      cases q
      · have RF : Hid (false = r) := hid_of (by rw [HR.out, all_bad HU.out HQ.out.symm])
        go_wp2_with (go_at_call 19; ((with_reducible refine (CALL.out).mono ?_); (rintro e w2 ⟨rfl, h2⟩); (have H2 := hid_of h2); clear h2))
        go_ret
        exact ⟨ret_b RF.out, HBWR.out.trans (H2.out.mono HBWR.out.size)⟩
      · go_wp2_with (go_at_call 19; ((with_reducible refine (CALL.out).mono ?_); (rintro e w2 ⟨rfl, h2⟩); (have H2 := hid_of h2); clear h2))
        go_roundw
        case rel => exact ⟨i + 1, by go_num, HLT.out, hid_of (fun j hj p hp => by
          by_cases e : j = i
          · subst e; rw [HU.out] at hp; cases hp; exact HQ.out.symm
          · exact HM.out j (by omega) p hp), hid_of (hb.out.trans (H2.out.mono hb.out.size))⟩
        case measure => have := HLT.out; simp [intOf]; omega
    · have d1 : decide (i < np) = false := decide_eq_false hlt
      have RT : Hid (true = r) := hid_of (by rw [HR.out, all_end HNP.out (fun j hj p hp => HM.out j (by omega) p hp)])
      clear hlt
      go_wp2
      go_ret
      exact ⟨ret_b RT.out, HBWR.out⟩

end Go.Proofs.Ytgbadiajdhehpaa

/- The reference's Finite. Bounds on sizes alone. -/
namespace Go.Proofs.Ytgbadiajdhehpaa
open Go.RowKit

set_option maxRecDepth 100000 in
set_option maxHeartbeats 6400000 in
theorem rfin_any : ∀ (t : Lat) (k lo hi : Int) (an : Option Addr) (nn cn : Nat) (ap : Option Addr) (np cp : Nat) (ar : Option Addr) (nr cr : Nat) (w : World), LO w k lo hi an nn cn ap np cp ar nr cr t → Calls Try.prog 17 #[.agg #[.int .i64 k, .int .i64 lo, .int .i64 hi, .slice an nn cn, .slice ap np cp, .slice ar nr cr]] w (BoP (rfinL t) w) := by
  refine lat_ind ?_
  intro k' lo' hi' ns' ps' rs' ih k lo hi an nn cn ap np cp ar nr cr w H
  obtain rfl : k = k' := H.hk
  have HBW := hid_of (bel_alloc w (.cells #[.int .i64 k, .int .i64 lo, .int .i64 hi, .slice an nn cn, .slice ap np cp, .slice ar nr cr] 26))
  have HX : Hid (∀ wz, Below (w.alloc (.cells #[.int .i64 k, .int .i64 lo, .int .i64 hi, .slice an nn cn, .slice ap np cp, .slice ar nr cr] 26)).heap.size (w.alloc (.cells #[.int .i64 k, .int .i64 lo, .int .i64 hi, .slice an nn cn, .slice ap np cp, .slice ar nr cr] 26)) wz → _) := hid_of (fun wz hz => box6 k lo hi an nn cn ap np cp ar nr cr hz)
  have hnl := H.ln
  have hl := H.p.len
  have hnp : np ≤ 9223372036854775807 := by omega
  have HNP := hid_of hl.1
  have HP := hid_of H.p
  have IH := hid_of ih
  simp only [Lat.ps] at HP HNP
  obtain ⟨r, hr⟩ : ∃ r, r = rfinL ⟨k, lo', hi', ns', ps', rs'⟩ := ⟨_, rfl⟩
  rw [← hr]
  rw [rfinL, rfinsL_all] at hr
  have HR := hid_of hr
  clear hr H ih hl
  by_cases h9 : k = 9
  · subst h9
    have RF : Hid (false = r) := hid_of (by rw [HR.out]; rfl)
    clear hnl
    go_enter Try.func17, Try.ntmps17
    go_wp2
    go_ret
    exact ⟨ret_b RF.out, HBW.out⟩
  have e9 : (k == 9) = false := beq_eq_false_iff_ne.2 h9
  by_cases hbad : nn = 0 ∧ (k = 4 ∨ k = 8 ∨ k = 5)
  · obtain ⟨hn0, hk⟩ := hbad
    subst hn0
    have hns : ns' = [] := List.eq_nil_of_length_eq_zero hnl.symm
    have RF : Hid (false = r) := hid_of (by rw [HR.out, if_pos (.inr ⟨hns, hk⟩)])
    clear hnl hns
    rcases hk with rfl | rfl | rfl
    all_goals
      go_enter Try.func17, Try.ntmps17
      go_wp2
      go_ret
      exact ⟨ret_b RF.out, HBW.out⟩
  have HR : Hid (r = ps'.all rfinL) := hid_of (by
    rw [HR.out, if_neg (fun e => ?_)]
    rcases e with e | ⟨e, e2⟩
    · exact h9 e
    · exact hbad ⟨by rw [hnl]; simp only [Lat.ns]; rw [e]; rfl, e2⟩)
  have hgood : ((nn == 0) = false ∧ ((nn : Int) == 0) = false) ∨ (nn = 0 ∧ (k == 4) = false ∧ (k == 8) = false ∧ (k == 5) = false) := by
    by_cases e : nn = 0
    · refine .inr ⟨e, beq_eq_false_iff_ne.2 fun h => hbad ⟨e, .inl h⟩, beq_eq_false_iff_ne.2 fun h => hbad ⟨e, .inr (.inl h)⟩, beq_eq_false_iff_ne.2 fun h => hbad ⟨e, .inr (.inr h)⟩⟩
    · exact .inl ⟨beq_eq_false_iff_ne.2 e, beq_eq_false_iff_ne.2 (by omega)⟩
  clear h9 hnl hbad
  rcases hgood with ⟨hg0, hg1⟩ | ⟨hn9, hg4, hg8, hg5⟩
  · obtain ⟨WW, hWW⟩ : ∃ WW, WW = (w.alloc (.cells #[.int .i64 k, .int .i64 lo, .int .i64 hi, .slice an nn cn, .slice ap np cp, .slice ar nr cr] 26)) := ⟨_, rfl⟩
    have K0 : Hid (Below WW.heap.size WW (w.alloc (.cells #[.int .i64 k, .int .i64 lo, .int .i64 hi, .slice an nn cn, .slice ap np cp, .slice ar nr cr] 26))) := hid_of (by rw [← hWW]; exact Below.refl _ _)
    rw [← hWW] at HX HBW
    clear hWW
    go_enter Try.func17, Try.ntmps17
    go_wp2
    go_loopw [3] (fun iv wr => ∃ i : Nat, iv = .int .i64 i ∧ i ≤ np ∧ Hid (∀ j, j < i → ∀ p, ps'[j]? = some p → rfinL p = true) ∧ Hid (Below WW.heap.size WW wr)) (fun iv _ => np - (intOf iv).toNat)
    case atStart => exact ⟨0, rfl, Nat.zero_le _, hid_of (fun j h => absurd h (Nat.not_lt_zero j)), K0⟩
    case round =>
      obtain ⟨i, rfl, hin, HM, hb⟩ := hrel
      obtain ⟨p0, p1, p2, p3, p4, p5⟩ := HX.out wr hb.out
      have HBWR : Hid (Below w.heap.size w wr) := hid_of (HBW.out.trans (hb.out.mono HBW.out.size))
      by_cases hlt : i < np
      · have d1 : decide (i < np) = true := decide_eq_true hlt
        have hlt' : (i : Int) < (np : Int) := by omega
        have HLT := hid_of hlt
        obtain ⟨u, hu⟩ : ∃ u, ps'[i]? = some u := ⟨_, List.getElem?_eq_getElem (by have := HNP.out; omega)⟩
        obtain ⟨g, o, kA, loA, hiA, anA, nnA, cnA, apA, npA, cpA, arA, nrA, crA, rfl, LA, hcA⟩ := HP.out.get hu
        obtain ⟨c0, c1, c2, c3, c4, c5⟩ := hcA wr HBWR.out
        have CALL := hid_of (IH.out u (List.mem_of_getElem? hu) kA loA hiA anA nnA cnA apA npA cpA arA nrA crA wr (LA.at HBWR.out))
        obtain ⟨q, hq⟩ : ∃ q, q = rfinL u := ⟨_, rfl⟩
        rw [← hq] at CALL
        have HU := hid_of hu
        have HQ := hid_of hq
        clear hlt hu hcA LA hq
        cases q
        · have RF : Hid (false = r) := hid_of (by rw [HR.out, all_bad HU.out HQ.out.symm])
          go_wp2_with (go_at_call 17; ((with_reducible refine (CALL.out).mono ?_); (rintro e w2 ⟨rfl, h2⟩); (have H2 := hid_of h2); clear h2))
          go_ret
          exact ⟨ret_b RF.out, HBWR.out.trans (H2.out.mono HBWR.out.size)⟩
        · go_wp2_with (go_at_call 17; ((with_reducible refine (CALL.out).mono ?_); (rintro e w2 ⟨rfl, h2⟩); (have H2 := hid_of h2); clear h2))
          go_roundw
          case rel => exact ⟨i + 1, by go_num, HLT.out, hid_of (fun j hj p hp => by
            by_cases e : j = i
            · subst e; rw [HU.out] at hp; cases hp; exact HQ.out.symm
            · exact HM.out j (by omega) p hp), hid_of (hb.out.trans (H2.out.mono hb.out.size))⟩
          case measure => have := HLT.out; simp [intOf]; omega
      · have d1 : decide (i < np) = false := decide_eq_false hlt
        have RT : Hid (true = r) := hid_of (by rw [HR.out, all_end HNP.out (fun j hj p hp => HM.out j (by omega) p hp)])
        clear hlt
        go_wp2
        go_ret
        exact ⟨ret_b RT.out, HBWR.out⟩
  · have hg0 : (nn == 0) = true := by rw [hn9]; rfl
    have hg1 : ((nn : Int) == 0) = true := by rw [hn9]; rfl
    clear hn9
    obtain ⟨WW, hWW⟩ : ∃ WW, WW = (w.alloc (.cells #[.int .i64 k, .int .i64 lo, .int .i64 hi, .slice an nn cn, .slice ap np cp, .slice ar nr cr] 26)) := ⟨_, rfl⟩
    have K0 : Hid (Below WW.heap.size WW (w.alloc (.cells #[.int .i64 k, .int .i64 lo, .int .i64 hi, .slice an nn cn, .slice ap np cp, .slice ar nr cr] 26))) := hid_of (by rw [← hWW]; exact Below.refl _ _)
    rw [← hWW] at HX HBW
    clear hWW
    go_enter Try.func17, Try.ntmps17
    go_wp2
    go_loopw [3] (fun iv wr => ∃ i : Nat, iv = .int .i64 i ∧ i ≤ np ∧ Hid (∀ j, j < i → ∀ p, ps'[j]? = some p → rfinL p = true) ∧ Hid (Below WW.heap.size WW wr)) (fun iv _ => np - (intOf iv).toNat)
    case atStart => exact ⟨0, rfl, Nat.zero_le _, hid_of (fun j h => absurd h (Nat.not_lt_zero j)), K0⟩
    case round =>
      obtain ⟨i, rfl, hin, HM, hb⟩ := hrel
      obtain ⟨p0, p1, p2, p3, p4, p5⟩ := HX.out wr hb.out
      have HBWR : Hid (Below w.heap.size w wr) := hid_of (HBW.out.trans (hb.out.mono HBW.out.size))
      by_cases hlt : i < np
      · have d1 : decide (i < np) = true := decide_eq_true hlt
        have hlt' : (i : Int) < (np : Int) := by omega
        have HLT := hid_of hlt
        obtain ⟨u, hu⟩ : ∃ u, ps'[i]? = some u := ⟨_, List.getElem?_eq_getElem (by have := HNP.out; omega)⟩
        obtain ⟨g, o, kA, loA, hiA, anA, nnA, cnA, apA, npA, cpA, arA, nrA, crA, rfl, LA, hcA⟩ := HP.out.get hu
        obtain ⟨c0, c1, c2, c3, c4, c5⟩ := hcA wr HBWR.out
        have CALL := hid_of (IH.out u (List.mem_of_getElem? hu) kA loA hiA anA nnA cnA apA npA cpA arA nrA crA wr (LA.at HBWR.out))
        obtain ⟨q, hq⟩ : ∃ q, q = rfinL u := ⟨_, rfl⟩
        rw [← hq] at CALL
        have HU := hid_of hu
        have HQ := hid_of hq
        clear hlt hu hcA LA hq
        cases q
        · have RF : Hid (false = r) := hid_of (by rw [HR.out, all_bad HU.out HQ.out.symm])
          go_wp2_with (go_at_call 17; ((with_reducible refine (CALL.out).mono ?_); (rintro e w2 ⟨rfl, h2⟩); (have H2 := hid_of h2); clear h2))
          go_ret
          exact ⟨ret_b RF.out, HBWR.out.trans (H2.out.mono HBWR.out.size)⟩
        · go_wp2_with (go_at_call 17; ((with_reducible refine (CALL.out).mono ?_); (rintro e w2 ⟨rfl, h2⟩); (have H2 := hid_of h2); clear h2))
          go_roundw
          case rel => exact ⟨i + 1, by go_num, HLT.out, hid_of (fun j hj p hp => by
            by_cases e : j = i
            · subst e; rw [HU.out] at hp; cases hp; exact HQ.out.symm
            · exact HM.out j (by omega) p hp), hid_of (hb.out.trans (H2.out.mono hb.out.size))⟩
          case measure => have := HLT.out; simp [intOf]; omega
      · have d1 : decide (i < np) = false := decide_eq_false hlt
        have RT : Hid (true = r) := hid_of (by rw [HR.out, all_end HNP.out (fun j hj p hp => HM.out j (by omega) p hp)])
        clear hlt
        go_wp2
        go_ret
        exact ⟨ret_b RT.out, HBWR.out⟩

end Go.Proofs.Ytgbadiajdhehpaa
