/- The law on parts. Bounds on sizes alone. -/
import Derived.Test.YthgfhplhjplmcaaLatAwk
namespace Go.Proofs.Ythgfhplhjplmcaa
open Go.RowKit

mutual
theorem chkT_mono : ∀ (t : Lat) (d c d' c' : Nat), d' ≤ d → c' ≤ c → (chkT t d c).2 = 0 → (chkT t d' c').2 = 0 ∧ (chkT t d' c').1 + c = (chkT t d c).1 + c'
  | ⟨k, lo, hi, ns, ps, rs⟩, d, c, d', c', hd, hc, h => by
    rw [chkT] at h ⊢
    split at h
    · cases h
    · rename_i h1
      split at h
      · rename_i h2; exact absurd h h2
      · rename_i h2
        have := chkTs_mono ps (d + 1) (c + 1) (d' + 1) (c' + 1) (by omega) (by omega) h
        rw [if_neg (by omega), if_neg h2, chkT, if_neg h1, if_neg h2]
        exact ⟨this.1, by omega⟩
theorem chkTs_mono : ∀ (l : List Lat) (d c d' c' : Nat), d' ≤ d → c' ≤ c → (chkTs l d c).2 = 0 → (chkTs l d' c').2 = 0 ∧ (chkTs l d' c').1 + c = (chkTs l d c).1 + c'
  | [], d, c, d', c', hd, hc, h => by rw [chkTs, chkTs]; exact ⟨rfl, by simp only; omega⟩
  | p :: ps, d, c, d', c', hd, hc, h => by
    rw [chkTs] at h
    split at h
    · rename_i h2; exact absurd h h2
    · rename_i h2
      have h2 := Classical.not_not.1 h2
      have a := chkT_mono p d c d' c' hd hc h2
      have b := chkTs_mono ps d (chkT p d c).1 d' (chkT p d' c').1 hd (by omega) h
      rw [chkTs, if_neg (by rw [a.1]; simp), chkTs, if_neg (by rw [h2]; simp)]
      exact ⟨b.1, by omega⟩
end
mutual
theorem chkT_depth : ∀ (t : Lat) (d c : Nat), (chkT t d c).2 = 0 → depthL t + d ≤ 7
  | ⟨k, lo, hi, ns, ps, rs⟩, d, c, h => by
    rw [chkT] at h
    split at h
    · cases h
    · rename_i h1
      split at h
      · rename_i h2; exact absurd h h2
      · rw [depthL]
        have := chkTs_depth ps (d + 1) (c + 1) h
        omega
theorem chkTs_depth : ∀ (l : List Lat) (d c : Nat), (chkTs l d c).2 = 0 → depthsL l = 0 ∨ depthsL l + d ≤ 7
  | [], d, c, h => .inl (by rw [depthsL])
  | p :: ps, d, c, h => by
    rw [chkTs] at h
    split at h
    · rename_i h2; exact absurd h h2
    · rename_i h2
      have h2 := Classical.not_not.1 h2
      have a := chkT_depth p d c h2
      have b := chkTs_depth ps d _ h
      rw [depthsL]
      omega
end
/-- What is asked of the parts of a description without an error. -/
theorem parts_ok {t : Lat} (h : chkL t = 0) : depthL t ≤ 6 ∧ ∀ p ∈ t.ps, chkL p = 0 ∧ (distL t = true → distL p = true) ∧ (finL t = true → finL p = true) := by
  have hd := chkT_depth t 1 0 h
  have ho := okay_of t 1 0 h
  refine ⟨by omega, fun p hp => ?_⟩
  have h1 := h
  unfold chkL at h1
  rw [chkT_eq] at h1
  split at h1
  · cases h1
  · split at h1
    · rename_i h2; exact absurd h1 h2
    · obtain ⟨c', h3⟩ := chkTs_mem _ _ _ h1 p hp
      refine ⟨?_, fun hq => ?_, fun hq => ?_⟩
      · -- at any place: the place 1, 0
        have : ∀ (l : List Lat) (d c : Nat), (chkTs l d c).2 = 0 → 1 ≤ d → p ∈ l → chkL p = 0 := by
          intro l
          induction l with
          | nil => intro d c _ _ hp; cases hp
          | cons q l ih =>
            intro d c h hd hp
            rw [chkTs] at h
            split at h
            · rename_i h2; exact absurd h h2
            · rename_i h2
              rcases List.mem_cons.1 hp with rfl | hp
              · exact (chkT_mono p d c 1 0 hd (Nat.zero_le _) (Classical.not_not.1 h2)).1
              · exact ih _ _ h hd hp
        exact this t.ps _ _ h1 (by omega) hp
      · obtain ⟨k, lo, hi, ns, ps, rs⟩ := t
        rw [distL] at hq
        split at hq
        · cases hq
        · rw [distsL_all, List.all_eq_true] at hq
          exact hq p hp
      · cases ho with
        | mk h0 _ =>
          have hl := shape_leaf (node_shape h0)
          obtain ⟨k, lo, hi, ns, ps, rs⟩ := t
          simp only [Lat.k, Lat.ps] at hl hp
          rw [finL] at hq
          have hno : ps ≠ [] := fun e => by rw [e] at hp; cases hp
          have hk : ¬(k = 1 ∨ k = 2 ∨ k = 3 ∨ k = 10) := fun e => hno (hl (by omega))
          have hk2 : ¬(k = 4 ∨ k = 8) := fun e => hno (hl (by omega))
          rw [if_neg hk, if_neg hk2] at hq
          split at hq
          · rw [Bool.and_eq_true, finsL_all, List.all_eq_true] at hq
            exact hq.2 p hp
          · split at hq
            · rw [finsL_all, List.all_eq_true] at hq
              exact hq p hp
            · cases hq
set_option maxRecDepth 100000 in
set_option maxHeartbeats 6400000 in
theorem parts_law (t : Lat) (k lo hi : Int) (an : Option Addr) (nn cn : Nat) (ap : Option Addr) (np cp : Nat) (ar : Option Addr) (nr cr : Nat) (w : World) (H : LO w k lo hi an nn cn ap np cp ar nr cr t) : Calls Try.prog 10 #[.agg #[.int .i64 k, .int .i64 lo, .int .i64 hi, .slice an nn cn, .slice ap np cp, .slice ar nr cr]] w (BoP true w) := by
  have HBW := hid_of (bel_alloc w (.cells #[.int .i64 k, .int .i64 lo, .int .i64 hi, .slice an nn cn, .slice ap np cp, .slice ar nr cr] 26))
  have AW := hid_of (fun w => awake_any w)
  have HH := hid_of H
  have HX : Hid (∀ wz, Below (w.alloc (.cells #[.int .i64 k, .int .i64 lo, .int .i64 hi, .slice an nn cn, .slice ap np cp, .slice ar nr cr] 26)).heap.size (w.alloc (.cells #[.int .i64 k, .int .i64 lo, .int .i64 hi, .slice an nn cn, .slice ap np cp, .slice ar nr cr] 26)) wz → _) := hid_of (fun wz hz => box6 k lo hi an nn cn ap np cp ar nr cr hz)
  have CKT := hid_of (fun (wz : World) (hz : Below (w.alloc (.cells #[.int .i64 k, .int .i64 lo, .int .i64 hi, .slice an nn cn, .slice ap np cp, .slice ar nr cr] 26)).heap.size (w.alloc (.cells #[.int .i64 k, .int .i64 lo, .int .i64 hi, .slice an nn cn, .slice ap np cp, .slice ar nr cr] 26)) wz) => check_any t k lo hi an nn cn ap np cp ar nr cr wz (H.at (HBW.out.trans (hz.mono HBW.out.size))))
  have hl := H.p.len
  have hnp : np ≤ 9223372036854775807 := by omega
  clear H
  by_cases h0 : chkL t = 0
  case neg =>
    obtain ⟨E, hE⟩ : ∃ E, E = chkL t := ⟨_, rfl⟩
    rw [← hE] at CKT h0
    have e0 : (E == 0) = false := beq_eq_false_iff_ne.2 h0
    have e1 : (E != 0) = true := bne_iff_ne.2 h0
    clear hE h0 hl
    go_enter Try.func10, Try.ntmps10
    go_wp2_with (first
      | (go_at_call 11; ((with_reducible refine (AW.out _).mono ?_); (rintro e w1 ⟨rfl, h1⟩); (have E1 := hid_of h1); (obtain ⟨p0, p1, p2, p3, p4, p5⟩ := HX.out w1 h1); clear h1))
      | (go_at_call 12; ((with_reducible refine (CKT.out _ E1.out).mono ?_); (rintro e w2 ⟨rfl, h2⟩); (have E2 := hid_of (E1.out.trans (h2.mono E1.out.size))); clear h2)))
    go_ret
    exact ⟨rfl, HBW.out.trans (E2.out.mono HBW.out.size)⟩
  rw [h0] at CKT
  obtain ⟨hd6, hpt⟩ := parts_ok h0
  have HPT := hid_of hpt
  have HNP : Hid (np = t.ps.length) := hid_of hl.1
  have HDT : Hid (depthL t = depthsL t.ps + 1) := hid_of (depthL_eq t)
  have HD6 := hid_of hd6
  have CDT0 := hid_of (fun (wz : World) (hz : Below (w.alloc (.cells #[.int .i64 k, .int .i64 lo, .int .i64 hi, .slice an nn cn, .slice ap np cp, .slice ar nr cr] 26)).heap.size (w.alloc (.cells #[.int .i64 k, .int .i64 lo, .int .i64 hi, .slice an nn cn, .slice ap np cp, .slice ar nr cr] 26)) wz) => dist_any t k lo hi an nn cn ap np cp ar nr cr wz (HH.out.at (HBW.out.trans (hz.mono HBW.out.size))))
  have CFT0 := hid_of (fun (wz : World) (hz : Below (w.alloc (.cells #[.int .i64 k, .int .i64 lo, .int .i64 hi, .slice an nn cn, .slice ap np cp, .slice ar nr cr] 26)).heap.size (w.alloc (.cells #[.int .i64 k, .int .i64 lo, .int .i64 hi, .slice an nn cn, .slice ap np cp, .slice ar nr cr] 26)) wz) => finite_any t k lo hi an nn cn ap np cp ar nr cr wz (HH.out.at (HBW.out.trans (hz.mono HBW.out.size))))
  have CPT : Hid (∀ (wz : World) (hz : Below (w.alloc (.cells #[.int .i64 k, .int .i64 lo, .int .i64 hi, .slice an nn cn, .slice ap np cp, .slice ar nr cr] 26)).heap.size (w.alloc (.cells #[.int .i64 k, .int .i64 lo, .int .i64 hi, .slice an nn cn, .slice ap np cp, .slice ar nr cr] 26)) wz), Calls Try.prog 22 #[.agg #[.int .i64 k, .int .i64 lo, .int .i64 hi, .slice an nn cn, .slice ap np cp, .slice ar nr cr]] wz (DepP t wz)) := hid_of (fun wz hz => depth_any t k lo hi an nn cn ap np cp ar nr cr wz (HH.out.at (HBW.out.trans (hz.mono HBW.out.size))) (by omega))
  obtain ⟨qd, hqd⟩ : ∃ q, q = distL t := ⟨_, rfl⟩
  obtain ⟨qf, hqf⟩ : ∃ q, q = finL t := ⟨_, rfl⟩
  rw [← hqd] at CDT0
  rw [← hqf] at CFT0
  have HQD := hid_of hqd
  have HQF := hid_of hqf
  clear h0 hd6 hpt hl hqd hqf
  go_enter Try.func10, Try.ntmps10
  go_wp2_with (first
    | (go_at_call 11; ((with_reducible refine (AW.out _).mono ?_); (rintro e w1 ⟨rfl, h1⟩); (have E1 := hid_of h1); (obtain ⟨p0, p1, p2, p3, p4, p5⟩ := HX.out w1 h1); clear h1))
    | (go_at_call 12; ((with_reducible refine (CKT.out _ E1.out).mono ?_); (rintro e w2 ⟨rfl, h2⟩); (have E2 := hid_of (E1.out.trans (h2.mono E1.out.size))); clear h2 p0 p1 p2 p3 p4 p5)))
  obtain ⟨WW, hWW⟩ : ∃ WW, WW = (w.alloc (.cells #[.int .i64 k, .int .i64 lo, .int .i64 hi, .slice an nn cn, .slice ap np cp, .slice ar nr cr] 26)) := ⟨_, rfl⟩
  rw [← hWW] at E1 E2 HX HBW CDT0 CFT0 CPT CKT
  clear hWW
  go_loopw [3, 4] (fun mv iv wr => ∃ i m : Nat, mv = .int .i64 m ∧ iv = .int .i64 i ∧ i ≤ np ∧ Hid (m = depthsL (t.ps.take i)) ∧ Hid (Below WW.heap.size WW wr)) (fun _ iv _ => np - (intOf iv).toNat)
  case atStart => exact ⟨0, 0, rfl, rfl, Nat.zero_le _, hid_of rfl, E2⟩
  case round =>
    clear E1 E2
    obtain ⟨i, m, rfl, rfl, hin, HM, hb⟩ := hrel
    have E1 := hb
    by_cases hlt : i < np
    · have d1 : decide (i < np) = true := decide_eq_true hlt
      have hlt' : (i : Int) < (np : Int) := by omega
      have HLT := hid_of hlt
      obtain ⟨u, hu⟩ : ∃ u, t.ps[i]? = some u := ⟨_, List.getElem?_eq_getElem (by have := HNP.out; omega)⟩
      obtain ⟨g, o, kA, loA, hiA, anA, nnA, cnA, apA, npA, cpA, arA, nrA, crA, rfl, LA, hcA⟩ := HH.out.p.get hu
      have hum := HPT.out u (List.mem_of_getElem? hu)
      have hdu := depthsL_get _ _ _ hu
      have hdt := depthsL_take t.ps i
      have HC : Hid (∀ wz, Below WW.heap.size WW wz → (_ ∧ _)) := hid_of (fun wz hz => ⟨HX.out wz hz, hcA wz (HBW.out.trans (hz.mono HBW.out.size))⟩)
      obtain ⟨q, hq⟩ : ∃ q, q = depthL u := ⟨_, rfl⟩
      have hm : m ≤ 6 := by have := HM.out; have := HDT.out; have := HD6.out; omega
      have hqm : q ≤ 6 := by have := HDT.out; have := HD6.out; omega
      have HS : Hid (depthsL (t.ps.take (i + 1)) = max m q) := hid_of (by rw [take_next hu, depthsL_snoc, HM.out, hq])
      have CKU := hid_of (fun (wz : World) (hz : Below WW.heap.size WW wz) => check_any u kA loA hiA anA nnA cnA apA npA cpA arA nrA crA wz (LA.at (HBW.out.trans (hz.mono HBW.out.size))))
      have CDU := hid_of (fun (wz : World) (hz : Below WW.heap.size WW wz) => dist_any u kA loA hiA anA nnA cnA apA npA cpA arA nrA crA wz (LA.at (HBW.out.trans (hz.mono HBW.out.size))))
      have CFU := hid_of (fun (wz : World) (hz : Below WW.heap.size WW wz) => finite_any u kA loA hiA anA nnA cnA apA npA cpA arA nrA crA wz (LA.at (HBW.out.trans (hz.mono HBW.out.size))))
      have CPU : Hid (∀ (wz : World) (hz : Below WW.heap.size WW wz), Calls Try.prog 22 #[.agg #[.int .i64 kA, .int .i64 loA, .int .i64 hiA, .slice anA nnA cnA, .slice apA npA cpA, .slice arA nrA crA]] wz fun e w' => e = .returned (.int .i64 (q : Nat)) ∧ Below wz.heap.size wz w') := hid_of (fun wz hz => by rw [hq]; exact depth_any u kA loA hiA anA nnA cnA apA npA cpA arA nrA crA wz (LA.at (HBW.out.trans (hz.mono HBW.out.size))) (by omega))
      rw [hum.1] at CKU
      have HUD := hid_of hum.2.1
      have HUF := hid_of hum.2.2
      have CDT := CDT0
      have CFT := CFT0
      obtain ⟨⟨p10, p11, p12, p13, p14, p15⟩, r10, r11, r12, r13, r14, r15⟩ := HC.out wr E1.out
      clear hlt hu hcA LA hum hdu hdt hq
      cases qd
      · cases qf
        · go_wp2_with (first
            | (go_at_call 12; ((with_reducible refine (CKU.out _ E1.out).mono ?_); (rintro e w2 ⟨rfl, h2⟩); (have E2 := hid_of (E1.out.trans (h2.mono E1.out.size))); (obtain ⟨⟨p20, p21, p22, p23, p24, p25⟩, r20, r21, r22, r23, r24, r25⟩ := HC w2 E2.out); clear p10 p11 p12 p13 p14 p15 r10 r11 r12 r13 r14 r15; clear h2))
            | (go_at_call 20; ((with_reducible refine (CDT.out _ E2.out).mono ?_); (rintro e w3 ⟨rfl, h3⟩); (have E3 := hid_of (E2.out.trans (h3.mono E2.out.size))); (obtain ⟨⟨p30, p31, p32, p33, p34, p35⟩, r30, r31, r32, r33, r34, r35⟩ := HC w3 E3.out); clear p20 p21 p22 p23 p24 p25 r20 r21 r22 r23 r24 r25; clear h3))
            | (go_at_call 18; ((with_reducible refine (CFT.out _ E3.out).mono ?_); (rintro e w4 ⟨rfl, h4⟩); (have E4 := hid_of (E3.out.trans (h4.mono E3.out.size))); (obtain ⟨⟨p40, p41, p42, p43, p44, p45⟩, r40, r41, r42, r43, r44, r45⟩ := HC w4 E4.out); clear p30 p31 p32 p33 p34 p35 r30 r31 r32 r33 r34 r35; clear h4))
            | (go_at_call 22; ((with_reducible refine (CPU.out _ E4.out).mono ?_); (rintro e w5 ⟨rfl, h5⟩); (have E5 := hid_of (E4.out.trans (h5.mono E4.out.size))); (obtain ⟨⟨p50, p51, p52, p53, p54, p55⟩, r50, r51, r52, r53, r54, r55⟩ := HC w5 E5.out); clear p40 p41 p42 p43 p44 p45 r40 r41 r42 r43 r44 r45; clear h5)))
          go_roundw
          case rel => exact ⟨i + 1, max m q, by go_num, by go_num, HLT.out, hid_of HS.out.symm, E5⟩
          case measure => have := HLT.out; simp [intOf]; omega
        · rw [HUF.out HQF.out.symm] at CFU
          go_wp2_with (first
            | (go_at_call 12; ((with_reducible refine (CKU.out _ E1.out).mono ?_); (rintro e w2 ⟨rfl, h2⟩); (have E2 := hid_of (E1.out.trans (h2.mono E1.out.size))); (obtain ⟨⟨p20, p21, p22, p23, p24, p25⟩, r20, r21, r22, r23, r24, r25⟩ := HC w2 E2.out); clear p10 p11 p12 p13 p14 p15 r10 r11 r12 r13 r14 r15; clear h2))
            | (go_at_call 20; ((with_reducible refine (CDT.out _ E2.out).mono ?_); (rintro e w3 ⟨rfl, h3⟩); (have E3 := hid_of (E2.out.trans (h3.mono E2.out.size))); (obtain ⟨⟨p30, p31, p32, p33, p34, p35⟩, r30, r31, r32, r33, r34, r35⟩ := HC w3 E3.out); clear p20 p21 p22 p23 p24 p25 r20 r21 r22 r23 r24 r25; clear h3))
            | (go_at_call 18; ((with_reducible refine (CFT.out _ E3.out).mono ?_); (rintro e w4 ⟨rfl, h4⟩); (have E4 := hid_of (E3.out.trans (h4.mono E3.out.size))); (obtain ⟨⟨p40, p41, p42, p43, p44, p45⟩, r40, r41, r42, r43, r44, r45⟩ := HC w4 E4.out); clear p30 p31 p32 p33 p34 p35 r30 r31 r32 r33 r34 r35; clear h4))
            | (go_at_call 18; ((with_reducible refine (CFU.out _ E4.out).mono ?_); (rintro e w5 ⟨rfl, h5⟩); (have E5 := hid_of (E4.out.trans (h5.mono E4.out.size))); (obtain ⟨⟨p50, p51, p52, p53, p54, p55⟩, r50, r51, r52, r53, r54, r55⟩ := HC w5 E5.out); clear p40 p41 p42 p43 p44 p45 r40 r41 r42 r43 r44 r45; clear h5))
            | (go_at_call 22; ((with_reducible refine (CPU.out _ E5.out).mono ?_); (rintro e w6 ⟨rfl, h6⟩); (have E6 := hid_of (E5.out.trans (h6.mono E5.out.size))); (obtain ⟨⟨p60, p61, p62, p63, p64, p65⟩, r60, r61, r62, r63, r64, r65⟩ := HC w6 E6.out); clear p50 p51 p52 p53 p54 p55 r50 r51 r52 r53 r54 r55; clear h6)))
          go_roundw
          case rel => exact ⟨i + 1, max m q, by go_num, by go_num, HLT.out, hid_of HS.out.symm, E6⟩
          case measure => have := HLT.out; simp [intOf]; omega
      · rw [HUD.out HQD.out.symm] at CDU
        cases qf
        · go_wp2_with (first
            | (go_at_call 12; ((with_reducible refine (CKU.out _ E1.out).mono ?_); (rintro e w2 ⟨rfl, h2⟩); (have E2 := hid_of (E1.out.trans (h2.mono E1.out.size))); (obtain ⟨⟨p20, p21, p22, p23, p24, p25⟩, r20, r21, r22, r23, r24, r25⟩ := HC w2 E2.out); clear p10 p11 p12 p13 p14 p15 r10 r11 r12 r13 r14 r15; clear h2))
            | (go_at_call 20; ((with_reducible refine (CDT.out _ E2.out).mono ?_); (rintro e w3 ⟨rfl, h3⟩); (have E3 := hid_of (E2.out.trans (h3.mono E2.out.size))); (obtain ⟨⟨p30, p31, p32, p33, p34, p35⟩, r30, r31, r32, r33, r34, r35⟩ := HC w3 E3.out); clear p20 p21 p22 p23 p24 p25 r20 r21 r22 r23 r24 r25; clear h3))
            | (go_at_call 20; ((with_reducible refine (CDU.out _ E3.out).mono ?_); (rintro e w4 ⟨rfl, h4⟩); (have E4 := hid_of (E3.out.trans (h4.mono E3.out.size))); (obtain ⟨⟨p40, p41, p42, p43, p44, p45⟩, r40, r41, r42, r43, r44, r45⟩ := HC w4 E4.out); clear p30 p31 p32 p33 p34 p35 r30 r31 r32 r33 r34 r35; clear h4))
            | (go_at_call 18; ((with_reducible refine (CFT.out _ E4.out).mono ?_); (rintro e w5 ⟨rfl, h5⟩); (have E5 := hid_of (E4.out.trans (h5.mono E4.out.size))); (obtain ⟨⟨p50, p51, p52, p53, p54, p55⟩, r50, r51, r52, r53, r54, r55⟩ := HC w5 E5.out); clear p40 p41 p42 p43 p44 p45 r40 r41 r42 r43 r44 r45; clear h5))
            | (go_at_call 22; ((with_reducible refine (CPU.out _ E5.out).mono ?_); (rintro e w6 ⟨rfl, h6⟩); (have E6 := hid_of (E5.out.trans (h6.mono E5.out.size))); (obtain ⟨⟨p60, p61, p62, p63, p64, p65⟩, r60, r61, r62, r63, r64, r65⟩ := HC w6 E6.out); clear p50 p51 p52 p53 p54 p55 r50 r51 r52 r53 r54 r55; clear h6)))
          go_roundw
          case rel => exact ⟨i + 1, max m q, by go_num, by go_num, HLT.out, hid_of HS.out.symm, E6⟩
          case measure => have := HLT.out; simp [intOf]; omega
        · rw [HUF.out HQF.out.symm] at CFU
          go_wp2_with (first
            | (go_at_call 12; ((with_reducible refine (CKU.out _ E1.out).mono ?_); (rintro e w2 ⟨rfl, h2⟩); (have E2 := hid_of (E1.out.trans (h2.mono E1.out.size))); (obtain ⟨⟨p20, p21, p22, p23, p24, p25⟩, r20, r21, r22, r23, r24, r25⟩ := HC w2 E2.out); clear p10 p11 p12 p13 p14 p15 r10 r11 r12 r13 r14 r15; clear h2))
            | (go_at_call 20; ((with_reducible refine (CDT.out _ E2.out).mono ?_); (rintro e w3 ⟨rfl, h3⟩); (have E3 := hid_of (E2.out.trans (h3.mono E2.out.size))); (obtain ⟨⟨p30, p31, p32, p33, p34, p35⟩, r30, r31, r32, r33, r34, r35⟩ := HC w3 E3.out); clear p20 p21 p22 p23 p24 p25 r20 r21 r22 r23 r24 r25; clear h3))
            | (go_at_call 20; ((with_reducible refine (CDU.out _ E3.out).mono ?_); (rintro e w4 ⟨rfl, h4⟩); (have E4 := hid_of (E3.out.trans (h4.mono E3.out.size))); (obtain ⟨⟨p40, p41, p42, p43, p44, p45⟩, r40, r41, r42, r43, r44, r45⟩ := HC w4 E4.out); clear p30 p31 p32 p33 p34 p35 r30 r31 r32 r33 r34 r35; clear h4))
            | (go_at_call 18; ((with_reducible refine (CFT.out _ E4.out).mono ?_); (rintro e w5 ⟨rfl, h5⟩); (have E5 := hid_of (E4.out.trans (h5.mono E4.out.size))); (obtain ⟨⟨p50, p51, p52, p53, p54, p55⟩, r50, r51, r52, r53, r54, r55⟩ := HC w5 E5.out); clear p40 p41 p42 p43 p44 p45 r40 r41 r42 r43 r44 r45; clear h5))
            | (go_at_call 18; ((with_reducible refine (CFU.out _ E5.out).mono ?_); (rintro e w6 ⟨rfl, h6⟩); (have E6 := hid_of (E5.out.trans (h6.mono E5.out.size))); (obtain ⟨⟨p60, p61, p62, p63, p64, p65⟩, r60, r61, r62, r63, r64, r65⟩ := HC w6 E6.out); clear p50 p51 p52 p53 p54 p55 r50 r51 r52 r53 r54 r55; clear h6))
            | (go_at_call 22; ((with_reducible refine (CPU.out _ E6.out).mono ?_); (rintro e w7 ⟨rfl, h7⟩); (have E7 := hid_of (E6.out.trans (h7.mono E6.out.size))); (obtain ⟨⟨p70, p71, p72, p73, p74, p75⟩, r70, r71, r72, r73, r74, r75⟩ := HC w7 E7.out); clear p60 p61 p62 p63 p64 p65 r60 r61 r62 r63 r64 r65; clear h7)))
          go_roundw
          case rel => exact ⟨i + 1, max m q, by go_num, by go_num, HLT.out, hid_of HS.out.symm, E7⟩
          case measure => have := HLT.out; simp [intOf]; omega
    · have d1 : decide (i < np) = false := decide_eq_false hlt
      have HI : Hid (i = np) := hid_of (by omega)
      have HME : Hid (m = depthsL t.ps) := hid_of (by have := HM.out; rw [HI.out, HNP.out, List.take_length] at this; exact this)
      have hm : m ≤ 5 := by have := HME.out; have := HDT.out; have := HD6.out; omega
      have CPE : Hid (∀ (wz : World) (hz : Below WW.heap.size WW wz), Calls Try.prog 22 #[.agg #[.int .i64 k, .int .i64 lo, .int .i64 hi, .slice an nn cn, .slice ap np cp, .slice ar nr cr]] wz fun e w' => e = .returned (.int .i64 ((m : Int) + 1)) ∧ Below wz.heap.size wz w') := hid_of (fun wz hz => (CPT.out wz hz).mono (by rintro e w' ⟨rfl, h⟩; exact ⟨ret_i (by rw [HDT.out, ← HME.out]; rfl), h⟩))
      obtain ⟨p10, p11, p12, p13, p14, p15⟩ := HX.out wr E1.out
      have d6 : decide (m < 6) = true := decide_eq_true (by omega)
      have d6i : decide ((m : Int) < 6) = true := decide_eq_true (by omega)
      clear hlt
      go_wp2_with (go_at_call 22; ((with_reducible refine (CPE.out _ E1.out).mono ?_); (rintro e w2 ⟨rfl, h2⟩); (have E2 := hid_of (E1.out.trans (h2.mono E1.out.size))); clear h2))
      go_ret
      exact ⟨rfl, HBW.out.trans (E2.out.mono HBW.out.size)⟩
end Go.Proofs.Ythgfhplhjplmcaa
