/- blame, Blame, Monotone, contains. No condition. -/
import Derived.Test.YtdacalplnggnoaaDoorVarBlm
namespace Go.Proofs.YtdacalplnggnoaaDoor
open Go.RowKit

def BlP (w0 : World) (r : Int) (w : World) (e : Ending) (w' : World) : Prop := ∃ (g o : Nat) (x : XX) (u : Ex), e = .returned (.pointer (some ⟨g, o, none⟩)) ∧ XAt w0 g o x u ∧ u.pt = r ∧ Below w.heap.size w w'
def blameC (t : Ex) : Prop := ∀ (b q g o : Nat) (x : XX) (ap : Option Addr) (np cp : Nat) (w0 : World) (B : Nat) (w : World) (d : Int), Gl w → w.cell? ⟨b, q, none⟩ = some (.pointer (some ⟨g, o, none⟩)) → w.cell? ⟨b, q + 1, none⟩ = some (.slice ap np cp) → XAt w0 g o x t → Below w0.heap.size w0 w → NDs w0 B w (.slice ap np cp) t.ks →
    Calls Tryd.prog 20 #[.pointer (some ⟨b, q, none⟩), .int .i64 d] w (BlP w0 (blameF t d) w)
set_option maxRecDepth 100000 in
set_option maxHeartbeats 3200000 in
theorem blame_any : ∀ t, blameC t := by
  refine ex_ind ?_
  intro op' sr' kd' np' pk' pl' ph' n' pt' ks' ih b q g o x ap np cp w0 B w d HG hb hb1 H0 hw0 HN
  obtain ⟨t, ht⟩ : ∃ t, t = (Ex.mk op' sr' kd' np' pk' pl' ph' n' pt' ks') := ⟨_, rfl⟩
  rw [← ht] at H0 HN ⊢
  obtain rfl : ks' = t.ks := by rw [ht]; rfl
  have H := H0.at hw0
  have FM := hid_of (fun (wz : World) (hz : Below w.heap.size w wz) => form_any g o x t wz (HG.at hz) (H.at hz))
  have hbl := World.block_lt_of_cell? w _ hb
  have hbl1 := World.block_lt_of_cell? w _ hb1
  have HCC : Hid (∀ w2, Below w.heap.size w w2 → w2.cell? ⟨b, q, none⟩ = some (.pointer (some ⟨g, o, none⟩)) ∧ w2.cell? ⟨b, q + 1, none⟩ = some (.slice ap np cp)) := hid_of (fun w2 h2 => ⟨(h2.cell (p := ⟨b, q, none⟩) hbl).trans hb, (h2.cell (p := ⟨b, q + 1, none⟩) hbl1).trans hb1⟩)
  have SG := hid_of (fun (hF : formB t = true) (i : Nat) (hi : i < t.ks.length) (wz : World) (hz : Below w.heap.size w wz) => sign_any b q g o x t i wz (HG.at hz) ((hz.cell (p := ⟨b, q, none⟩) hbl).trans hb) (H.at hz) hF hi)
  have DR := hid_of (fun (hF : formB t = true) (wz : World) (hz : Below w.heap.size w wz) => dir_any b q g o x t ap np cp w0 B wz (HG.at hz) (HCC.out wz hz).1 (HCC.out wz hz).2 (H.at hz) (HN.at hz) hF)
  obtain ⟨hn1, hn2, hn3⟩ := HN.len
  have hn9 : np ≤ 9223372036854775807 := by omega
  have HNP := hid_of hn1
  have HND := hid_of HN
  have HX0 := hid_of H0
  have HW0 := hid_of hw0
  have HGH := hid_of HG
  have IH := hid_of ih
  obtain ⟨r, hr⟩ : ∃ r, r = blameF t d := ⟨_, rfl⟩
  rw [← hr]
  rw [blameF_eq] at hr
  clear hn1 hn2 hn3 HN H HG hbl hbl1 ih hw0 H0 ht
  obtain ⟨fb, hfb⟩ : ∃ fb, fb = formB t := ⟨_, rfl⟩
  rw [← hfb] at FM hr SG DR
  cases fb
  case false =>
    rw [Bool.false_and, if_neg (by decide)] at hr
    have HR := hid_of hr
    clear hfb hr
    go_enter Tryd.func20, Tryd.ntmps20
    go_wp2_with (go_at_call 22; ((with_reducible refine (FM.out _ (Below.refl _ _)).mono ?_); (rintro e w2 ⟨rfl, h2⟩); (obtain ⟨k0, k1⟩ := HCC.out w2 h2); (have H2 := hid_of h2); clear h2))
    go_ret
    exact ⟨g, o, x, t, rfl, HX0.out, HR.out.symm, H2.out⟩
  rw [Bool.true_and] at hr
  have DR1 := hid_of (DR.out rfl)
  have SG1 := hid_of (SG.out rfl)
  obtain ⟨db, hdb⟩ : ∃ db, db = dirB t := ⟨_, rfl⟩
  rw [← hdb] at DR1 hr
  clear hfb hdb DR SG
  cases db
  case false =>
    rw [if_neg (by decide)] at hr
    have HR := hid_of hr
    clear hr
    go_enter Tryd.func20, Tryd.ntmps20
    go_wp2_with (first
      | (go_at_call 22; ((with_reducible refine (FM.out _ (Below.refl _ _)).mono ?_); (rintro e w2 ⟨rfl, h2⟩); (have H2 := hid_of h2); clear h2))
      | (go_at_call 23; ((with_reducible refine (DR1.out _ H2.out).mono ?_); (rintro e w3 ⟨rfl, h3⟩); (have H3 := hid_of (H2.out.trans (h3.mono H2.out.size))); (obtain ⟨k0, k1⟩ := HCC.out w3 (H2.out.trans (h3.mono H2.out.size))); clear h3)))
    go_ret
    exact ⟨g, o, x, t, rfl, HX0.out, HR.out.symm, H3.out⟩
  rw [if_pos rfl] at hr
  have HR : Hid (r = blames t (t.ks.drop 0) 0 d t.pt) := hid_of hr
  clear hr
  go_enter Tryd.func20, Tryd.ntmps20
  go_wp2_with (first
    | (go_at_call 22; ((with_reducible refine (FM.out _ (Below.refl _ _)).mono ?_); (rintro e w2 ⟨rfl, h2⟩); (have H2 := hid_of h2); clear h2))
    | (go_at_call 23; ((with_reducible refine (DR1.out _ H2.out).mono ?_); (rintro e w3 ⟨rfl, h3⟩); (have H3 := hid_of (H2.out.trans (h3.mono H2.out.size))); (obtain ⟨k0, k1⟩ := HCC.out w3 (H2.out.trans (h3.mono H2.out.size))); clear h3)))
  go_loopw [28] (fun iv wr => ∃ (i : Nat), iv = .int .i64 i ∧ i ≤ np ∧ Hid (r = blames t (t.ks.drop i) i d t.pt) ∧ Hid (Below w.heap.size w wr)) (fun iv _ => np - (intOf iv).toNat)
  case atStart => exact ⟨0, rfl, Nat.zero_le _, HR, H3⟩
  case round =>
    obtain ⟨i, rfl, hi, HM, hb⟩ := hrel
    obtain ⟨m0, m1⟩ := HCC.out wr hb.out
    by_cases hlt : i < np
    · have d1 : decide (i < np) = true := decide_eq_true hlt
      have hlt' : (i : Int) < (np : Int) := by omega
      have HLT := hid_of hlt
      obtain ⟨u, hu⟩ : ∃ u, t.ks[i]? = some u := ⟨_, List.getElem?_eq_getElem (by have := HNP.out; omega)⟩
      obtain ⟨gr, qr, gx, ox, xx, pa2, pn2, pc2, rfl, hgr, HX, HS2, n0, n1, n2⟩ := (HND.out.at hb.out).get hu
      have HVR := vary_range u
      have HDD : Hid (blames t (t.ks.drop i) i d t.pt = if vary u ≠ 0 ∧ vary u ≠ turnF (sgn t i) d then blameF u (turnF (sgn t i) d) else blames t (t.ks.drop (i + 1)) (i + 1) d t.pt) := hid_of (blames_drop t d t.pt t.ks i i u (by rw [List.getElem?_drop]; simpa using hu))
      have hi2 : i < t.ks.length := (List.getElem?_eq_some_iff.1 hu).1
      have SI := hid_of (SG1.out i hi2)
      have TU := hid_of (fun wz => turn_any (sgn t i) d wz)
      have CB := hid_of (fun (dd : Int) (wz : World) (hz : Below w.heap.size w wz) (hz2 : Below wr.heap.size wr wz) => IH.out u (List.mem_of_getElem? hu) gr (qr + i * 3) gx ox xx pa2 pn2 pc2 w0 B wz dd (HGH.out.at hz) ((hz2.cell (p := ⟨gr, qr + i * 3, none⟩) hgr).trans n0) ((hz2.cell (p := ⟨gr, qr + i * 3 + 1, none⟩) hgr).trans n1) HX (HW0.out.trans (hz.mono HW0.out.size)) (HS2.at hz2))
      obtain ⟨ss, hss⟩ : ∃ ss, ss = sgn t i := ⟨_, rfl⟩
      rw [← hss] at SI TU HDD
      obtain ⟨vv, hvv⟩ : ∃ vv, vv = vary u := ⟨_, rfl⟩
      rw [← hvv] at n2 HDD
      obtain ⟨dd, hdd⟩ : ∃ dd, dd = turnF ss d := ⟨_, rfl⟩
      rw [← hdd] at TU HDD
      have CBD := hid_of (CB.out dd)
      have HN2 : Hid (∀ w2, Below wr.heap.size wr w2 → w2.cell? ⟨gr, qr + i * 3 + 2, none⟩ = some (.int .i64 vv)) := hid_of (fun w2 h2 => (h2.cell (p := ⟨gr, qr + i * 3 + 2, none⟩) hgr).trans n2)
      clear HX HS2 hu hvv hlt hi2 hss hdd CB HVR n0 n1 n2 hgr
      by_cases h0 : vv = 0
      · subst h0
        have HR2 : Hid (r = blames t (t.ks.drop (i + 1)) (i + 1) d t.pt) := hid_of (by rw [HM.out, HDD.out, if_neg (fun h => h.1 rfl)])
        go_wp2
        go_region_held3 (fun wz => wz.cell? ⟨b, q + 1, none⟩ = some (.slice (some ⟨gr, qr, none⟩) np cp)) (first | exact m1 | exact cs9 | go_keep) (first
          | (go_at_call 25; ((with_reducible refine (SI.out _ (by first | exact redrew hb.out | exact hb.out)).mono ?_); (rintro e w4 ⟨rfl, h4⟩); (have H4 := hid_of (undrew h4)); (have H5 := hid_of (hb.out.trans ((undrew h4).mono hb.out.size))); (have cs9 := (HCC.out w4 (hb.out.trans ((undrew h4).mono hb.out.size))).2); (have n2 := HN2.out w4 (undrew h4)); clear h4))
          | (go_at_call 24; ((with_reducible refine (TU.out _).mono ?_); (rintro e w5 ⟨rfl, rfl⟩))))
        go_wp2
        go_roundw
        case rel => exact ⟨i + 1, by go_num, HLT.out, HR2, H5⟩
        case measure => have := HLT.out; simp [intOf]; omega
      have e0 : (vv != 0) = true := bne_iff_ne.2 h0
      by_cases h1 : vv = dd
      · have e1 : (vv != dd) = false := by rw [h1]; simp
        have HR2 : Hid (r = blames t (t.ks.drop (i + 1)) (i + 1) d t.pt) := hid_of (by rw [HM.out, HDD.out, if_neg (fun h => h.2 h1)])
        clear h0 h1
        go_wp2
        go_region_held3 (fun wz => wz.cell? ⟨b, q + 1, none⟩ = some (.slice (some ⟨gr, qr, none⟩) np cp)) (first | exact m1 | exact cs9 | go_keep) (first
          | (go_at_call 25; ((with_reducible refine (SI.out _ (by first | exact redrew hb.out | exact hb.out)).mono ?_); (rintro e w4 ⟨rfl, h4⟩); (have H4 := hid_of (undrew h4)); (have H5 := hid_of (hb.out.trans ((undrew h4).mono hb.out.size))); (have cs9 := (HCC.out w4 (hb.out.trans ((undrew h4).mono hb.out.size))).2); (have n2 := HN2.out w4 (undrew h4)); clear h4))
          | (go_at_call 24; ((with_reducible refine (TU.out _).mono ?_); (rintro e w5 ⟨rfl, rfl⟩))))
        go_wp2
        go_roundw
        case rel => exact ⟨i + 1, by go_num, HLT.out, HR2, H5⟩
        case measure => have := HLT.out; simp [intOf]; omega
      · have e1 : (vv != dd) = true := bne_iff_ne.2 h1
        have HR2 : Hid (r = blameF u dd) := hid_of (by rw [HM.out, HDD.out, if_pos ⟨h0, h1⟩])
        clear h0 h1
        go_wp2
        go_region_held3 (fun wz => wz.cell? ⟨b, q + 1, none⟩ = some (.slice (some ⟨gr, qr, none⟩) np cp)) (first | exact m1 | exact cs9 | go_keep) (first
          | (go_at_call 25; ((with_reducible refine (SI.out _ (by first | exact redrew hb.out | exact hb.out)).mono ?_); (rintro e w4 ⟨rfl, h4⟩); (have H4 := hid_of (undrew h4)); (have H5 := hid_of (hb.out.trans ((undrew h4).mono hb.out.size))); (have cs9 := (HCC.out w4 (hb.out.trans ((undrew h4).mono hb.out.size))).2); (have n2 := HN2.out w4 (undrew h4)); clear h4))
          | (go_at_call 24; ((with_reducible refine (TU.out _).mono ?_); (rintro e w5 ⟨rfl, rfl⟩))))
        go_wp2_with (go_at_call 20; ((with_reducible refine (CBD.out _ H5.out H4.out).mono ?_); (rintro e w6 ⟨g6, o6, x6, u6, rfl, h6, h7, h8⟩); (have H6 := hid_of h6); (have H7 := hid_of h7); (have H8 := hid_of h8); clear h6 h7 h8))
        go_ret
        exact ⟨g6, o6, x6, u6, rfl, H6.out, by rw [H7.out, HR2.out], H5.out.trans (H8.out.mono H5.out.size)⟩
    · have d1 : decide (i < np) = false := decide_eq_false hlt
      have HI : Hid (i = np) := hid_of (by omega)
      go_wp2
      go_ret
      refine ⟨g, o, x, t, rfl, HX0.out, ?_, hb.out⟩
      rw [HM.out, HI.out, HNP.out, List.drop_length, blames]
end Go.Proofs.YtdacalplnggnoaaDoor
