/- The reference's Parse. Bounds on sizes alone. -/
import Derived.Test.YtkpblmmgaglhoaaNamOps
namespace Go.Proofs.Ytkpblmmgaglhoaa
open Go.RowKit

set_option maxRecDepth 100000 in
theorem rskip_any (s : ByteArray) (i : Nat) (w : World) (hs : s.size ≤ 1000000) (hi : i ≤ s.size) :
    Calls Try.prog 49 #[.string s, .int .i64 i] w fun e w' => e = .returned (.int .i64 (sk s i : Nat)) ∧ w = w' := by
  obtain ⟨r, hr⟩ : ∃ r, r = sk s i := ⟨_, rfl⟩
  rw [← hr]
  have HR := hid_of hr
  clear hr
  go_enter Try.func49, Try.ntmps49
  go_wp2
  go_loop [1] (fun iv => ∃ j : Nat, iv = .int .i64 j ∧ j ≤ s.size ∧ Hid (sk s j = r)) (fun iv => s.size - (intOf iv).toNat)
  case atStart => exact ⟨i, rfl, hi, hid_of HR.out.symm⟩
  case round =>
    obtain ⟨j, rfl, hj, hsk⟩ := hrel
    by_cases hlt : j < s.size
    · obtain ⟨x, hx⟩ : ∃ x : Int, x = ((s[j]).toNat : Int) := ⟨_, rfl⟩
      have HX : Hid (gt s j = x) := hid_of (by rw [gt_lt hlt, hx])
      have hxs : ((s[j]).toNat : Int) = x := hx.symm
      have d1 : decide (j < s.size) = true := by simp; omega
      clear hx
      by_cases e : x = 32
      · have t1 : (x == 32) = true := by simp [e]
        have STEP : Hid (sk s (j + 1) = r) := hid_of (by rw [← hsk.out]; exact (runF_go hlt (by rw [HX.out, e]; rfl)).symm)
        clear e
        go_wp2
        go_round
        case rel => exact ⟨j + 1, by go_num, by omega, STEP⟩
        case measure => simp [intOf]; omega
      · have t1 : (x == 32) = false := by simp [e]
        have STEP : Hid (j = r) := hid_of (by rw [← hsk.out]; exact (sk_stop (by rw [HX.out]; exact e)).symm)
        clear e
        go_wp2
        go_ret
        exact ⟨by rw [STEP.out] <;> rfl, rfl⟩
    · have d1 : decide (j < s.size) = false := by simp; omega
      have STEP : Hid (j = r) := hid_of (by rw [← hsk.out]; exact (runF_end blank_ends hlt).symm)
      go_wp2
      go_ret
      exact ⟨by rw [STEP.out] <;> rfl, rfl⟩

set_option maxRecDepth 100000 in
theorem rend_any (s : ByteArray) (i : Nat) (ao : Option Addr) (n cap : Nat) (acc : List Str) (w : World) (hs : s.size ≤ 1000000) (hi : i ≤ s.size) (R : Rd w (.slice ao n cap) (ss acc)) (ha : acc.length ≤ 1000000) :
    Calls Try.prog 50 #[.string s, .int .i64 i, .slice ao n cap] w (PPost (fin s i acc) w) := by
  have SK := hid_of (rskip_any s i w hs hi)
  have OF := hid_of (rof_any ao n cap acc w R (by unfold big; exact ha))
  obtain ⟨q, hq⟩ : ∃ q, q = sk s i := ⟨_, rfl⟩
  rw [← hq] at SK
  have hq9 : q ≤ s.size := by rw [hq]; exact (sk_spec s i).2.2.1 hi
  by_cases hlt : q < s.size
  · have HF := hid_of (fin_bad (acc := acc) hq hlt)
    have d1 : decide (q < s.size) = true := by simp; omega
    rw [HF.out]
    clear hq R ha
    go_enter Try.func50, Try.ntmps50
    go_wp2_with (go_at_call 49; ((with_reducible refine (SK.out).mono ?_); (rintro ee w' ⟨rfl, rfl⟩)))
    go_ret3
    exact ⟨none, 0, rfl, ow_nil _ _⟩
  · have HF := hid_of (fin_ok (acc := acc) hq hlt)
    have d1 : decide (q < s.size) = false := by simp; omega
    rw [HF.out]
    clear hq R ha
    go_enter Try.func50, Try.ntmps50
    go_wp2_with (first
      | (go_at_call 49; ((with_reducible refine (SK.out).mono ?_); (rintro ee w' ⟨rfl, rfl⟩)))
      | (go_at_call 30; ((with_reducible refine (OF.out).mono ?_); (rintro ee w1 ⟨xo, xc, rfl, h1⟩; have O1 := hid_of h1; clear h1))))
    go_ret3
    exact ⟨xo, xc, rfl, O1.out⟩

theorem ppost_bad {G : Got} {w w' : World} {pl : Nat} {c : Int} (h : G = bad pl c) (hb : Below w.heap.size w w') : PPost G w (.returned (.tuple #[.slice none 0 0, .int .i64 (pl : Int), .int .i64 c])) w' := by
  subst h; exact ⟨none, 0, rfl, ow_keep hb⟩
theorem ppost_step {G : Got} {w w1 w' : World} {e : Ending} (h : PPost G w1 e w') (hb : Below w.heap.size w w1) : PPost G w e w' := by
  obtain ⟨xo, xc, h1, h2⟩ := h
  exact ⟨xo, xc, h1, h2.start (Nat.le_refl _) hb hb.size⟩

set_option maxRecDepth 100000 in
set_option maxHeartbeats 6400000 in
theorem rparse_any (s : ByteArray) (w : World) (hs : s.size ≤ 1000000) : Calls Try.prog 35 #[.string s] w (PPost (parseF s) w) := by
  obtain ⟨RES, hR⟩ : ∃ R, R = parseF s := ⟨_, rfl⟩
  rw [← hR]
  have SK := hid_of (fun i w hi => rskip_any s i w hs hi)
  obtain ⟨a, ha⟩ : ∃ a, a = sk s 0 := ⟨_, rfl⟩
  have ha2 : a ≤ s.size := by rw [ha]; exact (sk_spec s 0).2.2.1 (Nat.zero_le _)
  have SK0 := hid_of (rskip_any s 0 w hs (Nat.zero_le _))
  rw [← ha] at SK0
  have SK0' : Hid (Calls Try.prog 49 #[.string s, .int .i64 0] w fun e w' => e = .returned (.int .i64 (a : Nat)) ∧ w = w') := SK0
  have HA := hid_of ha
  clear ha
  by_cases h1 : gt s a = 123
  · have halt : a < s.size := gt_in (by rw [h1]; decide)
    have hxa : ((s[a]).toNat : Int) = 123 := by rw [← gt_lt halt, h1]
    have ta : ((a : Int) == (s.size : Int)) = false := by simp; omega
    have ta' : (a == s.size) = false := by simp; omega
    obtain ⟨c, hc⟩ : ∃ c, c = sk s (a + 1) := ⟨_, rfl⟩
    have hc2 : c ≤ s.size := by rw [hc]; exact (sk_spec s _).2.2.1 (by omega)
    have SK1 : Hid (Calls Try.prog 49 #[.string s, .int .i64 ((a : Int) + 1)] w fun e w' => e = .returned (.int .i64 (c : Nat)) ∧ w = w') := hid_of (by
      have := rskip_any s (a + 1) w hs (by omega)
      rw [← hc] at this; exact this)
    have HC := hid_of hc
    have HCI : Hid (sk s c = c) := hid_of (by rw [hc, sk_idem])
    have HE : Hid (Ow 9 w.heap.size w (w.alloc (.cells #[] 9)) (.slice (some ⟨w.heap.size, 0, none⟩) 0 0) (ss [])) := hid_of (ow_empty _ w)
    clear hc
    by_cases h2 : gt s c = 125
    · have hclt : c < s.size := gt_in (by rw [h2]; decide)
      have hxc : ((s[c]).toNat : Int) = 125 := by rw [← gt_lt hclt, h2]
      have HRES : Hid (RES = fin s (c + 1) []) := hid_of (by rw [hR, parseF, ← HA.out, if_neg (by simp [h1]), ← HC.out, if_pos h2])
      have dc : decide (c < s.size) = true := by simp; omega
      have EN : Hid (Calls Try.prog 50 #[.string s, .int .i64 ((c : Int) + 1), .slice (some ⟨w.heap.size, 0, none⟩) 0 0] (w.alloc (.cells #[] 9)) (PPost RES (w.alloc (.cells #[] 9)))) := hid_of (by
        rw [HRES.out]
        exact rend_any s (c + 1) _ 0 0 [] _ hs (by omega) (HE.out.rd (by simp [ss])) (by simp))
      clear h1 h2 hR
      go_enter Try.func35, Try.ntmps35
      go_wp2_with (first
        | (go_at_call 49; (first
          | ((with_reducible refine (SK0'.out).mono ?_); (rintro ee w' ⟨rfl, rfl⟩))
          | ((with_reducible refine (SK1.out).mono ?_); (rintro ee w' ⟨rfl, rfl⟩))))
        | (go_at_call 50; ((with_reducible refine (EN.out).mono ?_); (rintro ee w2 ⟨xo, xc, rfl, h1⟩; have O2 := hid_of h1; clear h1))))
      go_ret3
      exact ppost_step ⟨xo, xc, rfl, O2.out⟩ (bel_alloc w _)
    · have HRES : Hid (wordsF s (s.size + 1) c [] = RES) := hid_of (by rw [hR, parseF, ← HA.out, if_neg (by simp [h1]), ← HC.out, if_neg h2])
      have hd1 : (c < s.size ∧ gt s c ≠ 125) ∨ ¬ c < s.size := by
        by_cases hh : c < s.size
        · exact .inl ⟨hh, h2⟩
        · exact .inr hh
      clear h1 h2 hR
      rcases hd1 with ⟨hclt, h2⟩ | hclt
      all_goals
        first
          | (have dc : decide (c < s.size) = true := (by simp; omega); obtain ⟨xc_, hxc_⟩ : ∃ x : Int, x = ((s[c]).toNat : Int) := ⟨_, rfl⟩; have hxc : ((s[c]).toNat : Int) = xc_ := hxc_.symm; have tc : (xc_ == 125) = false := (by rw [beq_eq_false_iff_ne, hxc_, ← gt_lt hclt]; exact h2); clear hxc_ h2)
          | (have dc : decide (c < s.size) = false := (by simp; omega))
        have HC9 := hid_of hc2
        go_enter Try.func35, Try.ntmps35
        go_wp2_with (go_at_call 49; (first
          | ((with_reducible refine (SK0'.out).mono ?_); (rintro ee w' ⟨rfl, rfl⟩))
          | ((with_reducible refine (SK1.out).mono ?_); (rintro ee w' ⟨rfl, rfl⟩))))
        clear hxa ta ta' halt
        go_loopw [5, 6, 7] (fun av lv nv wr => ∃ (st d : Nat) (acc : List Str) (xo : Option Addr) (xc : Nat) (v : Value), nv = v ∧ av = .int .i64 st ∧ st ≤ s.size ∧ lv = .slice xo acc.length xc ∧ Hid (sk s st = st ∧ s.size - st < d ∧ acc.length ≤ st ∧ wordsF s d st acc = RES) ∧ Hid (Ow 9 w.heap.size w wr (.slice xo acc.length xc) (ss acc))) (fun av _ _ _ => s.size - (intOf av).toNat)
        case atStart => exact ⟨c, s.size + 1, [], _, _, _, rfl, rfl, HC9.out, rfl, hid_of ⟨HCI.out, by omega, by simp, HRES.out⟩, HE⟩
        case round =>
          obtain ⟨wo, rfl⟩ : ∃ wo : World, wo = wr := ⟨_, rfl⟩
          obtain ⟨st, d, acc, xo, xc, v, rfl, rfl, hst, rfl, hw, how⟩ := hrel
          obtain ⟨e, he⟩ : ∃ e, e = we s st := ⟨_, rfl⟩
          obtain ⟨j, hj⟩ : ∃ j, j = sk s e := ⟨_, rfl⟩
          have f2 : st ≤ e ∧ e ≤ s.size := by rw [he]; exact ⟨(we_spec s st).2.1, (we_spec s st).2.2.1 hst⟩
          have f3 : e ≤ j ∧ j ≤ s.size := by rw [hj]; exact ⟨(sk_spec s e).2.1, (sk_spec s e).2.2.1 f2.2⟩
          obtain ⟨d', rfl⟩ : ∃ d', d = d' + 1 := ⟨d - 1, by have := hw.out.2.1; omega⟩
          have HWW : Hid (wordsF s (d' + 1) st acc = RES) := hid_of hw.out.2.2.2
          obtain ⟨bw, hbw⟩ : ∃ bw, bw = s.extract st e := ⟨_, rfl⟩
          have hbs : bw.size = e - st := by rw [hbw, ByteArray.size_extract]; omega
          have HBW := hid_of hbw
          have HEE := hid_of he
          have HJ := hid_of hj
          have HF := hid_of (And.intro f2 f3)
          have HJ2 : Hid (sk s j = j) := hid_of (by rw [hj]; exact sk_idem s e)
          have HCUT : Hid (ba (cut s st e) = bw) := hid_of (by rw [hbw]; exact ba_of _)
          have HJ9 : Hid (j ≤ s.size) := hid_of f3.2
          have HAL : Hid (acc.length ≤ 1000000) := hid_of (by have := hw.out.2.2.1; omega)
          have SKE : Hid (∀ w, Calls Try.prog 49 #[.string s, .int .i64 e] w fun ee w' => ee = .returned (.int .i64 (j : Nat)) ∧ w = w') := hid_of (fun w => by rw [hj]; exact SK.out e w f2.2)
          have e0 : st ≤ e := f2.1
          have e9 : e ≤ s.size := f2.2
          have bwx : s.extract st e = bw := hbw.symm
          clear he hj hbw f2 f3
          go_wp2
          go_loop [7] (fun nv => ∃ k : Nat, nv = .int .i64 k ∧ st ≤ k ∧ k ≤ s.size ∧ Hid (we s k = e)) (fun nv => s.size - (intOf nv).toNat)
          case atStart => exact ⟨st, rfl, Nat.le_refl _, hst, hid_of HEE.out.symm⟩
          case round =>
            obtain ⟨k, hnv, hk1, hk2, hwe⟩ := hrel
            by_cases hke : k = e
            · rw [hke] at hnv hk1 hk2
              subst hnv
              clear hk1 hk2 hwe hke
              have hcase : (e < s.size ∧ inw (gt s e) = false) ∨ ¬ e < s.size := by
                by_cases hh : e < s.size
                · exact .inl ⟨hh, by rw [HEE.out]; exact (we_spec s st).1⟩
                · exact .inr hh
              rcases hcase with ⟨helt, hin⟩ | helt
              all_goals
                first
                  | (have de : decide (e < s.size) = true := (by simp; omega); obtain ⟨xe_, hxe_⟩ : ∃ x : Int, x = ((s[e]).toNat : Int) := ⟨_, rfl⟩; have hxe : ((s[e]).toNat : Int) = xe_ := hxe_.symm; have LE : Hid (∀ w, Calls Try.prog 39 #[.int .u8 xe_] w fun e w' => e = .returned (.bool false) ∧ w = w') := hid_of (fun w => (by have := rletter_any xe_ w; rw [hxe_, ← gt_lt helt, hin] at this; rw [hxe_, ← gt_lt helt]; exact this.mono fun _ _ h => ⟨h.1, h.2.symm⟩)); clear hxe_ hin)
                  | (have de : decide (e < s.size) = false := (by simp; omega))
                by_cases hemp : e = st
                · have HR5 := hid_of (HWW.out.symm.trans (wf_empty (HEE.out.symm.trans hemp)))
                  have z1 : ((e : Int) == (st : Int)) = true := by simp; omega
                  have z2 : (e == st) = true := by simp; omega
                  clear hemp hbs
                  go_wp2_with (go_at_call 39; ((with_reducible refine (LE.out _).mono ?_); (rintro ee w' ⟨rfl, rfl⟩)))
                  go_ret3
                  exact ppost_bad HR5.out how.out.bel
                · have z1 : ((e : Int) == (st : Int)) = false := by simp; omega
                  have z2 : (e == st) = false := by simp; omega
                  have HEM := hid_of hemp
                  have VC : Hid (∀ w, Calls Try.prog 14 #[.string bw] w fun ee w' => ee = .returned (.bool (isName (strBytes bw))) ∧ w = w') := hid_of (fun w => (rvalid_any bw w (by unfold maxLen; omega)).mono fun _ _ h => ⟨h.1, h.2.symm⟩)
                  obtain ⟨q, hq⟩ : ∃ q, q = isName (strBytes bw) := ⟨_, rfl⟩
                  rw [← hq] at VC
                  have HQ := hid_of hq
                  have HAS : Hid (Calls Try.prog 22 #[.slice xo acc.length xc, .string bw] wo fun ee w' => ee = .returned (.bool (decide (cut s st e ∈ acc))) ∧ wo = w') := hid_of (by
                    rw [← HCUT.out]; exact rhas_any xo acc.length xc acc _ wo (how.out.rd (by rw [ss_length]; have := HAL.out; omega)))
                  have HBS := hid_of hbs
                  clear hq hemp hbs
                  cases q
                  · have HR5 : Hid (RES = bad st 3) := hid_of (HWW.out.symm.trans (wf_name HEE.out.symm HEM.out (.inl (by rw [← HBW.out]; exact HQ.out.symm))))
                    go_wp2_with (first
                      | (go_at_call 39; ((with_reducible refine (LE.out _).mono ?_); (rintro ee w' ⟨rfl, rfl⟩)))
                      | (go_at_call 14; ((with_reducible refine (VC.out _).mono ?_); (rintro ee w' ⟨rfl, rfl⟩))))
                    go_ret3
                    exact ppost_bad HR5.out how.out.bel
                  · by_cases hin2 : cut s st e ∈ acc
                    · have HR5 : Hid (RES = bad st 3) := hid_of (HWW.out.symm.trans (wf_name HEE.out.symm HEM.out (.inr hin2)))
                      have HAS2 : Hid (Calls Try.prog 22 #[.slice xo acc.length xc, .string bw] wo fun ee w' => ee = .returned (.bool true) ∧ wo = w') := hid_of (by have := HAS.out; rw [decide_eq_true hin2] at this; exact this)
                      clear hin2 HAS
                      go_wp2_with (first
                        | (go_at_call 39; ((with_reducible refine (LE.out _).mono ?_); (rintro ee w' ⟨rfl, rfl⟩)))
                        | (go_at_call 14; ((with_reducible refine (VC.out _).mono ?_); (rintro ee w' ⟨rfl, rfl⟩)))
                        | (go_at_call 22; ((with_reducible refine (HAS2.out).mono ?_); (rintro ee w' ⟨rfl, rfl⟩))))
                      go_ret3
                      exact ppost_bad HR5.out how.out.bel
                    · have HIN := hid_of hin2
                      have HAS2 : Hid (Calls Try.prog 22 #[.slice xo acc.length xc, .string bw] wo fun ee w' => ee = .returned (.bool false) ∧ wo = w') := hid_of (by have := HAS.out; rw [decide_eq_false hin2] at this; exact this)
                      have HN1 : Hid (isName (strBytes (s.extract st e)) = true) := hid_of (by rw [← HBW.out]; exact HQ.out.symm)
                      clear hin2 HAS
                      have hjcase : (j < s.size ∧ gt s j = 125) ∨ (j < s.size ∧ gt s j = 44) ∨ (j < s.size ∧ gt s j ≠ 125 ∧ gt s j ≠ 44) ∨ ¬ j < s.size := by
                        by_cases hh : j < s.size
                        · by_cases h5 : gt s j = 125
                          · exact .inl ⟨hh, h5⟩
                          · by_cases h6 : gt s j = 44
                            · exact .inr (.inl ⟨hh, h6⟩)
                            · exact .inr (.inr (.inl ⟨hh, h5, h6⟩))
                        · exact .inr (.inr (.inr hh))
                      rcases hjcase with ⟨hjl, h5⟩ | ⟨hjl, h6⟩ | ⟨hjl, h5, h6⟩ | hjl
                      · have hxj : ((s[j]).toNat : Int) = 125 := by rw [← gt_lt hjl, h5]
                        have tj : ((j : Int) == (s.size : Int)) = false := by simp; omega
                        have tj' : (j == s.size) = false := by simp; omega
                        have HR5 := hid_of (HWW.out.symm.trans (wf_close HEE.out.symm HEM.out HN1.out HIN.out HJ.out.symm h5))
                        have HJL := hid_of hjl
                        have RE5_ : Hid (∀ xo3 n3 c3 w3, (n3 = (acc ++ [cut s st e]).length ∧ Ow 9 w.heap.size w w3 (.slice xo3 n3 c3) (ss (acc ++ [cut s st e]))) → Calls Try.prog 50 #[.string s, .int .i64 ((j : Int) + 1), .slice xo3 n3 c3] w3 (PPost RES w3)) := hid_of (fun xo3 n3 c3 w3 h => by
                          rw [HR5.out]
                          have hl5 : (acc ++ [cut s st e]).length ≤ 1000000 := by rw [List.length_append]; have := hw.out.2.2.1; have := HF.out; have := HEM.out; simp; omega
                          exact rend_any s (j + 1) xo3 n3 c3 _ w3 hs (by omega) (h.2.rd (by rw [ss_length]; omega)) hl5)
                        clear h5
                        go_wp2_with (first
                          | (go_at_call 39; ((with_reducible refine (LE.out _).mono ?_); (rintro ee w' ⟨rfl, rfl⟩)))
                          | (go_at_call 14; ((with_reducible refine (VC.out _).mono ?_); (rintro ee w' ⟨rfl, rfl⟩)))
                          | (go_at_call 22; ((with_reducible refine (HAS2.out).mono ?_); (rintro ee w' ⟨rfl, rfl⟩)))
                          | (at_builtin; ((refine wpList_app strsE rfl _ _ rfl (v := .slice xo acc.length xc) rfl (how.out.alloc _) (vx := .slice (some ⟨wo.heap.size, 0, none⟩) 1 1) rfl (m := ss [cut s st e]) (rd_new rfl (by rw [← HCUT.out]; rfl) (by simp [ss])) (ss_one _) (by rw [ss_length, ss_len1]; have := HAL.out; omega) (by rw [ss_length, ss_len1]; have := HAL.out; omega) ?_); intro xo3 n3 c3 w3 hn3 h3; have X3 : Hid (n3 = (acc ++ [cut s st e]).length ∧ Ow 9 w.heap.size w w3 (.slice xo3 n3 c3) (ss (acc ++ [cut s st e]))) := hid_of ⟨by rw [hn3, ss_length, ss_len1]; simp, by rw [ss_append]; exact h3⟩; clear h3 hn3))
                          | (go_at_call 49; (first
                            | ((with_reducible refine (SKE.out _).mono ?_); (rintro ee w' ⟨rfl, rfl⟩))
                            | ((with_reducible refine (SKN.out _).mono ?_); (rintro ee w' ⟨rfl, rfl⟩))))
                          | (go_at_call 50; ((with_reducible refine (RE5_.out xo3 n3 c3 w3 X3.out).mono ?_); (rintro ee w5 ⟨xo5, xc5, rfl, h1⟩; have O5 := hid_of h1; clear h1))))
                        go_ret3
                        exact ppost_step ⟨xo5, xc5, rfl, O5.out⟩ (X3.out.2.bel)
                      · have hxj : ((s[j]).toNat : Int) = 44 := by rw [← gt_lt hjl, h6]
                        have tj : ((j : Int) == (s.size : Int)) = false := by simp; omega
                        have tj' : (j == s.size) = false := by simp; omega
                        have HR5 := hid_of ((wf_comma HEE.out.symm HEM.out HN1.out HIN.out HJ.out.symm h6).symm.trans HWW.out)
                        obtain ⟨st2, hst2⟩ : ∃ t, t = sk s (j + 1) := ⟨_, rfl⟩
                        have SKN : Hid (∀ w, Calls Try.prog 49 #[.string s, .int .i64 ((j : Int) + 1)] w fun ee w' => ee = .returned (.int .i64 (st2 : Nat)) ∧ w = w') := hid_of (fun w => by rw [hst2]; exact SK.out (j + 1) w (by omega))
                        have HS2 : Hid (j + 1 ≤ st2 ∧ st2 ≤ s.size ∧ sk s st2 = st2 ∧ st2 = sk s (j + 1)) := hid_of ⟨by rw [hst2]; exact (sk_spec s (j + 1)).2.1, by rw [hst2]; exact (sk_spec s (j + 1)).2.2.1 (by omega), by rw [hst2, sk_idem], hst2⟩
                        have HJL := hid_of hjl
                        clear h6 hst2
                        go_wp2_with (first
                          | (go_at_call 39; ((with_reducible refine (LE.out _).mono ?_); (rintro ee w' ⟨rfl, rfl⟩)))
                          | (go_at_call 14; ((with_reducible refine (VC.out _).mono ?_); (rintro ee w' ⟨rfl, rfl⟩)))
                          | (go_at_call 22; ((with_reducible refine (HAS2.out).mono ?_); (rintro ee w' ⟨rfl, rfl⟩)))
                          | (at_builtin; ((refine wpList_app strsE rfl _ _ rfl (v := .slice xo acc.length xc) rfl (how.out.alloc _) (vx := .slice (some ⟨wo.heap.size, 0, none⟩) 1 1) rfl (m := ss [cut s st e]) (rd_new rfl (by rw [← HCUT.out]; rfl) (by simp [ss])) (ss_one _) (by rw [ss_length, ss_len1]; have := HAL.out; omega) (by rw [ss_length, ss_len1]; have := HAL.out; omega) ?_); intro xo3 n3 c3 w3 hn3 h3; have X3 : Hid (n3 = (acc ++ [cut s st e]).length ∧ Ow 9 w.heap.size w w3 (.slice xo3 n3 c3) (ss (acc ++ [cut s st e]))) := hid_of ⟨by rw [hn3, ss_length, ss_len1]; simp, by rw [ss_append]; exact h3⟩; clear h3 hn3))
                          | (go_at_call 49; (first
                            | ((with_reducible refine (SKE.out _).mono ?_); (rintro ee w' ⟨rfl, rfl⟩))
                            | ((with_reducible refine (SKN.out _).mono ?_); (rintro ee w' ⟨rfl, rfl⟩))))
                          | (go_at_call 50; ((with_reducible refine (RE5_.out xo3 n3 c3 w3 X3.out).mono ?_); (rintro ee w5 ⟨xo5, xc5, rfl, h1⟩; have O5 := hid_of h1; clear h1))))
                        go_roundw
                        case rel => exact ⟨st2, d', acc ++ [cut s st e], xo3, c3, _, rfl, rfl, HS2.out.2.1, by rw [X3.out.1], hid_of ⟨HS2.out.2.2.1, by have := hw.out.2.1; have := HS2.out.1; have := HF.out; have := HJL.out; omega, by rw [List.length_append]; have := hw.out.2.2.1; have := HS2.out.1; have := HF.out; have := HEM.out; simp; omega, by rw [HS2.out.2.2.2]; exact HR5.out⟩, hid_of (by rw [← X3.out.1]; exact X3.out.2)⟩
                        case measure => have := HS2.out; have := HF.out; simp [intOf]; omega
                      · obtain ⟨xj_, hxj_⟩ : ∃ x : Int, x = ((s[j]).toNat : Int) := ⟨_, rfl⟩
                        have hxj : ((s[j]).toNat : Int) = xj_ := hxj_.symm
                        have u1 : (xj_ != 44) = true := by rw [bne_iff_ne, hxj_, ← gt_lt hjl]; exact h6
                        have u2 : (xj_ != 125) = true := by rw [bne_iff_ne, hxj_, ← gt_lt hjl]; exact h5
                        have tj : ((j : Int) == (s.size : Int)) = false := by simp; omega
                        have tj' : (j == s.size) = false := by simp; omega
                        have HR5 := hid_of (HWW.out.symm.trans (wf_other HEE.out.symm HEM.out HN1.out HIN.out HJ.out.symm h5 h6))
                        clear h5 h6 hxj_
                        go_wp2_with (first
                          | (go_at_call 39; ((with_reducible refine (LE.out _).mono ?_); (rintro ee w' ⟨rfl, rfl⟩)))
                          | (go_at_call 14; ((with_reducible refine (VC.out _).mono ?_); (rintro ee w' ⟨rfl, rfl⟩)))
                          | (go_at_call 22; ((with_reducible refine (HAS2.out).mono ?_); (rintro ee w' ⟨rfl, rfl⟩)))
                          | (at_builtin; ((refine wpList_app strsE rfl _ _ rfl (v := .slice xo acc.length xc) rfl (how.out.alloc _) (vx := .slice (some ⟨wo.heap.size, 0, none⟩) 1 1) rfl (m := ss [cut s st e]) (rd_new rfl (by rw [← HCUT.out]; rfl) (by simp [ss])) (ss_one _) (by rw [ss_length, ss_len1]; have := HAL.out; omega) (by rw [ss_length, ss_len1]; have := HAL.out; omega) ?_); intro xo3 n3 c3 w3 hn3 h3; have X3 : Hid (n3 = (acc ++ [cut s st e]).length ∧ Ow 9 w.heap.size w w3 (.slice xo3 n3 c3) (ss (acc ++ [cut s st e]))) := hid_of ⟨by rw [hn3, ss_length, ss_len1]; simp, by rw [ss_append]; exact h3⟩; clear h3 hn3))
                          | (go_at_call 49; (first
                            | ((with_reducible refine (SKE.out _).mono ?_); (rintro ee w' ⟨rfl, rfl⟩))
                            | ((with_reducible refine (SKN.out _).mono ?_); (rintro ee w' ⟨rfl, rfl⟩))))
                          | (go_at_call 50; ((with_reducible refine (RE5_.out xo3 n3 c3 w3 X3.out).mono ?_); (rintro ee w5 ⟨xo5, xc5, rfl, h1⟩; have O5 := hid_of h1; clear h1))))
                        go_ret3
                        exact ppost_bad HR5.out X3.out.2.bel
                      · have tj : ((j : Int) == (s.size : Int)) = true := by have := HJ9.out; simp; omega
                        have tj' : (j == s.size) = true := by have := HJ9.out; simp; omega
                        have HR5 := hid_of (HWW.out.symm.trans (wf_other HEE.out.symm HEM.out HN1.out HIN.out HJ.out.symm (by rw [gt_ge hjl]; decide) (by rw [gt_ge hjl]; decide)))
                        clear hjl
                        go_wp2_with (first
                          | (go_at_call 39; ((with_reducible refine (LE.out _).mono ?_); (rintro ee w' ⟨rfl, rfl⟩)))
                          | (go_at_call 14; ((with_reducible refine (VC.out _).mono ?_); (rintro ee w' ⟨rfl, rfl⟩)))
                          | (go_at_call 22; ((with_reducible refine (HAS2.out).mono ?_); (rintro ee w' ⟨rfl, rfl⟩)))
                          | (at_builtin; ((refine wpList_app strsE rfl _ _ rfl (v := .slice xo acc.length xc) rfl (how.out.alloc _) (vx := .slice (some ⟨wo.heap.size, 0, none⟩) 1 1) rfl (m := ss [cut s st e]) (rd_new rfl (by rw [← HCUT.out]; rfl) (by simp [ss])) (ss_one _) (by rw [ss_length, ss_len1]; have := HAL.out; omega) (by rw [ss_length, ss_len1]; have := HAL.out; omega) ?_); intro xo3 n3 c3 w3 hn3 h3; have X3 : Hid (n3 = (acc ++ [cut s st e]).length ∧ Ow 9 w.heap.size w w3 (.slice xo3 n3 c3) (ss (acc ++ [cut s st e]))) := hid_of ⟨by rw [hn3, ss_length, ss_len1]; simp, by rw [ss_append]; exact h3⟩; clear h3 hn3))
                          | (go_at_call 49; (first
                            | ((with_reducible refine (SKE.out _).mono ?_); (rintro ee w' ⟨rfl, rfl⟩))
                            | ((with_reducible refine (SKN.out _).mono ?_); (rintro ee w' ⟨rfl, rfl⟩))))
                          | (go_at_call 50; ((with_reducible refine (RE5_.out xo3 n3 c3 w3 X3.out).mono ?_); (rintro ee w5 ⟨xo5, xc5, rfl, h1⟩; have O5 := hid_of h1; clear h1))))
                        go_ret3
                        exact ppost_bad HR5.out X3.out.2.bel
            · have hwk := we_spec s k
              rw [hwe.out] at hwk
              have hklt : k < e := by have := hwk.2.1; omega
              have hin : inw (gt s k) = true := hwk.2.2.2 k (Nat.le_refl _) hklt
              have hks : k < s.size := by omega
              have dk : decide (k < s.size) = true := by simp; omega
              obtain ⟨xk, hxk_⟩ : ∃ x : Int, x = ((s[k]).toNat : Int) := ⟨_, rfl⟩
              have hxk : ((s[k]).toNat : Int) = xk := hxk_.symm
              have LK : Hid (∀ w, Calls Try.prog 39 #[.int .u8 xk] w fun e w' => e = .returned (.bool true) ∧ w = w') := hid_of (fun w => by
                have := rletter_any xk w
                rw [hxk_, ← gt_lt hks, hin] at this
                rw [hxk_, ← gt_lt hks]
                exact this.mono fun _ _ h => ⟨h.1, h.2.symm⟩)
              have STEP : Hid (we s (k + 1) = e) := hid_of (by rw [← hwe.out]; exact (runF_go hks hin).symm)
              subst hnv
              clear hxk_ hin hwk
              go_wp2_with (go_at_call 39; ((with_reducible refine (LK.out _).mono ?_); (rintro ee w' ⟨rfl, rfl⟩)))
              go_round
              case rel => exact ⟨k + 1, by go_num, by omega, by omega, STEP⟩
              case measure => simp [intOf]; omega
  · have HRES : Hid (RES = bad a 2) := hid_of (by rw [hR, parseF, ← HA.out, if_pos h1])
    clear hR
    have hcase : (a < s.size ∧ gt s a ≠ 123) ∨ ¬ a < s.size := by
      by_cases hh : a < s.size
      · exact .inl ⟨hh, h1⟩
      · exact .inr hh
    clear h1
    rcases hcase with ⟨hal, h1⟩ | hal
    all_goals
      first
        | (have ta : ((a : Int) == (s.size : Int)) = false := (by simp; omega); have ta' : (a == s.size) = false := (by simp; omega); obtain ⟨xa_, hxa_⟩ : ∃ x : Int, x = ((s[a]).toNat : Int) := ⟨_, rfl⟩; have hxa : ((s[a]).toNat : Int) = xa_ := hxa_.symm; have tx : (xa_ != 123) = true := (by rw [bne_iff_ne, hxa_, ← gt_lt hal]; exact h1); clear hxa_ h1)
        | (have ta : ((a : Int) == (s.size : Int)) = true := (by simp; omega); have ta' : (a == s.size) = true := (by simp; omega))
      go_enter Try.func35, Try.ntmps35
      go_wp2_with (go_at_call 49; ((with_reducible refine (SK0'.out).mono ?_); (rintro ee w' ⟨rfl, rfl⟩)))
      go_ret3
      exact ppost_bad HRES.out (Below.refl _ _)
end Go.Proofs.Ytkpblmmgaglhoaa
