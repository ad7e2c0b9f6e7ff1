/- The search for the down-closed sets of package order, as a contract over what a visit keeps. Bounds on sizes alone. -/
import Derived.Test.YtjfjcgbdpjpodaaDoorOrdLst
namespace Go.Proofs.YtjfjcgbdpjpodaaDoor
open Go.RowKit

/-- Visits, one after the other, till one says no: what has been visited, and whether all said yes. -/
def prc (ok : List Nat → Bool) : List Nat → List Nat → List Nat × Bool
  | d, [] => (d, true)
  | d, c :: r => if ok (d ++ [c]) then prc ok (d ++ [c]) r else (d ++ [c], false)
theorem prc_app (ok : List Nat → Bool) : ∀ (a d b : List Nat), prc ok d (a ++ b) = if (prc ok d a).2 then prc ok (prc ok d a).1 b else prc ok d a
  | [], d, b => by simp [prc]
  | c :: r, d, b => by
    rw [List.cons_append, prc, prc]
    by_cases h : ok (d ++ [c]) = true
    · rw [if_pos h, if_pos h, prc_app ok r]
    · rw [if_neg h, if_neg h]; simp
theorem prc_true (ok : List Nat → Bool) : ∀ (L d : List Nat), (prc ok d L).2 = true → (prc ok d L).1 = d ++ L
  | [], d, _ => by simp [prc]
  | c :: r, d, h => by
    rw [prc] at h ⊢
    by_cases hk : ok (d ++ [c]) = true
    · rw [if_pos hk] at h ⊢
      rw [prc_true ok r _ h, List.append_assoc]; rfl
    · rw [if_neg hk] at h; cases h
def ext (A B : Nat → Nat) (f c l o : Nat) : List Nat := (if l = 0 then [c] else []) ++ lp A B f c l o
theorem els_less {o p : Nat} {e : Nat} (he : e < 64) (ho : o.testBit e = true) (hs : ∀ j, p.testBit j = true → o.testBit j = true ∧ j ≠ e) : (els p).length < (els o).length :=
  cnt_lt 64 (fun j _ hj => (hs j hj).1) ⟨e, he, ho, by
    cases h : p.testBit e
    · rfl
    · exact absurd rfl (hs e h).2⟩
theorem els_mns {o x : Nat} (h0 : o ≠ 0) (ho : o < M64) (hx : x < M64) (hb : x.testBit (low o) = true) : (els (mns o x)).length < (els o).length :=
  els_less (low_lt h0 ho) (bit_low h0 ho) fun j hj => by
    rw [mns_bit ho hx] at hj
    simp only [Bool.and_eq_true, Bool.not_eq_true'] at hj
    refine ⟨hj.1, ?_⟩
    rintro rfl
    rw [hb] at hj
    cases hj.2
/-- One round of the search. -/
theorem lp_round (A B : Nat → Nat) (f c l o : Nat) (h0 : o ≠ 0) : lp A B (f + 1) c l o = ext A B f (c ||| sg (low o)) (mns (l ||| B (low o)) (c ||| sg (low o))) (mns o (sg (low o))) ++ (if l.testBit (low o) then [] else lp A B f c l (mns o (sg (low o) ||| A (low o)))) := by
  rw [lp, if_neg h0]; rfl
theorem lp_stop (A B : Nat → Nat) (f c l : Nat) : lp A B f c l 0 = [] := by cases f <;> simp [lp]

/-- What the search needs of the world, and what a visit keeps. -/
structure ExI (b n vb xb rv gv : Nat) (lbs : Array Value) (A B : Nat → Nat) (wx : World) : Prop where
  rl : RL wx b n A B
  tb : Tb wx
  v : wx.cell? ⟨vb, 0, none⟩ = some (.func (.func gv) #[] lbs)
  x : wx.cell? ⟨xb, 0, none⟩ = some (.func (.func 77) #[] #[.pointer (some ⟨vb, 0, none⟩), .pointer (some ⟨xb, 0, none⟩), .pointer (some ⟨rv, 0, none⟩)])
  r : wx.cell? ⟨rv, 0, none⟩ = some (.pointer (some ⟨b, 0, none⟩))

set_option maxRecDepth 100000 in
set_option maxHeartbeats 6400000 in
theorem ext_any (b n vb xb rv gv : Nat) (lbs : Array Value) (A B : Nat → Nat) (eg : ∀ args w, (callFunc gv args).run Tryd.prog w = .ok (.enter gv args) w) (hA : ∀ i, A i < M64) (hB : ∀ i, B i < M64) (ok : List Nat → Bool) (I : List Nat → World → Prop) (N : Nat)
    (hI : ∀ d wx, I d wx → ExI b n vb xb rv gv lbs A B wx) (hD : ∀ d wx k, I d wx → I d (wx.drewN k))
    (hV : ∀ d c wx, d.length < N → c < M64 → I d wx → Calls Tryd.prog gv (#[.int .u64 (c : Nat)] ++ lbs) wx fun e w' => e = .returned (.bool (ok (d ++ [c]))) ∧ I (d ++ [c]) w') :
    ∀ F f, f < F → ∀ (c l o : Nat) (d : List Nat) (w : World), c < M64 → l < M64 → o < M64 → (els o).length ≤ f → d.length + (ext A B f c l o).length ≤ N → I d w →
      Calls Tryd.prog 77 #[.int .u64 c, .int .u64 l, .int .u64 o, .pointer (some ⟨vb, 0, none⟩), .pointer (some ⟨xb, 0, none⟩), .pointer (some ⟨rv, 0, none⟩)] w fun e w' => e = .returned (.bool (prc ok d (ext A B f c l o)).2) ∧ I (prc ok d (ext A B f c l o)).1 w' := by
  intro F
  induction F with
  | zero => intro f hf; omega
  | succ F ih =>
    intro f hf c l o d w hc hl ho hfo hN hd
    have HI := hid_of hI
    have HD := hid_of hD
    have HV := hid_of hV
    have HA := hid_of hA
    have HB := hid_of hB
    have IH := hid_of ih
    obtain ⟨R, hR⟩ : ∃ R, R = prc ok d (ext A B f c l o) := ⟨_, rfl⟩
    rw [← hR]
    have HC := hid_of hc
    have HL := hid_of hl
    have HO := hid_of ho
    have HFO := hid_of hfo
    have H0 := hid_of hd
    have hmf : ∀ (fn : Fn) (first cap : Array Value) (w : World), (Instr.makeFunc fn first cap).run Tryd.prog w = .ok (.func fn first cap) w := fun _ _ _ _ => rfl
    have cv := (hI d w hd).v
    by_cases hl0 : l = 0
    · have hdl : ((l : Int) == 0) = true := by simp; omega
      have HR1 : Hid (R = if ok (d ++ [c]) then prc ok (d ++ [c]) (lp A B f c l o) else (d ++ [c], false)) := hid_of (by rw [hR, ext, if_pos hl0]; rfl)
      have HVC := hid_of (hV d c w (by rw [ext, if_pos hl0] at hN; simp at hN; omega) hc hd)
      have HNL : Hid ((d ++ [c]).length + (lp A B f c l o).length ≤ N) := hid_of (by rw [ext, if_pos hl0] at hN; simp at hN ⊢; omega)
      have HFF := hid_of hf
      clear hI hD hV hA hB ih hR hc hl ho hfo hd hl0 hf hN
      obtain ⟨q, hq⟩ : ∃ q, q = ok (d ++ [c]) := ⟨_, rfl⟩
      rw [← hq] at HR1 HVC
      clear hq
      cases q
      · go_enter Tryd.func77, Tryd.ntmps77
        go_wp2_with (go_at_fn gv; go_loud (refine (HVC.out).mono ?_; rintro x w2 ⟨rfl, h2⟩; have H2 := hid_of h2; clear h2))
        go_ret
        exact ⟨by rw [HR1.out]; rfl, by rw [HR1.out]; exact H2.out⟩
      · go_enter Tryd.func77, Tryd.ntmps77
        go_wp2_with (go_at_fn gv; go_loud (refine (HVC.out).mono ?_; rintro x w2 ⟨rfl, h2⟩; have H2 := hid_of h2; clear h2))
        have HRL : Hid (R = prc ok (d ++ [c]) (lp A B f c l o)) := hid_of (by rw [HR1.out]; rfl)
        have H1 := H2

        go_loopw [2] (fun ov wr => ∃ (o : Nat) (g : Nat) (d : List Nat), ov = .int .u64 o ∧ Hid (o < M64 ∧ g < F + 1 ∧ (els o).length ≤ g ∧ R = prc ok d (lp A B g c l o) ∧ I d wr ∧ d.length + (lp A B g c l o).length ≤ N)) (fun ov _ => (els (intOf ov).toNat).length)
        case atStart => exact ⟨o, f, _, rfl, hid_of ⟨HO.out, HFF.out, HFO.out, HRL.out, H1.out, HNL.out⟩⟩
        case round =>
          clear HRL H1 HNL
          obtain ⟨o, g, d, rfl, hs⟩ := hrel
          by_cases ho0 : o = 0
          · subst ho0
            have HE : Hid (R = (d, true)) := hid_of (by rw [hs.out.2.2.2.1, lp_stop]; rfl)
            have HW := hid_of hs.out.2.2.2.2.1
            clear hs
            go_wp2
            go_ret
            exact ⟨by rw [HE.out]; rfl, by rw [HE.out]; exact HW.out⟩
          · have hdo : ((o : Int) != 0) = true := by simp; omega
            obtain ⟨g, rfl⟩ : ∃ g', g = g' + 1 := ⟨g - 1, by
              have h1 := hs.out.2.2.1
              have h2 : low o ∈ els o := mem_els.2 ⟨low_lt ho0 hs.out.1, bit_low ho0 hs.out.1⟩
              have := List.length_pos_of_mem h2
              omega⟩
            have hx := HI.out d wr hs.out.2.2.2.2.1
            have hlt := low_lt ho0 hs.out.1
            have hsl := els_mns ho0 hs.out.1 (sg_lt (low o)) (by rw [sg_bit hlt]; simp)
            have hsl2 := els_mns ho0 hs.out.1 (or_lt (sg_lt (low o)) (HA.out (low o))) (by rw [Nat.testBit_or, sg_bit hlt]; simp)
            have HRR : Hid (R = prc ok d (ext A B g (c ||| sg (low o)) (mns (l ||| B (low o)) (c ||| sg (low o))) (mns o (sg (low o))) ++ (if l.testBit (low o) then [] else lp A B g c l (mns o (sg (low o) ||| A (low o)))))) := hid_of (by rw [hs.out.2.2.2.1, lp_round A B g c l o ho0])
            have HNN : Hid (d.length + ((ext A B g (c ||| sg (low o)) (mns (l ||| B (low o)) (c ||| sg (low o))) (mns o (sg (low o)))).length + (if l.testBit (low o) then [] else lp A B g c l (mns o (sg (low o) ||| A (low o)))).length) ≤ N) := hid_of (by have := hs.out.2.2.2.2.2; rw [lp_round A B g c l o ho0, List.length_append] at this; exact this)
            have LE : Hid (Calls Tryd.prog 44 #[.int .u64 o] wr fun x w' => x = .returned (.int .i64 (low o)) ∧ wr = w') := hid_of (least_any o hs.out.1 wr hx.tb)
            have HOL : Hid (low o < 64 ∧ o < M64 ∧ g < F ∧ (els (mns o (sg (low o)))).length ≤ g ∧ (els (mns o (sg (low o) ||| A (low o)))).length ≤ g ∧ (els (mns o (sg (low o) ||| A (low o)))).length < (els o).length) := hid_of ⟨hlt, hs.out.1, by have := hs.out.2.1; omega, by have := hs.out.2.2.1; omega, by have := hs.out.2.2.1; omega, hsl2⟩
            obtain ⟨e, he⟩ : ∃ e, e = low o := ⟨_, rfl⟩
            rw [← he] at HRR HNN LE HOL
            have be1 : (e : Int) < 64 := by have := HOL.out.1; omega
            have be0 : (0 : Int) ≤ (e : Int) := by omega
            have SG : Hid (∀ wx, Calls Tryd.prog 45 #[.int .i64 e] wx fun x w' => x = .returned (.int .u64 (sg e : Nat)) ∧ wx = w') := hid_of (fun wx => single_any e (by have := HOL.out.1; omega) wx)
            have SGQ : Hid (∀ wx, Calls Tryd.prog 45 #[.int .i64 e] wx fun x w' => x = .returned (.int .u64 (sg e : Nat)) ∧ w' = wx) := hid_of (fun wx => (single_any e (by have := HOL.out.1; omega) wx).mono fun _ _ ⟨h1, h2⟩ => ⟨h1, h2.symm⟩)
            obtain ⟨se, hse⟩ : ∃ x, x = sg e := ⟨_, rfl⟩
            have hse9 : se < M64 := by rw [hse]; exact sg_lt e
            rw [← hse] at HRR HNN SG SGQ HOL
            have eq1 := u64_or_nat c se HC.out hse9
            obtain ⟨wi, hwi⟩ : ∃ x, x = c ||| se := ⟨_, rfl⟩
            have hwi9 : wi < M64 := by rw [hwi]; exact or_lt HC.out hse9
            rw [← hwi] at HRR HNN eq1
            have eq2 := u64_or_nat l (B e) HL.out (HB.out e)
            obtain ⟨lb, hlb⟩ : ∃ x, x = l ||| B e := ⟨_, rfl⟩
            have hlb9 : lb < M64 := by rw [hlb]; exact or_lt HL.out (HB.out e)
            rw [← hlb] at HRR HNN eq2
            have eq3 : bits .andNot .u64 (lb : Int) (wi : Int) = ((mns lb wi : Nat) : Int) := u64_andNot_nat lb wi hlb9 hwi9
            obtain ⟨l2, hl2⟩ : ∃ x, x = mns lb wi := ⟨_, rfl⟩
            have hl29 : l2 < M64 := by rw [hl2]; exact mns_lt hlb9
            rw [← hl2] at HRR HNN eq3
            have eq4 : bits .andNot .u64 (o : Int) (se : Int) = ((mns o se : Nat) : Int) := u64_andNot_nat o se HOL.out.2.1 hse9
            obtain ⟨o2, ho2⟩ : ∃ x, x = mns o se := ⟨_, rfl⟩
            have ho29 : o2 < M64 := by rw [ho2]; exact mns_lt HOL.out.2.1
            rw [← ho2] at HRR HNN eq4 HOL
            have eq5 := u64_or_nat se (A e) hse9 (HA.out e)
            obtain ⟨sa, hsa⟩ : ∃ x, x = se ||| A e := ⟨_, rfl⟩
            have hsa9 : sa < M64 := by rw [hsa]; exact or_lt hse9 (HA.out e)
            rw [← hsa] at HRR HNN eq5 HOL
            have eq6 : bits .andNot .u64 (o : Int) (sa : Int) = ((mns o sa : Nat) : Int) := u64_andNot_nat o sa HOL.out.2.1 hsa9
            obtain ⟨o3, ho3⟩ : ∃ x, x = mns o sa := ⟨_, rfl⟩
            have ho39 : o3 < M64 := by rw [ho3]; exact mns_lt HOL.out.2.1
            rw [← ho3] at HRR HNN eq6 HOL
            have HO3 := hid_of ho39
            have k1 := hx.x
            have k2 := hx.r
            have k3 := hx.rl.cb HOL.out.1
            obtain ⟨Be, hBe⟩ : ∃ x, x = B e := ⟨_, rfl⟩
            obtain ⟨Ae, hAe⟩ : ∃ x, x = A e := ⟨_, rfl⟩
            rw [← hBe] at k3 eq2
            rw [← hAe] at eq5
            have HAE := hid_of hAe
            have HIN := hid_of hs.out.2.2.2.2.1
            obtain ⟨P1, hP1⟩ : ∃ P, P = prc ok d (ext A B g wi l2 o2) := ⟨_, rfl⟩
            have HRS : Hid (R = if P1.2 then prc ok P1.1 (if l.testBit e then [] else lp A B g c l o3) else P1) := hid_of (by rw [HRR.out, prc_app, hP1])
            have EXT : Hid (∀ wx, I d wx → Calls Tryd.prog 77 #[.int .u64 wi, .int .u64 l2, .int .u64 o2, .pointer (some ⟨vb, 0, none⟩), .pointer (some ⟨xb, 0, none⟩), .pointer (some ⟨rv, 0, none⟩)] wx fun e w' => e = .returned (.bool P1.2) ∧ I P1.1 w') := hid_of (fun wx h => by rw [hP1]; exact IH.out g HOL.out.2.2.1 wi l2 o2 d wx hwi9 hl29 ho29 HOL.out.2.2.2.1 (by have := HNN.out; omega) h)
            have HAS : Hid (∀ wx, Calls Tryd.prog 67 #[.int .u64 l, .int .i64 e] wx fun x w' => x = .returned (.bool (l.testBit e)) ∧ wx = w') := hid_of (fun wx => has_any l e HL.out HOL.out.1 wx)
            obtain ⟨tb, htb⟩ : ∃ t, t = l.testBit e := ⟨_, rfl⟩
            rw [← htb] at HAS HRS HNN
            have HPT : Hid (P1.2 = true → P1.1 = d ++ ext A B g wi l2 o2) := hid_of (fun h => by rw [hP1] at h ⊢; exact prc_true ok _ _ h)
            obtain ⟨D1, b1⟩ := P1
            clear hs hx hlt hsl hsl2 HRR he hse hwi hlb hl2 ho2 hsa ho3 hBe hAe hP1 htb ho0 hse9 hwi9 hlb9 hl29 ho29 hsa9
            go_wp2_with (first
              | (go_at_call 44; ((with_reducible refine (LE.out).mono ?_); (rintro ee w3 ⟨rfl, rfl⟩)))
              | (go_at_call 45; ((with_reducible refine (SG.out _).mono ?_); (rintro ee w3 ⟨rfl, rfl⟩))))
            refine wp_region_still_tail 16 (by kernel_rfl) (by kernel_rfl) ?_
            simp only [List.take_succ_cons, List.take_zero, List.drop_succ_cons, List.drop_zero]
            repeat still_step
            refine wpStill_step (fun K hK => ?_)
            go_simp
            refine ⟨_, still_of (SG.out _), hK _ ?_⟩
            clear hK K
            repeat still_step
            refine wpStill_nil ?_
            have EXD := hid_of (EXT.out wr.drew (HD.out d wr 1 HIN.out))
            change wpList _ _ _ _ _ wr.drew
            generalize wr.drew = w6 at *
            cases b1
            · go_wp2_with (go_at_call 77; ((with_reducible refine (EXD.out).mono ?_); (rintro ee w7 ⟨rfl, h7⟩; have H7 := hid_of h7; clear h7)))
              go_ret
              exact ⟨by rw [HRS.out]; rfl, by rw [HRS.out]; exact H7.out⟩
            · cases tb
              · go_wp2_with (first
                  | (go_at_call 77; ((with_reducible refine (EXD.out).mono ?_); (rintro ee w7 ⟨rfl, h7⟩; have H7 := hid_of h7; have X7 := HI.out _ _ h7; have k4 := X7.r; have k5 := X7.rl.ca HOL.out.1; rw [← HAE.out] at k5; clear h7 X7)))
                  | (go_at_call 67; ((with_reducible refine (HAS.out _).mono ?_); (rintro ee w8 ⟨rfl, rfl⟩))))
                go_quiet ((go_at_call 45; exact Calls.quiet_of_same (SGQ.out _)))
                go_wp2
                go_roundw
                case rel => exact ⟨o3, g, D1, rfl, hid_of ⟨HO3.out, by have := HOL.out.2.2.1; omega, HOL.out.2.2.2.2.1, by rw [HRS.out]; rfl, HD.out _ _ _ H7.out, by have h1 : D1 = d ++ ext A B g wi l2 o2 := (by first | exact HPT.out rfl | exact HPT.out trivial | exact HPT.out); rw [h1, List.length_append]; have h2 := HNN.out; rw [if_neg (by simp)] at h2; omega⟩⟩
                case measure => simp [intOf]; have := HOL.out.2.2.2.2.2; omega
              · go_wp2_with (first
                  | (go_at_call 77; ((with_reducible refine (EXD.out).mono ?_); (rintro ee w7 ⟨rfl, h7⟩; have H7 := hid_of h7; clear h7)))
                  | (go_at_call 67; ((with_reducible refine (HAS.out _).mono ?_); (rintro ee w8 ⟨rfl, rfl⟩))))
                go_ret
                exact ⟨by rw [HRS.out]; rfl, by rw [HRS.out]; exact H7.out⟩
    · have hdl : ((l : Int) == 0) = false := by simp; omega
      have HRL : Hid (R = prc ok d (lp A B f c l o)) := hid_of (by rw [hR, ext, if_neg hl0]; rfl)
      have HNL : Hid (d.length + (lp A B f c l o).length ≤ N) := hid_of (by rw [ext, if_neg hl0] at hN; simpa using hN)
      have H1 := H0
      have HFF := hid_of hf
      clear hI hD hV hA hB ih hR hc hl ho hfo hd hl0 hf hN cv
      go_enter Tryd.func77, Tryd.ntmps77
      go_wp2
      go_loopw [2] (fun ov wr => ∃ (o : Nat) (g : Nat) (d : List Nat), ov = .int .u64 o ∧ Hid (o < M64 ∧ g < F + 1 ∧ (els o).length ≤ g ∧ R = prc ok d (lp A B g c l o) ∧ I d wr ∧ d.length + (lp A B g c l o).length ≤ N)) (fun ov _ => (els (intOf ov).toNat).length)
      case atStart => exact ⟨o, f, _, rfl, hid_of ⟨HO.out, HFF.out, HFO.out, HRL.out, H1.out, HNL.out⟩⟩
      case round =>
        clear HRL H1 HNL
        obtain ⟨o, g, d, rfl, hs⟩ := hrel
        by_cases ho0 : o = 0
        · subst ho0
          have HE : Hid (R = (d, true)) := hid_of (by rw [hs.out.2.2.2.1, lp_stop]; rfl)
          have HW := hid_of hs.out.2.2.2.2.1
          clear hs
          go_wp2
          go_ret
          exact ⟨by rw [HE.out]; rfl, by rw [HE.out]; exact HW.out⟩
        · have hdo : ((o : Int) != 0) = true := by simp; omega
          obtain ⟨g, rfl⟩ : ∃ g', g = g' + 1 := ⟨g - 1, by
            have h1 := hs.out.2.2.1
            have h2 : low o ∈ els o := mem_els.2 ⟨low_lt ho0 hs.out.1, bit_low ho0 hs.out.1⟩
            have := List.length_pos_of_mem h2
            omega⟩
          have hx := HI.out d wr hs.out.2.2.2.2.1
          have hlt := low_lt ho0 hs.out.1
          have hsl := els_mns ho0 hs.out.1 (sg_lt (low o)) (by rw [sg_bit hlt]; simp)
          have hsl2 := els_mns ho0 hs.out.1 (or_lt (sg_lt (low o)) (HA.out (low o))) (by rw [Nat.testBit_or, sg_bit hlt]; simp)
          have HRR : Hid (R = prc ok d (ext A B g (c ||| sg (low o)) (mns (l ||| B (low o)) (c ||| sg (low o))) (mns o (sg (low o))) ++ (if l.testBit (low o) then [] else lp A B g c l (mns o (sg (low o) ||| A (low o)))))) := hid_of (by rw [hs.out.2.2.2.1, lp_round A B g c l o ho0])
          have HNN : Hid (d.length + ((ext A B g (c ||| sg (low o)) (mns (l ||| B (low o)) (c ||| sg (low o))) (mns o (sg (low o)))).length + (if l.testBit (low o) then [] else lp A B g c l (mns o (sg (low o) ||| A (low o)))).length) ≤ N) := hid_of (by have := hs.out.2.2.2.2.2; rw [lp_round A B g c l o ho0, List.length_append] at this; exact this)
          have LE : Hid (Calls Tryd.prog 44 #[.int .u64 o] wr fun x w' => x = .returned (.int .i64 (low o)) ∧ wr = w') := hid_of (least_any o hs.out.1 wr hx.tb)
          have HOL : Hid (low o < 64 ∧ o < M64 ∧ g < F ∧ (els (mns o (sg (low o)))).length ≤ g ∧ (els (mns o (sg (low o) ||| A (low o)))).length ≤ g ∧ (els (mns o (sg (low o) ||| A (low o)))).length < (els o).length) := hid_of ⟨hlt, hs.out.1, by have := hs.out.2.1; omega, by have := hs.out.2.2.1; omega, by have := hs.out.2.2.1; omega, hsl2⟩
          obtain ⟨e, he⟩ : ∃ e, e = low o := ⟨_, rfl⟩
          rw [← he] at HRR HNN LE HOL
          have be1 : (e : Int) < 64 := by have := HOL.out.1; omega
          have be0 : (0 : Int) ≤ (e : Int) := by omega
          have SG : Hid (∀ wx, Calls Tryd.prog 45 #[.int .i64 e] wx fun x w' => x = .returned (.int .u64 (sg e : Nat)) ∧ wx = w') := hid_of (fun wx => single_any e (by have := HOL.out.1; omega) wx)
          have SGQ : Hid (∀ wx, Calls Tryd.prog 45 #[.int .i64 e] wx fun x w' => x = .returned (.int .u64 (sg e : Nat)) ∧ w' = wx) := hid_of (fun wx => (single_any e (by have := HOL.out.1; omega) wx).mono fun _ _ ⟨h1, h2⟩ => ⟨h1, h2.symm⟩)
          obtain ⟨se, hse⟩ : ∃ x, x = sg e := ⟨_, rfl⟩
          have hse9 : se < M64 := by rw [hse]; exact sg_lt e
          rw [← hse] at HRR HNN SG SGQ HOL
          have eq1 := u64_or_nat c se HC.out hse9
          obtain ⟨wi, hwi⟩ : ∃ x, x = c ||| se := ⟨_, rfl⟩
          have hwi9 : wi < M64 := by rw [hwi]; exact or_lt HC.out hse9
          rw [← hwi] at HRR HNN eq1
          have eq2 := u64_or_nat l (B e) HL.out (HB.out e)
          obtain ⟨lb, hlb⟩ : ∃ x, x = l ||| B e := ⟨_, rfl⟩
          have hlb9 : lb < M64 := by rw [hlb]; exact or_lt HL.out (HB.out e)
          rw [← hlb] at HRR HNN eq2
          have eq3 : bits .andNot .u64 (lb : Int) (wi : Int) = ((mns lb wi : Nat) : Int) := u64_andNot_nat lb wi hlb9 hwi9
          obtain ⟨l2, hl2⟩ : ∃ x, x = mns lb wi := ⟨_, rfl⟩
          have hl29 : l2 < M64 := by rw [hl2]; exact mns_lt hlb9
          rw [← hl2] at HRR HNN eq3
          have eq4 : bits .andNot .u64 (o : Int) (se : Int) = ((mns o se : Nat) : Int) := u64_andNot_nat o se HOL.out.2.1 hse9
          obtain ⟨o2, ho2⟩ : ∃ x, x = mns o se := ⟨_, rfl⟩
          have ho29 : o2 < M64 := by rw [ho2]; exact mns_lt HOL.out.2.1
          rw [← ho2] at HRR HNN eq4 HOL
          have eq5 := u64_or_nat se (A e) hse9 (HA.out e)
          obtain ⟨sa, hsa⟩ : ∃ x, x = se ||| A e := ⟨_, rfl⟩
          have hsa9 : sa < M64 := by rw [hsa]; exact or_lt hse9 (HA.out e)
          rw [← hsa] at HRR HNN eq5 HOL
          have eq6 : bits .andNot .u64 (o : Int) (sa : Int) = ((mns o sa : Nat) : Int) := u64_andNot_nat o sa HOL.out.2.1 hsa9
          obtain ⟨o3, ho3⟩ : ∃ x, x = mns o sa := ⟨_, rfl⟩
          have ho39 : o3 < M64 := by rw [ho3]; exact mns_lt HOL.out.2.1
          rw [← ho3] at HRR HNN eq6 HOL
          have HO3 := hid_of ho39
          have k1 := hx.x
          have k2 := hx.r
          have k3 := hx.rl.cb HOL.out.1
          obtain ⟨Be, hBe⟩ : ∃ x, x = B e := ⟨_, rfl⟩
          obtain ⟨Ae, hAe⟩ : ∃ x, x = A e := ⟨_, rfl⟩
          rw [← hBe] at k3 eq2
          rw [← hAe] at eq5
          have HAE := hid_of hAe
          have HIN := hid_of hs.out.2.2.2.2.1
          obtain ⟨P1, hP1⟩ : ∃ P, P = prc ok d (ext A B g wi l2 o2) := ⟨_, rfl⟩
          have HRS : Hid (R = if P1.2 then prc ok P1.1 (if l.testBit e then [] else lp A B g c l o3) else P1) := hid_of (by rw [HRR.out, prc_app, hP1])
          have EXT : Hid (∀ wx, I d wx → Calls Tryd.prog 77 #[.int .u64 wi, .int .u64 l2, .int .u64 o2, .pointer (some ⟨vb, 0, none⟩), .pointer (some ⟨xb, 0, none⟩), .pointer (some ⟨rv, 0, none⟩)] wx fun e w' => e = .returned (.bool P1.2) ∧ I P1.1 w') := hid_of (fun wx h => by rw [hP1]; exact IH.out g HOL.out.2.2.1 wi l2 o2 d wx hwi9 hl29 ho29 HOL.out.2.2.2.1 (by have := HNN.out; omega) h)
          have HAS : Hid (∀ wx, Calls Tryd.prog 67 #[.int .u64 l, .int .i64 e] wx fun x w' => x = .returned (.bool (l.testBit e)) ∧ wx = w') := hid_of (fun wx => has_any l e HL.out HOL.out.1 wx)
          obtain ⟨tb, htb⟩ : ∃ t, t = l.testBit e := ⟨_, rfl⟩
          rw [← htb] at HAS HRS HNN
          have HPT : Hid (P1.2 = true → P1.1 = d ++ ext A B g wi l2 o2) := hid_of (fun h => by rw [hP1] at h ⊢; exact prc_true ok _ _ h)
          obtain ⟨D1, b1⟩ := P1
          clear hs hx hlt hsl hsl2 HRR he hse hwi hlb hl2 ho2 hsa ho3 hBe hAe hP1 htb ho0 hse9 hwi9 hlb9 hl29 ho29 hsa9
          go_wp2_with (first
            | (go_at_call 44; ((with_reducible refine (LE.out).mono ?_); (rintro ee w3 ⟨rfl, rfl⟩)))
            | (go_at_call 45; ((with_reducible refine (SG.out _).mono ?_); (rintro ee w3 ⟨rfl, rfl⟩))))
          refine wp_region_still_tail 16 (by kernel_rfl) (by kernel_rfl) ?_
          simp only [List.take_succ_cons, List.take_zero, List.drop_succ_cons, List.drop_zero]
          repeat still_step
          refine wpStill_step (fun K hK => ?_)
          go_simp
          refine ⟨_, still_of (SG.out _), hK _ ?_⟩
          clear hK K
          repeat still_step
          refine wpStill_nil ?_
          have EXD := hid_of (EXT.out wr.drew (HD.out d wr 1 HIN.out))
          change wpList _ _ _ _ _ wr.drew
          generalize wr.drew = w6 at *
          cases b1
          · go_wp2_with (go_at_call 77; ((with_reducible refine (EXD.out).mono ?_); (rintro ee w7 ⟨rfl, h7⟩; have H7 := hid_of h7; clear h7)))
            go_ret
            exact ⟨by rw [HRS.out]; rfl, by rw [HRS.out]; exact H7.out⟩
          · cases tb
            · go_wp2_with (first
                | (go_at_call 77; ((with_reducible refine (EXD.out).mono ?_); (rintro ee w7 ⟨rfl, h7⟩; have H7 := hid_of h7; have X7 := HI.out _ _ h7; have k4 := X7.r; have k5 := X7.rl.ca HOL.out.1; rw [← HAE.out] at k5; clear h7 X7)))
                | (go_at_call 67; ((with_reducible refine (HAS.out _).mono ?_); (rintro ee w8 ⟨rfl, rfl⟩))))
              go_quiet ((go_at_call 45; exact Calls.quiet_of_same (SGQ.out _)))
              go_wp2
              go_roundw
              case rel => exact ⟨o3, g, D1, rfl, hid_of ⟨HO3.out, by have := HOL.out.2.2.1; omega, HOL.out.2.2.2.2.1, by rw [HRS.out]; rfl, HD.out _ _ _ H7.out, by have h1 : D1 = d ++ ext A B g wi l2 o2 := (by first | exact HPT.out rfl | exact HPT.out trivial | exact HPT.out); rw [h1, List.length_append]; have h2 := HNN.out; rw [if_neg (by simp)] at h2; omega⟩⟩
              case measure => simp [intOf]; have := HOL.out.2.2.2.2.2; omega
            · go_wp2_with (first
                | (go_at_call 77; ((with_reducible refine (EXD.out).mono ?_); (rintro ee w7 ⟨rfl, h7⟩; have H7 := hid_of h7; clear h7)))
                | (go_at_call 67; ((with_reducible refine (HAS.out _).mono ?_); (rintro ee w8 ⟨rfl, rfl⟩))))
              go_ret
              exact ⟨by rw [HRS.out]; rfl, by rw [HRS.out]; exact H7.out⟩
end Go.Proofs.YtjfjcgbdpjpodaaDoor
