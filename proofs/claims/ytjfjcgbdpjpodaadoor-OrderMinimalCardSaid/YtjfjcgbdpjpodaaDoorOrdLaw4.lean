/- The law OrderMinimal. No condition. -/
import Derived.Test.YtjfjcgbdpjpodaaDoorOrdMnm
import Derived.Test.YtjfjcgbdpjpodaaDoorOrdApp
namespace Go.Proofs.YtjfjcgbdpjpodaaDoor
open Go.RowKit

set_option maxRecDepth 100000 in
set_option maxHeartbeats 6400000 in
theorem orderMinimal_law (n : Int) (ao : Option Addr) (m cap : Nat) (ps : List Tk) (w : World) (hT : Tb w) (hp : TIn w ao m cap ps) :
    Calls Tryd.prog 6 #[.int .i64 n, .slice ao m cap] w fun e w' => e = .returned (.bool true) ∧ Below w.heap.size w w' := by
  have HP := hid_of hp.1
  have HT := hid_of hT
  have HA := hid_of (awake_any w hT)
  obtain ⟨E, hE⟩ : ∃ E, E = errE n ps := ⟨_, rfl⟩
  have HF : Hid (∀ wx, TRd wx (.slice ao m cap) ps → Calls Tryd.prog 22 #[.int .i64 n, .slice ao m cap] wx fun e w' => e = .returned (.int .i64 E) ∧ Below wx.heap.size wx w') := hid_of (fun wx h => by rw [hE]; exact fault_any n ao m cap ps wx h)
  by_cases h0 : E = 0
  · subst h0
    have hC := err_chk hE.symm
    obtain ⟨k, rfl, hk⟩ := chk_nat hC
    have hv := chk_valid hC
    have hac := err_acyc hE.symm
    have G2 : Hid (∀ (yo : Option Addr) (yn yc : Nat) (qs : List Tk) wx, chkE k qs = 0 → TRd wx (.slice yo yn yc) qs → Tb wx → Calls Tryd.prog 16 #[.int .i64 k, .slice yo yn yc] wx fun e w' => ∃ xo j c, e = .returned (.tuple #[.slice xo j c, .int .i64 0]) ∧ j = (cloL k qs).length ∧ TRd w' (.slice xo j c) (cloL k qs) ∧ Below wx.heap.size wx w') := hid_of (fun yo yn yc qs wx hq h ht => closure_any k yo yn yc qs wx h ht hq)
    have G3 : Hid (∀ wx, TRd wx (.slice ao m cap) ps → Tb wx → Calls Tryd.prog 23 #[.int .i64 k, .slice ao m cap] wx fun e w' => ∃ xo j c, e = .returned (.tuple #[.slice xo j c, .int .i64 0]) ∧ j = (redL k ps).length ∧ TRd w' (.slice xo j c) (redL k ps) ∧ Below wx.heap.size wx w') := hid_of (fun wx h ht => reduction_any k ao m cap ps wx h ht hE.symm)
    have HCP : Hid (chkE k ps = 0) := hid_of hC
    have HCR : Hid (chkE k (redL k ps) = 0) := hid_of (chk_of hk (red_len hk hv) (red_valid hk hv))
    have HRC : Hid (cloL k (redL k ps) = cloL k ps) := hid_of (red_clo hk hv hac)
    have HLS : Hid (∀ i, i < (redL k ps).length → ∀ l, l = (redL k ps).take i ++ (redL k ps).drop (i + 1) → chkE k l = 0 ∧ cloL k l ≠ cloL k ps) := hid_of (fun i hi l hl => less_spec hk hv hac hi hl)
    have HLN : Hid ((redL k ps).length ≤ 4096) := hid_of (red_len hk hv)
    obtain ⟨L, hL⟩ : ∃ L, L = redL k ps := ⟨_, rfl⟩
    rw [← hL] at G3 HCR HRC HLS HLN
    clear hT hp hE hC hv hac hL
    go_enter Tryd.func6, Tryd.ntmps6
    go_wp2_with (first
      | (go_at_call 13; ((with_reducible refine (HA.out).mono ?_); (rintro ee w1 ⟨rfl, h1⟩; replace HP := hid_of (HP.out.at h1); replace HT := hid_of (HT.out.at h1); have BA := hid_of h1; clear h1)))
      | (go_at_call 22; ((with_reducible refine (HF.out _ HP.out).mono ?_); (rintro ee w2 ⟨rfl, h1⟩; replace HP := hid_of (HP.out.at h1); replace HT := hid_of (HT.out.at h1); replace BA := hid_of (BA.out.trans (h1.mono BA.out.size)); clear h1)))
      | (go_at_call 23; ((with_reducible refine (G3.out _ HP.out HT.out).mono ?_); (rintro ee w4 ⟨ro, rn, rc, rfl, h2, h3, h1⟩; have J4 := hid_of h2; have R4 := hid_of h3; replace C3 := hid_of (C3.out.at h1); replace HT := hid_of (HT.out.at h1); replace BA := hid_of (BA.out.trans (h1.mono BA.out.size)); clear h1 h2 h3)))
      | (go_at_call 16; ((with_reducible refine (G2.out _ _ _ _ _ HCR.out R4.out HT.out).mono ?_); (rintro ee w5 ⟨d_o, dn, dc, rfl, h2, h3, h1⟩; have J5 := hid_of h2; have D5 := hid_of h3; replace R4 := hid_of (R4.out.at h1); replace C3 := hid_of (C3.out.at h1); replace HT := hid_of (HT.out.at h1); replace BA := hid_of (BA.out.trans (h1.mono BA.out.size)); clear h1 h2 h3)))
      | (go_at_call 16; ((with_reducible refine (G2.out _ _ _ _ _ HCP.out HP.out HT.out).mono ?_); (rintro ee w3 ⟨co, cn, cc, rfl, h2, h3, h1⟩; have J3 := hid_of h2; have C3 := hid_of h3; replace HP := hid_of (HP.out.at h1); replace HT := hid_of (HT.out.at h1); replace BA := hid_of (BA.out.trans (h1.mono BA.out.size)); clear h1 h2 h3)))
      | (go_at_call 19; ((with_reducible refine (samePairs_any _ _ _ _ _ _ _ _ _ C3.out D5.out).mono ?_); (rintro ee w8 ⟨rfl, h1⟩; have hdd := HRC.out; replace R4 := hid_of (R4.out.at h1); replace C3 := hid_of (C3.out.at h1); replace HT := hid_of (HT.out.at h1); replace BA := hid_of (BA.out.trans (h1.mono BA.out.size)); clear h1))))
    have HJ := J4.out
    have A6 : Hid (TRd w8 (.slice ro rn rc) L ∧ TRd w8 (.slice co cn cc) (cloL k ps) ∧ Tb w8 ∧ Below w.heap.size w w8) := hid_of ⟨R4.out, C3.out, HT.out, BA.out⟩
    have hrn : rn ≤ 4096 := by rw [HJ]; exact HLN.out
    clear R4 C3 HT BA hdd HJ D5 HP HCP J3 J5 HA HF G3
    go_loopw [11] (fun iv wr => ∃ i : Nat, iv = .int .i64 i ∧ i ≤ rn ∧ Hid (TRd wr (.slice ro rn rc) L ∧ TRd wr (.slice co cn cc) (cloL k ps) ∧ Tb wr ∧ Below w.heap.size w wr)) (fun iv _ => rn - (intOf iv).toNat)
    case atStart => exact ⟨0, rfl, Nat.zero_le _, A6⟩
    case round =>
      clear A6
      obtain ⟨i, rfl, hi, hs⟩ := hrel
      by_cases hlt : i < rn
      · have hd : decide (i < rn) = true := by simp; omega
        obtain ⟨g, o, rfl, hg, _⟩ := hs.out.1.open (by omega)
        have b1 : (i : Int) < (rn : Int) := by omega
        have b0 : (0 : Int) ≤ (i : Int) := by omega
        have hcp := hs.out.1.cut
        have c1 : i ≤ rc := by omega
        have c2 : i + 1 ≤ rn := by omega
        have c3 : rn ≤ rc := by omega
        have HII := hid_of (And.intro (And.intro c1 c2) (And.intro c3 hcp.2.2))
        have O0 : Hid (OT wr.heap.size wr (wr.alloc (.cells #[] 44)).drew (.slice (some ⟨wr.heap.size, 0, none⟩) 0 0) []) := hid_of ((ot_empty wr).later (Below.refl _ _).drew)
        have T0 : Hid (TRd (wr.alloc (.cells #[] 44)).drew (.slice (some ⟨g, o, none⟩) i rc) (L.take i)) := hid_of ((trd_take hs.out.1 (by omega)).at O0.out.bel)
        obtain ⟨j, hj⟩ : ∃ j, j = i + 1 := ⟨_, rfl⟩
        have s1 : IntKind.i64.wrap ((i : Int) + 1) = (j : Int) := by rw [IntWalk.i64_in _ (by omega)]; omega
        have c4 : (j : Int) ≤ (rn : Int) := by omega
        have c5' : (0 : Int) ≤ (j : Int) := by omega
        have T1 : Hid (∀ wx, Below wr.heap.size wr wx → TRd wx (.slice (if rc = j then some ⟨g, o, none⟩ else some ⟨g, o + j * 2, none⟩) (rn - j) (rc - j)) (L.drop j)) := hid_of (fun wx hx => by
          split
          · have := trd_end (i := j) (c := rc - j) (hs.out.1.at hx) (by omega) (by omega)
            rwa [show rn - j = 0 by omega]
          · exact trd_drop (hs.out.1.at hx) (by omega))
        have HLL : Hid ((L.take i).length ≤ 4096 ∧ (L.drop j).length ≤ 4096) := hid_of ⟨by have := HLN.out; rw [List.length_take]; omega, by have := HLN.out; rw [List.length_drop]; omega⟩
        have HLQ := hid_of (HLS.out i (by rw [← J4.out]; exact hlt) _ rfl)
        rw [← hj] at HLQ
        clear hcp hj c2
        go_wp2
        go_region_law (first
          | (refine step_prs (by rfl) _ _ (by rfl) (v := .slice xo5 n5 c5) (by rfl) O5.out (vx := .slice (if rc = j then some ⟨g, o, none⟩ else some ⟨g, o + j * 2, none⟩) (rn - j) (rc - j)) (by rfl) (T1.out _ O5.out.bel) (by have := HLL.out; simp only [List.nil_append]; omega) ?_; intro xo6 n6 c6 w6 hn6 h6; have O6 := hid_of h6; clear h6 hn6)
          | (refine step_prs (by rfl) _ _ (by rfl) (v := .slice (some ⟨wr.heap.size, 0, none⟩) 0 0) (by rfl) O0.out (vx := .slice (some ⟨g, o, none⟩) i rc) (by rfl) T0.out (by have := HLL.out; simp; omega) ?_; intro xo5 n5 c5 w5 hn5 h5; have O5 := hid_of h5; clear h5 hn5))
        all_goals
          have R6 : Hid (TRd w6 (.slice xo6 n6 c6) (L.take i ++ L.drop j)) := hid_of (by have := O6.out.rd; simpa using this)
          have S6 : Hid (TRd w6 (.slice (some ⟨g, o, none⟩) rn rc) L ∧ TRd w6 (.slice co cn cc) (cloL k ps) ∧ Tb w6 ∧ Below w.heap.size w w6) := hid_of ⟨hs.out.1.at O6.out.bel, hs.out.2.1.at O6.out.bel, hs.out.2.2.1.at O6.out.bel, hs.out.2.2.2.trans (O6.out.bel.mono hs.out.2.2.2.size)⟩
          clear O5 O6 T0 O0 T1 hs s1 c4 c5' c1 c3 HII HLL
          go_wp2_with (first
            | (go_at_call 16; ((with_reducible refine (G2.out _ _ _ _ _ HLQ.out.1 R6.out S6.out.2.2.1).mono ?_); (rintro ee w7 ⟨yo, yn, yc, rfl, h2, h3, h1⟩; have Y7 := hid_of h3; have S7 : Hid (TRd w7 (.slice (some ⟨g, o, none⟩) rn rc) L ∧ TRd w7 (.slice co cn cc) (cloL k ps) ∧ Tb w7 ∧ Below w.heap.size w w7) := hid_of ⟨S6.out.1.at h1, S6.out.2.1.at h1, S6.out.2.2.1.at h1, S6.out.2.2.2.trans (h1.mono S6.out.2.2.2.size)⟩; clear h1 h2 h3)))
            | (go_at_call 19; ((with_reducible refine (samePairs_any _ _ _ _ _ _ _ _ _ Y7.out S7.out.2.1).mono ?_); (rintro ee w8 ⟨he, h1⟩; rw [decide_eq_false HLQ.out.2] at he; subst he; have S8 : Hid (TRd w8 (.slice (some ⟨g, o, none⟩) rn rc) L ∧ TRd w8 (.slice co cn cc) (cloL k ps) ∧ Tb w8 ∧ Below w.heap.size w w8) := hid_of ⟨S7.out.1.at h1, S7.out.2.1.at h1, S7.out.2.2.1.at h1, S7.out.2.2.2.trans (h1.mono S7.out.2.2.2.size)⟩; clear h1))))
          go_roundw
          case rel => exact ⟨i + 1, by go_num, by omega, S8⟩
          case measure => simp [intOf]; omega
      · have hd : decide (i < rn) = false := by simp; omega
        have HB9 := hid_of hs.out.2.2.2
        clear hs
        go_wp2
        go_ret
        exact ⟨rfl, HB9.out⟩
  · have hd : (E == 0) = false := by simpa using h0
    clear hT hp hE h0
    go_enter Tryd.func6, Tryd.ntmps6
    go_wp2_with (first
      | (go_at_call 13; ((with_reducible refine (HA.out).mono ?_); (rintro ee w1 ⟨rfl, h1⟩; replace HP := hid_of (HP.out.at h1); replace HT := hid_of (HT.out.at h1); have BA := hid_of h1; clear h1)))
      | (go_at_call 22; ((with_reducible refine (HF.out _ HP.out).mono ?_); (rintro ee w2 ⟨rfl, h1⟩; replace HP := hid_of (HP.out.at h1); replace BA := hid_of (BA.out.trans (h1.mono BA.out.size)); clear h1))))
    go_ret
    exact ⟨rfl, BA.out⟩
end Go.Proofs.YtjfjcgbdpjpodaaDoor
