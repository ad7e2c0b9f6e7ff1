/- The laws OrderChecks and OrderReduces. No condition. -/
import Derived.Test.YtjfjcgbdpjpodaaDoorOrdRrd
namespace Go.Proofs.YtjfjcgbdpjpodaaDoor
open Go.RowKit

theorem rdg_at {w w' : World} {v : Value} {n : Nat} {M : Nat → Nat → Bool} (h : RdG w v n M) (hb : Below w.heap.size w w') : RdG w' v n M := by
  obtain ⟨ao, cap, h1, h2, h3, h4⟩ := h
  refine ⟨ao, cap, h1, h2, h3, fun h0 => ?_⟩
  obtain ⟨q, q1, q2, q3⟩ := h4 h0
  refine ⟨q, q1, Nat.lt_of_lt_of_le q2 hb.size, fun i hi => ?_⟩
  obtain ⟨g, g1, g2, g3⟩ := q3 i hi
  exact ⟨g, Nat.lt_of_lt_of_le g1 hb.size, (hb.cell (p := ⟨q, i, none⟩) q2).trans g2, fun j hj => (hb.cell (p := ⟨g, j, none⟩) g1).trans (g3 j hj)⟩
theorem err_chk {n : Int} {ps : List Tk} (h : errE n ps = 0) : chkE n ps = 0 := by
  rcases err_cases n ps with ⟨h1, h2⟩ | ⟨h1, _⟩ | ⟨h1, _⟩
  · exact absurd (h2.symm.trans h) h1
  · exact h1
  · exact h1

set_option maxRecDepth 100000 in
set_option maxHeartbeats 3200000 in
theorem orderChecks_law (n : Int) (ao : Option Addr) (m cap : Nat) (ps : List Tk) (w : World) (hT : Tb w) (hp : TIn w ao m cap ps) :
    Calls Tryd.prog 3 #[.int .i64 n, .slice ao m cap] w fun e w' => e = .returned (.bool true) ∧ Below w.heap.size w w' := by
  have HP := hid_of hp.1
  have HT := hid_of hT
  have HA := hid_of (awake_any w hT)
  obtain ⟨E, hE⟩ : ∃ E, E = chkE n ps := ⟨_, rfl⟩
  have G1 : Hid (∀ wx, TRd wx (.slice ao m cap) ps → Calls Tryd.prog 14 #[.int .i64 n, .slice ao m cap] wx fun e w' => e = .returned (.int .i64 E) ∧ wx = w') := hid_of (fun wx h => by rw [hE]; exact rcheck_any n ao m cap ps wx h)
  have G2 : Hid (∀ wx, TRd wx (.slice ao m cap) ps → Calls Tryd.prog 15 #[.int .i64 n, .slice ao m cap] wx fun e w' => e = .returned (.int .i64 E) ∧ Below wx.heap.size wx w') := hid_of (fun wx h => by rw [hE]; exact check_any n ao m cap ps wx h)
  have hdn : (E != E) = false := by simp
  by_cases h0 : E = 0
  · subst h0
    obtain ⟨k, rfl, hk⟩ := chk_nat hE.symm
    have hv := chk_valid hE.symm
    have G3 : Hid (∀ wx, TRd wx (.slice ao m cap) ps → Tb wx → Calls Tryd.prog 16 #[.int .i64 k, .slice ao m cap] wx fun e w' => ∃ xo j c, e = .returned (.tuple #[.slice xo j c, .int .i64 0]) ∧ j = (cloL k ps).length ∧ TRd w' (.slice xo j c) (cloL k ps) ∧ Below wx.heap.size wx w') := hid_of (fun wx h ht => closure_any k ao m cap ps wx h ht hE.symm)
    obtain ⟨q, hq⟩ : ∃ q, q = acyc k (clo k ps) := ⟨_, rfl⟩
    have G4 : Hid (∀ wx, TRd wx (.slice ao m cap) ps → Tb wx → Calls Tryd.prog 17 #[.int .i64 k, .slice ao m cap] wx fun e w' => e = .returned (.tuple #[.bool q, .int .i64 0]) ∧ Below wx.heap.size wx w') := hid_of (fun wx h ht => by rw [hq]; exact acyc_any k ao m cap ps wx h ht hE.symm)
    have G5 : Hid (∀ wx, TRd wx (.slice ao m cap) ps → Calls Tryd.prog 18 #[.int .i64 k, .slice ao m cap] wx fun e w' => ∃ xo xc, e = .returned (.slice xo k xc) ∧ RdG w' (.slice xo k xc) k (bm (clo k ps)) ∧ Below wx.heap.size wx w') := hid_of (fun wx h => less_any k hk ao m cap ps wx h hE.symm)
    have G6 : Hid (∀ xo xc wx, RdG wx (.slice xo k xc) k (bm (clo k ps)) → Calls Tryd.prog 20 #[.slice xo k xc] wx fun e w' => ∃ yo j c, e = .returned (.slice yo j c) ∧ TRd w' (.slice yo j c) (cloL k ps) ∧ Below wx.heap.size wx w') := hid_of (fun xo xc wx hr => by rw [cloL_mat hk hv]; exact rpairs_any xo k xc _ wx hr hk)
    have G7 : Hid (∀ xo xc wx, RdG wx (.slice xo k xc) k (bm (clo k ps)) → Calls Tryd.prog 21 #[.slice xo k xc] wx fun e w' => e = .returned (.bool q) ∧ wx = w') := hid_of (fun xo xc wx hr => by rw [hq]; exact racyc_any xo k xc _ wx hr hk)
    clear hT hp hE hq hv
    obtain ⟨L, hL⟩ : ∃ L, L = cloL k ps := ⟨_, rfl⟩
    rw [← hL] at G3 G6
    obtain ⟨M, hM⟩ : ∃ M, M = bm (clo k ps) := ⟨_, rfl⟩
    rw [← hM] at G5 G6 G7
    clear hL hM
    go_enter Tryd.func3, Tryd.ntmps3
    go_wp2_with (first
      | (go_at_call 13; ((with_reducible refine (HA.out).mono ?_); (rintro ee w1 ⟨rfl, h1⟩; replace HP := hid_of (HP.out.at h1); replace HT := hid_of (HT.out.at h1); have BA := hid_of h1; clear h1)))
      | (go_at_call 14; ((with_reducible refine (G1.out _ HP.out).mono ?_); (rintro ee w2 ⟨rfl, rfl⟩)))
      | (go_at_call 15; ((with_reducible refine (G2.out _ HP.out).mono ?_); (rintro ee w3 ⟨rfl, h1⟩; replace HP := hid_of (HP.out.at h1); replace HT := hid_of (HT.out.at h1); replace BA := hid_of (BA.out.trans (h1.mono BA.out.size)); clear h1)))
      | (go_at_call 16; ((with_reducible refine (G3.out _ HP.out HT.out).mono ?_); (rintro ee w4 ⟨xo, j, c, rfl, h2, h3, h1⟩; have J4 := hid_of h2; have C4 := hid_of h3; replace HP := hid_of (HP.out.at h1); replace HT := hid_of (HT.out.at h1); replace BA := hid_of (BA.out.trans (h1.mono BA.out.size)); clear h1 h2 h3)))
      | (go_at_call 17; ((with_reducible refine (G4.out _ HP.out HT.out).mono ?_); (rintro ee w5 ⟨rfl, h1⟩; replace C4 := hid_of (C4.out.at h1); replace HP := hid_of (HP.out.at h1); replace HT := hid_of (HT.out.at h1); replace BA := hid_of (BA.out.trans (h1.mono BA.out.size)); clear h1)))
      | (go_at_call 18; ((with_reducible refine (G5.out _ HP.out).mono ?_); (rintro ee w6 ⟨mo, mc, rfl, h2, h1⟩; have M6 := hid_of h2; replace C4 := hid_of (C4.out.at h1); replace BA := hid_of (BA.out.trans (h1.mono BA.out.size)); clear h1 h2)))
      | (go_at_call 20; ((with_reducible refine (G6.out _ _ _ M6.out).mono ?_); (rintro ee w7 ⟨yo, j2, c2, rfl, h2, h1⟩; have Y7 := hid_of h2; replace M6 := hid_of (rdg_at M6.out h1); replace C4 := hid_of (C4.out.at h1); replace BA := hid_of (BA.out.trans (h1.mono BA.out.size)); clear h1 h2)))
      | (go_at_call 19; ((with_reducible refine (samePairs_any _ _ _ _ _ _ _ _ _ C4.out Y7.out).mono ?_); (rintro ee w8 ⟨rfl, h1⟩; replace M6 := hid_of (rdg_at M6.out h1); replace BA := hid_of (BA.out.trans (h1.mono BA.out.size)); clear h1)))
      | (go_at_call 21; ((with_reducible refine (G7.out _ _ _ M6.out).mono ?_); (rintro ee w9 ⟨rfl, rfl⟩))))
    go_ret
    exact ⟨by simp, BA.out⟩
  · have G3 : Hid (∀ wx, TRd wx (.slice ao m cap) ps → Calls Tryd.prog 16 #[.int .i64 n, .slice ao m cap] wx fun e w' => e = .returned (.tuple #[.slice none 0 0, .int .i64 E]) ∧ Below wx.heap.size wx w') := hid_of (fun wx h => closure_err n ao m cap ps wx h E hE.symm h0)
    have G4 : Hid (∀ wx, TRd wx (.slice ao m cap) ps → Calls Tryd.prog 17 #[.int .i64 n, .slice ao m cap] wx fun e w' => e = .returned (.tuple #[.bool false, .int .i64 E]) ∧ Below wx.heap.size wx w') := hid_of (fun wx h => acyc_err n ao m cap ps wx h E hE.symm h0)
    have hd : (E != 0) = true := by simpa using h0
    clear hT hp hE h0
    go_enter Tryd.func3, Tryd.ntmps3
    go_wp2_with (first
      | (go_at_call 13; ((with_reducible refine (HA.out).mono ?_); (rintro ee w1 ⟨rfl, h1⟩; replace HP := hid_of (HP.out.at h1); have BA := hid_of h1; clear h1)))
      | (go_at_call 14; ((with_reducible refine (G1.out _ HP.out).mono ?_); (rintro ee w2 ⟨rfl, rfl⟩)))
      | (go_at_call 15; ((with_reducible refine (G2.out _ HP.out).mono ?_); (rintro ee w3 ⟨rfl, h1⟩; replace HP := hid_of (HP.out.at h1); replace BA := hid_of (BA.out.trans (h1.mono BA.out.size)); clear h1)))
      | (go_at_call 16; ((with_reducible refine (G3.out _ HP.out).mono ?_); (rintro ee w4 ⟨rfl, h1⟩; replace HP := hid_of (HP.out.at h1); replace BA := hid_of (BA.out.trans (h1.mono BA.out.size)); clear h1)))
      | (go_at_call 17; ((with_reducible refine (G4.out _ HP.out).mono ?_); (rintro ee w5 ⟨rfl, h1⟩; replace HP := hid_of (HP.out.at h1); replace BA := hid_of (BA.out.trans (h1.mono BA.out.size)); clear h1))))
    go_ret
    exact ⟨by simp, BA.out⟩

set_option maxRecDepth 100000 in
set_option maxHeartbeats 3200000 in
theorem orderReduces_law (n : Int) (ao : Option Addr) (m cap : Nat) (ps : List Tk) (w : World) (hT : Tb w) (hp : TIn w ao m cap ps) :
    Calls Tryd.prog 5 #[.int .i64 n, .slice ao m cap] w fun e w' => e = .returned (.bool true) ∧ Below w.heap.size w w' := by
  have HP := hid_of hp.1
  have HT := hid_of hT
  have HA := hid_of (awake_any w hT)
  obtain ⟨E, hE⟩ : ∃ E, E = errE n ps := ⟨_, rfl⟩
  have HF : Hid (∀ wx, TRd wx (.slice ao m cap) ps → Calls Tryd.prog 22 #[.int .i64 n, .slice ao m cap] wx fun e w' => e = .returned (.int .i64 E) ∧ Below wx.heap.size wx w') := hid_of (fun wx h => by rw [hE]; exact fault_any n ao m cap ps wx h)
  by_cases h0 : E = 0
  · subst h0
    have hC := err_chk hE.symm
    obtain ⟨k, rfl, hk⟩ := chk_nat hC
    have hv := chk_valid hC
    have G3 : Hid (∀ wx, TRd wx (.slice ao m cap) ps → Tb wx → Calls Tryd.prog 23 #[.int .i64 k, .slice ao m cap] wx fun e w' => ∃ xo j c, e = .returned (.tuple #[.slice xo j c, .int .i64 0]) ∧ j = (redL k ps).length ∧ TRd w' (.slice xo j c) (redL k ps) ∧ Below wx.heap.size wx w') := hid_of (fun wx h ht => reduction_any k ao m cap ps wx h ht hE.symm)
    have G5 : Hid (∀ wx, TRd wx (.slice ao m cap) ps → Calls Tryd.prog 18 #[.int .i64 k, .slice ao m cap] wx fun e w' => ∃ xo xc, e = .returned (.slice xo k xc) ∧ RdG w' (.slice xo k xc) k (bm (clo k ps)) ∧ Below wx.heap.size wx w') := hid_of (fun wx h => less_any k hk ao m cap ps wx h hC)
    have G6 : Hid (∀ xo xc wx, RdG wx (.slice xo k xc) k (bm (clo k ps)) → Calls Tryd.prog 30 #[.slice xo k xc] wx fun e w' => ∃ yo j c, e = .returned (.slice yo j c) ∧ TRd w' (.slice yo j c) (redL k ps) ∧ Below wx.heap.size wx w') := hid_of (fun xo xc wx hr => by rw [redL_mat hk hv]; exact rred_any xo k xc _ wx hr hk)
    clear hT hp hE hC hv
    obtain ⟨L, hL⟩ : ∃ L, L = redL k ps := ⟨_, rfl⟩
    rw [← hL] at G3 G6
    obtain ⟨M, hM⟩ : ∃ M, M = bm (clo k ps) := ⟨_, rfl⟩
    rw [← hM] at G5 G6
    clear hL hM
    go_enter Tryd.func5, Tryd.ntmps5
    go_wp2_with (first
      | (go_at_call 13; ((with_reducible refine (HA.out).mono ?_); (rintro ee w1 ⟨rfl, h1⟩; replace HP := hid_of (HP.out.at h1); replace HT := hid_of (HT.out.at h1); have BA := hid_of h1; clear h1)))
      | (go_at_call 22; ((with_reducible refine (HF.out _ HP.out).mono ?_); (rintro ee w2 ⟨rfl, h1⟩; replace HP := hid_of (HP.out.at h1); replace HT := hid_of (HT.out.at h1); replace BA := hid_of (BA.out.trans (h1.mono BA.out.size)); clear h1)))
      | (go_at_call 23; ((with_reducible refine (G3.out _ HP.out HT.out).mono ?_); (rintro ee w4 ⟨xo, j, c, rfl, h2, h3, h1⟩; have J4 := hid_of h2; have C4 := hid_of h3; replace HP := hid_of (HP.out.at h1); replace HT := hid_of (HT.out.at h1); replace BA := hid_of (BA.out.trans (h1.mono BA.out.size)); clear h1 h2 h3)))
      | (go_at_call 18; ((with_reducible refine (G5.out _ HP.out).mono ?_); (rintro ee w6 ⟨mo, mc, rfl, h2, h1⟩; have M6 := hid_of h2; replace C4 := hid_of (C4.out.at h1); replace BA := hid_of (BA.out.trans (h1.mono BA.out.size)); clear h1 h2)))
      | (go_at_call 30; ((with_reducible refine (G6.out _ _ _ M6.out).mono ?_); (rintro ee w7 ⟨yo, j2, c2, rfl, h2, h1⟩; have Y7 := hid_of h2; replace C4 := hid_of (C4.out.at h1); replace BA := hid_of (BA.out.trans (h1.mono BA.out.size)); clear h1 h2)))
      | (go_at_call 19; ((with_reducible refine (samePairs_any _ _ _ _ _ _ _ _ _ C4.out Y7.out).mono ?_); (rintro ee w8 ⟨rfl, h1⟩; replace BA := hid_of (BA.out.trans (h1.mono BA.out.size)); clear h1))))
    go_ret
    exact ⟨by simp, BA.out⟩
  · have hd : (E == 0) = false := by simpa using h0
    clear hT hp hE h0
    go_enter Tryd.func5, Tryd.ntmps5
    go_wp2_with (first
      | (go_at_call 13; ((with_reducible refine (HA.out).mono ?_); (rintro ee w1 ⟨rfl, h1⟩; replace HP := hid_of (HP.out.at h1); have BA := hid_of h1; clear h1)))
      | (go_at_call 22; ((with_reducible refine (HF.out _ HP.out).mono ?_); (rintro ee w2 ⟨rfl, h1⟩; replace HP := hid_of (HP.out.at h1); replace BA := hid_of (BA.out.trans (h1.mono BA.out.size)); clear h1))))
    go_ret
    exact ⟨rfl, BA.out⟩
end Go.Proofs.YtjfjcgbdpjpodaaDoor
