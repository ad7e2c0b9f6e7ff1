/- The laws OrderChecks and OrderFaults. No condition. -/
import Derived.Test.YtjfjcgbdpjpodaaDoorOrdRfs
namespace Go.Proofs.YtjfjcgbdpjpodaaDoor
open Go.RowKit

theorem dwn_cases (n : Int) (ps : List Tk) (lim : Int) (h : errE n ps ≠ 0) : dwnE n ps lim = (if lim < 1 ∧ errE n ps = 9 then 1 else errE n ps) := by
  unfold dwnE
  rcases err_cases n ps with ⟨h1, h2⟩ | ⟨h1, h2, h3⟩ | ⟨_, _, h3⟩
  · rw [if_neg h1, h2]
    rcases chk_cases n ps with h4 | h4 | h4 | h4
    · exact absurd h4 h1
    all_goals rw [h4, if_neg (by omega)]
  · rw [if_pos h1, h3]
    by_cases hl : lim < 1 <;> simp [hl]
  · exact absurd h3 h

set_option maxRecDepth 100000 in
set_option maxHeartbeats 3200000 in
theorem orderFaults_law (n : Int) (ao : Option Addr) (m cap : Nat) (lim : Int) (ps : List Tk) (w : World) (hT : Tb w) (hp : TIn w ao m cap ps) :
    Calls Tryd.prog 4 #[.int .i64 n, .slice ao m cap, .int .i64 lim] w fun e w' => e = .returned (.bool true) ∧ Below w.heap.size w w' := by
  have HP := hid_of hp.1
  have HT := hid_of hT
  have B0 := hid_of (Below.refl w.heap.size w)
  have HA := hid_of (awake_any w hT)
  obtain ⟨E, hE⟩ : ∃ E, E = errE n ps := ⟨_, rfl⟩
  have HF : Hid (∀ wx, TRd wx (.slice ao m cap) ps → Calls Tryd.prog 22 #[.int .i64 n, .slice ao m cap] wx fun e w' => e = .returned (.int .i64 E) ∧ Below wx.heap.size wx w') := hid_of (fun wx h => by rw [hE]; exact fault_any n ao m cap ps wx h)
  by_cases h0 : E = 0
  · subst h0
    clear hT hp hE
    go_enter Tryd.func4, Tryd.ntmps4
    go_wp2_with (first
      | (go_at_call 13; ((with_reducible refine (HA.out).mono ?_); (rintro ee w1 ⟨rfl, h1⟩; replace HP := hid_of (HP.out.at h1); replace HT := hid_of (HT.out.at h1); have B1 := hid_of h1; clear h1)))
      | (go_at_call 22; ((with_reducible refine (HF.out _ HP.out).mono ?_); (rintro ee w2 ⟨rfl, h1⟩; have B2 := hid_of (B1.out.trans (h1.mono B1.out.size)); clear h1))))
    go_ret
    exact ⟨rfl, B2.out⟩
  · have G1 : Hid (∀ wx, TRd wx (.slice ao m cap) ps → Tb wx → Calls Tryd.prog 23 #[.int .i64 n, .slice ao m cap] wx fun e w' => e = .returned (.tuple #[.slice none 0 0, .int .i64 E]) ∧ Below wx.heap.size wx w') := hid_of (fun wx h ht => reduction_err n ao m cap ps wx h ht E hE.symm h0)
    have G2 : Hid (∀ wx, TRd wx (.slice ao m cap) ps → Tb wx → Calls Tryd.prog 24 #[.int .i64 n, .slice ao m cap] wx fun e w' => e = .returned (.tuple #[.slice none 0 0, .int .i64 E]) ∧ Below wx.heap.size wx w') := hid_of (fun wx h ht => sort_err n ao m cap ps wx h ht E hE.symm h0)
    have G3 : Hid (∀ wx, TRd wx (.slice ao m cap) ps → Tb wx → Calls Tryd.prog 25 #[.int .i64 n, .slice ao m cap] wx fun e w' => e = .returned (.tuple #[.slice none 0 0, .int .i64 E]) ∧ Below wx.heap.size wx w') := hid_of (fun wx h ht => levels_err n ao m cap ps wx h ht E hE.symm h0)
    have G4 : Hid (∀ wx, TRd wx (.slice ao m cap) ps → Tb wx → Calls Tryd.prog 26 #[.int .i64 n, .slice ao m cap] wx fun e w' => e = .returned (.tuple #[.slice none 0 0, .int .i64 E]) ∧ Below wx.heap.size wx w') := hid_of (fun wx h ht => chain_err n ao m cap ps wx h ht E hE.symm h0)
    have G5 : Hid (∀ wx, TRd wx (.slice ao m cap) ps → Tb wx → Calls Tryd.prog 27 #[.int .i64 n, .slice ao m cap] wx fun e w' => e = .returned (.tuple #[.slice none 0 0, .int .i64 E]) ∧ Below wx.heap.size wx w') := hid_of (fun wx h ht => anti_err n ao m cap ps wx h ht E hE.symm h0)
    have G6 : Hid (∀ wx, TRd wx (.slice ao m cap) ps → Tb wx → Calls Tryd.prog 28 #[.int .i64 n, .slice ao m cap] wx fun e w' => e = .returned (.tuple #[.slice none 0 0, .int .i64 E]) ∧ Below wx.heap.size wx w') := hid_of (fun wx h ht => cover_err n ao m cap ps wx h ht E hE.symm h0)
    obtain ⟨D, hD⟩ : ∃ D, D = dwnE n ps lim := ⟨_, rfl⟩
    have hD2 := dwn_cases n ps lim (by rw [← hE]; exact h0)
    rw [← hE, ← hD] at hD2
    have hD0 : D ≠ 0 := by rw [hD2]; split <;> omega
    have G7 : Hid (∀ wx, TRd wx (.slice ao m cap) ps → Tb wx → Calls Tryd.prog 29 #[.int .i64 n, .slice ao m cap, .int .i64 lim] wx fun e w' => e = .returned (.tuple #[.slice none 0 0, .int .i64 D]) ∧ Below wx.heap.size wx w') := hid_of (fun wx h ht => downsets_err n ao m cap ps lim wx h ht D hD.symm hD0)
    have hd : (E == 0) = false := by simpa using h0
    have hdn : (E != E) = false := by simp
    have hdd : (D == D) = true := by simp
    clear hT hp hE hD hD0 h0
    by_cases hl : lim < 1
    · have hdl : decide (lim < 1) = true := by simpa using hl
      by_cases h9 : E = 9
      · rw [if_pos ⟨hl, h9⟩] at hD2
        subst hD2 h9
        clear hl
        go_enter Tryd.func4, Tryd.ntmps4
        go_wp2_with (first
          | (go_at_call 13; ((with_reducible refine (HA.out).mono ?_); (rintro ee w1 ⟨rfl, h1⟩; replace HP := hid_of (HP.out.at h1); replace HT := hid_of (HT.out.at h1); have BA := hid_of h1; clear h1)))
          | (go_at_call 22; ((with_reducible refine (HF.out _ HP.out).mono ?_); (rintro ee w2 ⟨rfl, h1⟩; replace HP := hid_of (HP.out.at h1); replace HT := hid_of (HT.out.at h1); replace BA := hid_of (BA.out.trans (h1.mono BA.out.size)); clear h1)))
          | (go_at_call 23; ((with_reducible refine (G1.out _ HP.out HT.out).mono ?_); (rintro ee w3 ⟨rfl, h1⟩; replace HP := hid_of (HP.out.at h1); replace HT := hid_of (HT.out.at h1); replace BA := hid_of (BA.out.trans (h1.mono BA.out.size)); clear h1)))
          | (go_at_call 24; ((with_reducible refine (G2.out _ HP.out HT.out).mono ?_); (rintro ee w4 ⟨rfl, h1⟩; replace HP := hid_of (HP.out.at h1); replace HT := hid_of (HT.out.at h1); replace BA := hid_of (BA.out.trans (h1.mono BA.out.size)); clear h1)))
          | (go_at_call 25; ((with_reducible refine (G3.out _ HP.out HT.out).mono ?_); (rintro ee w5 ⟨rfl, h1⟩; replace HP := hid_of (HP.out.at h1); replace HT := hid_of (HT.out.at h1); replace BA := hid_of (BA.out.trans (h1.mono BA.out.size)); clear h1)))
          | (go_at_call 26; ((with_reducible refine (G4.out _ HP.out HT.out).mono ?_); (rintro ee w6 ⟨rfl, h1⟩; replace HP := hid_of (HP.out.at h1); replace HT := hid_of (HT.out.at h1); replace BA := hid_of (BA.out.trans (h1.mono BA.out.size)); clear h1)))
          | (go_at_call 27; ((with_reducible refine (G5.out _ HP.out HT.out).mono ?_); (rintro ee w7 ⟨rfl, h1⟩; replace HP := hid_of (HP.out.at h1); replace HT := hid_of (HT.out.at h1); replace BA := hid_of (BA.out.trans (h1.mono BA.out.size)); clear h1)))
          | (go_at_call 28; ((with_reducible refine (G6.out _ HP.out HT.out).mono ?_); (rintro ee w8 ⟨rfl, h1⟩; replace HP := hid_of (HP.out.at h1); replace HT := hid_of (HT.out.at h1); replace BA := hid_of (BA.out.trans (h1.mono BA.out.size)); clear h1)))
          | (go_at_call 29; ((with_reducible refine (G7.out _ HP.out HT.out).mono ?_); (rintro ee w9 ⟨rfl, h1⟩; replace HP := hid_of (HP.out.at h1); replace HT := hid_of (HT.out.at h1); replace BA := hid_of (BA.out.trans (h1.mono BA.out.size)); clear h1))))
        go_ret
        exact ⟨by simp, BA.out⟩
      · rw [if_neg (fun h => h9 h.2)] at hD2
        subst hD2
        have hd9 : (D == 9) = false := by simpa using h9
        clear hl h9
        go_enter Tryd.func4, Tryd.ntmps4
        go_wp2_with (first
          | (go_at_call 13; ((with_reducible refine (HA.out).mono ?_); (rintro ee w1 ⟨rfl, h1⟩; replace HP := hid_of (HP.out.at h1); replace HT := hid_of (HT.out.at h1); have BA := hid_of h1; clear h1)))
          | (go_at_call 22; ((with_reducible refine (HF.out _ HP.out).mono ?_); (rintro ee w2 ⟨rfl, h1⟩; replace HP := hid_of (HP.out.at h1); replace HT := hid_of (HT.out.at h1); replace BA := hid_of (BA.out.trans (h1.mono BA.out.size)); clear h1)))
          | (go_at_call 23; ((with_reducible refine (G1.out _ HP.out HT.out).mono ?_); (rintro ee w3 ⟨rfl, h1⟩; replace HP := hid_of (HP.out.at h1); replace HT := hid_of (HT.out.at h1); replace BA := hid_of (BA.out.trans (h1.mono BA.out.size)); clear h1)))
          | (go_at_call 24; ((with_reducible refine (G2.out _ HP.out HT.out).mono ?_); (rintro ee w4 ⟨rfl, h1⟩; replace HP := hid_of (HP.out.at h1); replace HT := hid_of (HT.out.at h1); replace BA := hid_of (BA.out.trans (h1.mono BA.out.size)); clear h1)))
          | (go_at_call 25; ((with_reducible refine (G3.out _ HP.out HT.out).mono ?_); (rintro ee w5 ⟨rfl, h1⟩; replace HP := hid_of (HP.out.at h1); replace HT := hid_of (HT.out.at h1); replace BA := hid_of (BA.out.trans (h1.mono BA.out.size)); clear h1)))
          | (go_at_call 26; ((with_reducible refine (G4.out _ HP.out HT.out).mono ?_); (rintro ee w6 ⟨rfl, h1⟩; replace HP := hid_of (HP.out.at h1); replace HT := hid_of (HT.out.at h1); replace BA := hid_of (BA.out.trans (h1.mono BA.out.size)); clear h1)))
          | (go_at_call 27; ((with_reducible refine (G5.out _ HP.out HT.out).mono ?_); (rintro ee w7 ⟨rfl, h1⟩; replace HP := hid_of (HP.out.at h1); replace HT := hid_of (HT.out.at h1); replace BA := hid_of (BA.out.trans (h1.mono BA.out.size)); clear h1)))
          | (go_at_call 28; ((with_reducible refine (G6.out _ HP.out HT.out).mono ?_); (rintro ee w8 ⟨rfl, h1⟩; replace HP := hid_of (HP.out.at h1); replace HT := hid_of (HT.out.at h1); replace BA := hid_of (BA.out.trans (h1.mono BA.out.size)); clear h1)))
          | (go_at_call 29; ((with_reducible refine (G7.out _ HP.out HT.out).mono ?_); (rintro ee w9 ⟨rfl, h1⟩; replace HP := hid_of (HP.out.at h1); replace HT := hid_of (HT.out.at h1); replace BA := hid_of (BA.out.trans (h1.mono BA.out.size)); clear h1))))
        go_ret
        exact ⟨by simp, BA.out⟩
    · have hdl : decide (lim < 1) = false := by simpa using hl
      rw [if_neg (fun h => hl h.1)] at hD2
      subst hD2
      clear hl
      go_enter Tryd.func4, Tryd.ntmps4
      go_wp2_with (first
          | (go_at_call 13; ((with_reducible refine (HA.out).mono ?_); (rintro ee w1 ⟨rfl, h1⟩; replace HP := hid_of (HP.out.at h1); replace HT := hid_of (HT.out.at h1); have BA := hid_of h1; clear h1)))
          | (go_at_call 22; ((with_reducible refine (HF.out _ HP.out).mono ?_); (rintro ee w2 ⟨rfl, h1⟩; replace HP := hid_of (HP.out.at h1); replace HT := hid_of (HT.out.at h1); replace BA := hid_of (BA.out.trans (h1.mono BA.out.size)); clear h1)))
          | (go_at_call 23; ((with_reducible refine (G1.out _ HP.out HT.out).mono ?_); (rintro ee w3 ⟨rfl, h1⟩; replace HP := hid_of (HP.out.at h1); replace HT := hid_of (HT.out.at h1); replace BA := hid_of (BA.out.trans (h1.mono BA.out.size)); clear h1)))
          | (go_at_call 24; ((with_reducible refine (G2.out _ HP.out HT.out).mono ?_); (rintro ee w4 ⟨rfl, h1⟩; replace HP := hid_of (HP.out.at h1); replace HT := hid_of (HT.out.at h1); replace BA := hid_of (BA.out.trans (h1.mono BA.out.size)); clear h1)))
          | (go_at_call 25; ((with_reducible refine (G3.out _ HP.out HT.out).mono ?_); (rintro ee w5 ⟨rfl, h1⟩; replace HP := hid_of (HP.out.at h1); replace HT := hid_of (HT.out.at h1); replace BA := hid_of (BA.out.trans (h1.mono BA.out.size)); clear h1)))
          | (go_at_call 26; ((with_reducible refine (G4.out _ HP.out HT.out).mono ?_); (rintro ee w6 ⟨rfl, h1⟩; replace HP := hid_of (HP.out.at h1); replace HT := hid_of (HT.out.at h1); replace BA := hid_of (BA.out.trans (h1.mono BA.out.size)); clear h1)))
          | (go_at_call 27; ((with_reducible refine (G5.out _ HP.out HT.out).mono ?_); (rintro ee w7 ⟨rfl, h1⟩; replace HP := hid_of (HP.out.at h1); replace HT := hid_of (HT.out.at h1); replace BA := hid_of (BA.out.trans (h1.mono BA.out.size)); clear h1)))
          | (go_at_call 28; ((with_reducible refine (G6.out _ HP.out HT.out).mono ?_); (rintro ee w8 ⟨rfl, h1⟩; replace HP := hid_of (HP.out.at h1); replace HT := hid_of (HT.out.at h1); replace BA := hid_of (BA.out.trans (h1.mono BA.out.size)); clear h1)))
          | (go_at_call 29; ((with_reducible refine (G7.out _ HP.out HT.out).mono ?_); (rintro ee w9 ⟨rfl, h1⟩; replace HP := hid_of (HP.out.at h1); replace HT := hid_of (HT.out.at h1); replace BA := hid_of (BA.out.trans (h1.mono BA.out.size)); clear h1))))
      go_ret
      exact ⟨by simp, BA.out⟩
end Go.Proofs.YtjfjcgbdpjpodaaDoor
