/- KeyedShared. -/
import Derived.Test.YtdgihleekemnnaaDoorKeyShort
import Derived.Deep.RegionWith
import Derived.Deep.RegionHeld3
namespace Go.Proofs.YtdgihleekemnnaaDoor
open Go.RowKit

set_option maxRecDepth 100000 in
set_option maxHeartbeats 12800000 in
theorem keyedShared_law (a0 a1 a2 : Option Addr) (n0 n1 n2 c0 c1 c2 : Nat) (z0 z1 z2 : List Int) (p q h x : Int) (w : World) (hG : Glob w) (w0 : IsRow .u8 w a0 n0 c0 z0) (w1 : IsRow .u8 w a1 n1 c1 z1) (w2 : IsRow .u8 w a2 n2 c2 z2) (hp : R64 p) (hq : R64 q) (hh : R64 h) :
    Calls Tryd.prog 6 #[.slice a0 n0 c0, .int .i64 p, .int .i64 q, .int .i64 h, .int .i64 x, .slice a1 n1 c1, .slice a2 n2 c2] w fun e w' => e = .returned (.bool true) ∧ Below w.heap.size w w' := by
  obtain ⟨k, hk, kr, hK⟩ := w0.lies
  obtain ⟨m, hm, mr, hM⟩ := w1.lies
  obtain ⟨t, ht, tr, hT⟩ := w2.lies
  have HG := hid_of hG
  have H2 : Hid (2 ≤ w.heap.size) := hid_of hG.two
  have HK := hid_of hK
  have HM := hid_of hM
  have HTG := hid_of hT
  have HKR := hid_of kr
  have HMR := hid_of mr
  have HTR := hid_of tr
  have HP := hid_of hp
  have HQ := hid_of hq
  have HH := hid_of hh
  have HKL := hid_of hk
  have HML := hid_of hm
  clear hG w0 w1 w2 hK hM hT kr mr tr hp hq hh hk hm ht
  by_cases hneg : h < 0
  · have d0 : decide (h < 0) = true := by simp; exact hneg
    go_enter Tryd.func6, Tryd.ntmps6
    go_wp2_with (go_at_call 10; ((with_reducible refine (awake_any w HG.out).mono ?_); (rintro e w1 ⟨rfl, h1⟩; have HB1 := hid_of h1; clear h1)))
    go_ret
    exact ⟨rfl, HB1.out⟩
  have HNEG := hid_of hneg
  have d0 : decide (h < 0) = false := by simp; omega
  clear hneg
  obtain ⟨r, hr⟩ : ∃ r, r = (decide (n0 ≤ 2000) && decide (n1 ≤ 2000)) := ⟨_, rfl⟩
  have SH := hid_of (fun w => short_any a0 a1 n0 c0 n1 c1 r w hr)
  have HR := hid_of hr
  clear hr
  cases r
  · go_enter Tryd.func6, Tryd.ntmps6
    go_wp2_with (first
      | (go_at_call 10; ((with_reducible refine (awake_any w HG.out).mono ?_); (rintro e w1 ⟨rfl, h1⟩; have HB1 := hid_of h1; clear h1)))
      | (go_at_call 11; ((with_reducible refine (SH.out w1).mono ?_); (rintro e w' ⟨rfl, rfl⟩))))
    go_ret
    exact ⟨rfl, HB1.out⟩
  have hn : n0 ≤ 2000 ∧ n1 ≤ 2000 := by
    have := HR.out
    simpa using this.symm
  have HN := hid_of hn
  clear hn
  obtain ⟨T, hTT⟩ : ∃ T, T = hmac (derive k p h) m := ⟨_, rfl⟩
  have HTT := hid_of hTT
  have HTTR : Hid (∀ y ∈ T, 0 ≤ y ∧ y ≤ 255) := hid_of (by rw [hTT]; exact hmac_rng _ _)
  obtain ⟨R, hR⟩ : ∃ R, R = decide (t = T) := ⟨_, rfl⟩
  obtain ⟨SA, hSA⟩ : ∃ SA, SA = strOfNums t := ⟨_, rfl⟩
  obtain ⟨SB, hSB⟩ : ∃ SB, SB = strOfNums T := ⟨_, rfl⟩
  have heq : (SA.toList == SB.toList) = R := by rw [hSA, hSB, hR]; exact strs_beq HTR.out HTTR.out
  have HRR := hid_of hR
  have CVA : Hid (∀ W, Below w.heap.size w W → (convert 22 9 (.slice a2 n2 c2)).run Tryd.prog W = .ok (.string SA) W) := hid_of (fun W hb => by rw [hSA]; exact conv_lies (HTG.out.later hb (Nat.le_refl _)))
  have CVB : Hid (∀ W g c, Lies W (.slice (some ⟨g, 0, none⟩) 32 c) T → (convert 22 9 (.slice (some ⟨g, 0, none⟩) 32 c)).run Tryd.prog W = .ok (.string SB) W) := hid_of (fun W g c hl => by rw [hSB]; exact conv_lies hl)
  have VT : Hid (∀ (B b : Nat) (P H : Int) (W : World) (g c : Nat), Mst B W b k P H → Below w.heap.size w W → Lies W (.slice (some ⟨g, 0, none⟩) 32 c) T → Calls Tryd.prog 22 #[.pointer (some ⟨b, 0, none⟩), .int .i64 p, .int .i64 h, .slice a1 n1 c1, .slice (some ⟨g, 0, none⟩) 32 c] W fun e w' => e = .returned (.bool true) ∧ Below W.heap.size W w') := hid_of (fun B b P H W g c h1 hb h2 => by
    have := verify_any b k m T P H p h (.slice a1 n1 c1) (.slice (some ⟨g, 0, none⟩) 32 c) W h1 HKR.out (HM.out.later hb (Nat.le_refl _)) HMR.out h2 HTTR.out HP.out HH.out (HG.out.bel hb H2.out) (by have := HKL.out; have := HN.out.1; omega) (by have := HML.out; have := HN.out.2; omega)
    rw [show decide (T = hmac (derive k p h) m) = true from decide_eq_true HTT.out] at this
    exact this)
  have VF : Hid (∀ (B b : Nat) (P H : Int) (W : World), Mst B W b k P H → Below w.heap.size w W → Calls Tryd.prog 22 #[.pointer (some ⟨b, 0, none⟩), .int .i64 p, .int .i64 h, .slice a1 n1 c1, .slice a2 n2 c2] W fun e w' => e = .returned (.bool R) ∧ Below W.heap.size W w') := hid_of (fun B b P H W h1 hb => by
    have := verify_any b k m t P H p h (.slice a1 n1 c1) (.slice a2 n2 c2) W h1 HKR.out (HM.out.later hb (Nat.le_refl _)) HMR.out (HTG.out.later hb (Nat.le_refl _)) HTR.out HP.out HH.out (HG.out.bel hb H2.out) (by have := HKL.out; have := HN.out.1; omega) (by have := HML.out; have := HN.out.2; omega)
    rw [← HTT.out, ← HRR.out] at this
    exact this)
  clear hTT hR hSA hSB
  go_enter Tryd.func6, Tryd.ntmps6
  go_wp2_with (first
    | (go_at_call 10; ((with_reducible refine (awake_any w HG.out).mono ?_); (rintro e w1 ⟨rfl, h1⟩; have HB1 := hid_of h1; clear h1)))
    | (go_at_call 11; ((with_reducible refine (SH.out w1).mono ?_); (rintro e w' ⟨rfl, rfl⟩)))
    | (go_at_call 16; (first
        | ((with_reducible refine (new_module (.slice a0 n0 c0) k p w1 (HK.out.later HB1.out (Nat.le_refl _)) (by have := HKL.out; have := HN.out.1; omega)).mono ?_); (rintro e w2 ⟨ba, rfl, _, hm2, hb2⟩; have HM2 := hid_of hm2; have HB2 := hid_of (HB1.out.trans (hb2.mono HB1.out.size)); clear hm2 hb2))
        | ((with_reducible refine (new_module (.slice a0 n0 c0) k q w2 (HK.out.later HB2.out (Nat.le_refl _)) (by have := HKL.out; have := HN.out.1; omega)).mono ?_); (rintro e w3 ⟨bb, rfl, _, hm3, hb3⟩; have HM3 := hid_of (HM2.out.later hb3 (Nat.le_refl _)); have HK3 := hid_of hm3; have HB23 := hid_of hb3; have HB3 := hid_of (HB2.out.trans (hb3.mono HB2.out.size)); clear hm3 hb3))))
    | (go_at_call 19; refine (raise_any bb k q 0 x w3 HK3.out).mono ?_; rintro e w4 ⟨rfl, hm4, hk4⟩; have HK4 := hid_of hm4; have HM4 := hid_of (HM2.out.later (HB23.out.trans (hk4.below HB23.out.size (fun k hk => by have := HK3.out.1; omega))) (Nat.le_refl _)); have HB4 := hid_of (HB3.out.trans (hk4.below HB3.out.size (fun k hk => by have := HK3.out.1; have := HB2.out.size; omega))); clear hm4 hk4)
    | (go_at_call 20; refine (sign_ok ba k m p 0 h (.slice a1 n1 c1) w4 HM4.out (by have := HNEG.out; omega) (by have := HNEG.out; omega) HKR.out (HM.out.later HB4.out (Nat.le_refl _)) HMR.out HP.out HH.out (HG.out.bel HB4.out H2.out) (by have := HKL.out; have := HN.out.1; omega) (by have := HML.out; have := HN.out.2; omega)).mono ?_; rw [← HTT.out]; rintro e w5 ⟨g, c, rfl, _, hl5, hb5⟩; have HL5 := hid_of hl5; have HM5 := hid_of (HM4.out.later hb5 (Nat.le_refl _)); have HK5 := hid_of (HK4.out.later hb5 (Nat.le_refl _)); have HB5 := hid_of (HB4.out.trans (hb5.mono HB4.out.size)); clear hl5 hb5))
  have HM5D := hid_of (HM5.out.later (Below.refl _ w5).drew (Nat.le_refl _))
  have HK5D := hid_of (HK5.out.later (Below.refl _ w5).drew (Nat.le_refl _))
  have HL5D := hid_of (HL5.out.later (Below.refl _ w5).drew (Nat.le_refl _))
  have HB5D := hid_of HB5.out.drew
  have cva5 := CVA.out w5.drew HB5D.out
  have cvb5 := CVB.out w5.drew g c HL5D.out
  clear HG H2 HK HM HTG HKR HMR HTR HP HQ HH HKL HML HR HN HTT HTTR HRR SH HB1 HM2 HB2 HM3 HK3 HB23 HB3 HK4 HM4 HB4 HM5 HK5 HL5
  go_region_held3 (fun W => (convert 22 9 (.slice a2 n2 c2)).run Tryd.prog W = .ok (.string SA) W ∧ (convert 22 9 (.slice (some ⟨g, 0, none⟩) 32 c)).run Tryd.prog W = .ok (.string SB) W) (first | exact ⟨cva5, cvb5⟩ | exact ⟨cva6, cvb6⟩ | exact ⟨cva7, cvb7⟩ | exact ⟨cva8, cvb8⟩) (first | (go_at_call 22; (first
    | ((with_reducible refine (VT.out _ ba p 0 w5.drew g c HM5D.out HB5D.out HL5D.out).mono ?_); (rintro e w6 ⟨rfl, hb6⟩; have HK6 := hid_of (HK5D.out.later hb6 (Nat.le_refl _)); have HL6 := hid_of (HL5D.out.later hb6 (Nat.le_refl _)); have HB6 := hid_of (HB5D.out.trans (hb6.mono HB5D.out.size)); have cva6 := CVA.out w6 HB6.out; have cvb6 := CVB.out w6 g c HL6.out; clear hb6))
    | ((with_reducible refine (VT.out _ bb q _ w6 g c HK6.out HB6.out HL6.out).mono ?_); (rintro e w7 ⟨rfl, hb7⟩; have HK7 := hid_of (HK6.out.later hb7 (Nat.le_refl _)); have HL7 := hid_of (HL6.out.later hb7 (Nat.le_refl _)); have HB7 := hid_of (HB6.out.trans (hb7.mono HB6.out.size)); have cva7 := CVA.out w7 HB7.out; have cvb7 := CVB.out w7 g c HL7.out; clear hb7))
    | ((with_reducible refine (VF.out _ bb q _ w7 HK7.out HB7.out).mono ?_); (rintro e w8 ⟨rfl, hb8⟩; have HL8 := hid_of (HL7.out.later hb8 (Nat.le_refl _)); have HB8 := hid_of (HB7.out.trans (hb8.mono HB7.out.size)); have cva8 := CVA.out w8 HB8.out; have cvb8 := CVB.out w8 g c HL8.out; clear hb8)))))
  all_goals go_wp2
  all_goals go_ret
  all_goals exact ⟨rfl, HB8.out⟩
end Go.Proofs.YtdgihleekemnnaaDoor
