/- ClockDecodes. -/
import Derived.Test.YtofgmimdmgaljaaClkREnc
import Derived.Deep.RegionWith
import Derived.Deep.RegionHeldLaw
namespace Go.Proofs.Ytofgmimdmgaljaa
open Go.RowKit

set_option maxRecDepth 100000 in
set_option maxHeartbeats 6400000 in
theorem clockDecodes_law (a0 : Option Addr) (n0 c0 : Nat) (l0 : List Tk) (a1 : Option Addr) (n1 c1 : Nat) (z1 : List Int) (w : World) (w0 : TIn w a0 n0 c0 l0) (w1 : IsRow .u8 w a1 n1 c1 z1) :
    Calls Try.prog 11 #[.slice a0 n0 c0, .slice a1 n1 c1] w fun e w' => e = .returned (.bool true) ∧ Below w.heap.size w w' := by
  obtain ⟨bb, hbl, hbr, hB⟩ := w1.br
  have R0 := hid_of w0.1
  have R1 := hid_of hB
  have HB := hid_of (Below.refl w.heap.size w)
  obtain ⟨b0, hb0⟩ : ∃ r, r = decide (200 < n0) := ⟨_, rfl⟩
  have L0 := hid_of hb0
  have AW := hid_of (awake_any w)
  clear hb0
  cases b0
  case true =>
    clear w0 w1 hbl hbr hB
    go_enter Try.func11, Try.ntmps11
    go_wp2_with (first
      | (go_at_call 12; ((with_reducible refine AW.out.mono ?_); (rintro e w2 ⟨rfl, h2⟩; replace HB := hid_of (bel_step HB.out h2 (Nat.le_refl _)); clear h2)))
      | (go_at_call 13; ((with_reducible refine (long_c L0.out).mono ?_); (rintro e w2 ⟨rfl, rfl⟩))))
    go_ret
    exact ⟨rfl, HB.out⟩
  by_cases h1000 : 1000 < n1
  · have d : decide ((n1 : Int) > 1000) = true := by simp; omega
    clear w0 w1 hbl hbr hB h1000
    go_enter Try.func11, Try.ntmps11
    go_wp2_with (first
      | (go_at_call 12; ((with_reducible refine AW.out.mono ?_); (rintro e w2 ⟨rfl, h2⟩; replace HB := hid_of (bel_step HB.out h2 (Nat.le_refl _)); clear h2)))
      | (go_at_call 13; ((with_reducible refine (long_c L0.out).mono ?_); (rintro e w2 ⟨rfl, rfl⟩))))
    go_ret
    exact ⟨rfl, HB.out⟩
  have d : decide ((n1 : Int) > 1000) = false := by simp; omega
  obtain ⟨er, her⟩ : ∃ er : Int, er = if (dcd bb).isSome then 0 else 2 := ⟨_, rfl⟩
  obtain ⟨D, hD⟩ : ∃ D, D = (dcd bb).getD [] := ⟨_, rfl⟩
  have DEC : Hid (∀ W, Below w.heap.size w W → Calls Try.prog 30 #[.slice a1 n1 c1] W fun e w' => ∃ x k c, e = .returned (.tuple #[.slice x k c, .int .i64 er]) ∧ TRd w' (.slice x k c) D ∧ Below W.heap.size W w') := hid_of (fun W hb => by rw [her, hD]; exact decode_any a1 n1 c1 bb W (hB.later hb (Nat.le_refl _)) hbr (by omega))
  have RDE : Hid (∀ W, Below w.heap.size w W → Calls Try.prog 31 #[.slice a1 n1 c1] W fun e w' => ∃ x k c, e = .returned (.tuple #[.slice x k c, .int .i64 er]) ∧ TRd w' (.slice x k c) D ∧ Below W.heap.size W w') := hid_of (fun W hb => by rw [her, hD]; exact rdecode_any a1 n1 c1 bb W (hB.later hb (Nat.le_refl _)) hbr (by omega))
  obtain ⟨E, hE⟩ : ∃ E, E = encW l0 := ⟨_, rfl⟩
  have ENC : Hid (∀ W, Below w.heap.size w W → Calls Try.prog 29 #[.slice a0 n0 c0] W fun e w' => ∃ x k c, e = .returned (.slice x k c) ∧ BR w' (.slice x k c) E ∧ Below W.heap.size W w') := hid_of (fun W hb => by rw [hE]; exact encode_w a0 n0 c0 l0 W (R0.out.later hb (Nat.le_refl _)))
  have REN : Hid (∀ W, Below w.heap.size w W → Calls Try.prog 32 #[.slice a0 n0 c0] W fun e w' => ∃ x k c, e = .returned (.slice x k c) ∧ BR w' (.slice x k c) E ∧ Below W.heap.size W w') := hid_of (fun W hb => by rw [hE]; exact rencode_any a0 n0 c0 l0 W (R0.out.later hb (Nat.le_refl _)))
  obtain ⟨S, hS⟩ : ∃ S, S = strOfNums E := ⟨_, rfl⟩
  have CV : Hid (∀ W v, BR W v E → (convert 35 9 v).run Try.prog W = .ok (.string S) W) := hid_of (fun W v h => by rw [hS]; exact conv_br h)
  have SAM : Hid (∀ (W : World) (x : Option Addr) (k c : Nat) (y : Option Addr) (m e : Nat), TRd W (.slice x k c) D → TRd W (.slice y m e) D → Calls Try.prog 20 #[.slice x k c, .slice y m e] W fun e w' => e = .returned (.bool true) ∧ Below W.heap.size W w') := hid_of (fun W x k c y m e h1 h2 => same_c h1 h2 (decide_eq_true rfl).symm)
  have ee : (er == er) = true := by simp
  clear w0 w1 hbl hbr hB h1000 her hD hE hS R0 R1
  go_enter Try.func11, Try.ntmps11
  go_wp2_with (first
      | (go_at_call 12; ((with_reducible refine AW.out.mono ?_); (rintro e w2 ⟨rfl, h2⟩; replace HB := hid_of (bel_step HB.out h2 (Nat.le_refl _)); clear h2)))
      | (go_at_call 13; ((with_reducible refine (long_c L0.out).mono ?_); (rintro e w2 ⟨rfl, rfl⟩)))
      | (go_at_call 30; ((with_reducible refine (DEC.out w2 HB.out).mono ?_); (rintro e w3 ⟨xd, kd, cd, rfl, h1, h2⟩; have HD3 := hid_of h1; replace HB := hid_of (bel_step HB.out h2 (Nat.le_refl _)); clear h1 h2)))
      | (go_at_call 31; ((with_reducible refine (RDE.out w3 HB.out).mono ?_); (rintro e w4 ⟨xr, kr, cr, rfl, h1, h2⟩; have HX4 := hid_of h1; have HD4 := hid_of (HD3.out.at h2); replace HB := hid_of (bel_step HB.out h2 (Nat.le_refl _)); clear h1 h2))))
  have HBD := hid_of HB.out.drew
  have DD := hid_of (HD4.out.at (Below.refl _ w4).drew)
  have XD := hid_of (HX4.out.at (Below.refl _ w4).drew)
  clear HD3 HD4 HX4 AW L0 DEC RDE
  go_region_held_law (fun _ => True) (trivial) (first
    | (go_at_call 29; (first
        | ((with_reducible refine (ENC.out w4.drew HBD.out).mono ?_); (rintro e wt ⟨xt, kt, ct, rfl, h1, h2⟩; have HLT := hid_of h1; have HBT := hid_of (bel_step HBD.out h2 (Nat.le_refl _)); have DT := hid_of (DD.out.at h2); have XT := hid_of (XD.out.at h2); have cvt := CV.out wt _ HLT.out; clear h1 h2))
        | ((with_reducible refine (ENC.out wr HBR.out).mono ?_); (rintro e wt ⟨xt, kt, ct, rfl, h1, h2⟩; have HLT := hid_of h1; have HBT := hid_of (bel_step HBR.out h2 (Nat.le_refl _)); have DT := hid_of (DR.out.at h2); have XT := hid_of (XR.out.at h2); have cvt := CV.out wt _ HLT.out; have cvr2 := CV.out wt _ (HLR.out.at h2); clear h1 h2))))
    | (go_at_call 32; (first
        | ((with_reducible refine (REN.out w4.drew HBD.out).mono ?_); (rintro e wr ⟨xq, kq, cq, rfl, h1, h2⟩; have HLR := hid_of h1; have HBR := hid_of (bel_step HBD.out h2 (Nat.le_refl _)); have DR := hid_of (DD.out.at h2); have XR := hid_of (XD.out.at h2); have cvr := CV.out wr _ HLR.out; clear h1 h2))
        | ((with_reducible refine (REN.out wt HBT.out).mono ?_); (rintro e wr ⟨xq, kq, cq, rfl, h1, h2⟩; have HLR := hid_of h1; have HBR := hid_of (bel_step HBT.out h2 (Nat.le_refl _)); have DR := hid_of (DT.out.at h2); have XR := hid_of (XT.out.at h2); have cvr := CV.out wr _ HLR.out; have cvt2 := CV.out wr _ (HLT.out.at h2); clear h1 h2))))
    | (go_at_call 20; (first
        | ((with_reducible refine (SAM.out wt _ _ _ _ _ _ DT.out XT.out).mono ?_); (rintro e ws ⟨rfl, h2⟩; have HBS := hid_of (bel_step HBT.out h2 (Nat.le_refl _)); clear h2))
        | ((with_reducible refine (SAM.out wr _ _ _ _ _ _ DR.out XR.out).mono ?_); (rintro e ws ⟨rfl, h2⟩; have HBS := hid_of (bel_step HBR.out h2 (Nat.le_refl _)); clear h2)))))
  all_goals go_wp2
  all_goals go_ret
  all_goals exact ⟨rfl, HBS.out⟩
end Go.Proofs.Ytofgmimdmgaljaa
