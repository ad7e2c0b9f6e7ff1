/- KeyedTag. -/
import Derived.Test.YtogfgcihhnblkaaDoorKeyShort
import Derived.Test.YtogfgcihhnblkaaDoorKeyRefT
import Derived.Deep.QuietTactic
import Derived.BigQuiet
namespace Go.Proofs.YtogfgcihhnblkaaDoor
open Go.RowKit

theorem bel_drewN {B : Nat} {w w' : World} (h : Below B w w') (n : Nat) : Below B w (w'.drewN n) := ⟨h.os, h.tape, h.output, h.size, h.block⟩
theorem short_q {a0 a1 : Option Addr} {n0 n1 c0 c1 : Nat} {r : Bool} (h : ∀ w, Calls Tryd.prog 11 #[.slice a0 n0 c0, .slice a1 n1 c1] w fun e w' => e = .returned (.bool r) ∧ w = w') (w : World) (n : Nat) :
    Calls Tryd.prog 11 #[.slice a0 n0 c0, .slice a1 n1 c1] (w.drewN n) fun e w' => e = .returned (.bool r) ∧ w' = w.drewN n :=
  (h (w.drewN n)).mono fun _ _ h => ⟨h.1, h.2.symm⟩

set_option maxRecDepth 100000 in
set_option maxHeartbeats 800000 in
theorem keyedTag_law (a0 a1 : Option Addr) (n0 n1 c0 c1 : Nat) (z0 z1 : List Int) (w : World) (hG : Glob w) (w0 : IsRow .u8 w a0 n0 c0 z0) (w1 : IsRow .u8 w a1 n1 c1 z1) :
    Calls Tryd.prog 3 #[.slice a0 n0 c0, .slice a1 n1 c1] w fun e w' => e = .returned (.bool true) ∧ Below w.heap.size w w' := by
  obtain ⟨k, hk, kr, hK⟩ := w0.lies
  obtain ⟨m, hm, mr, hM⟩ := w1.lies
  have HG := hid_of hG
  have H2 : Hid (2 ≤ w.heap.size) := hid_of hG.two
  obtain ⟨r, hr⟩ : ∃ r, r = (decide (n0 ≤ 2000) && decide (n1 ≤ 2000)) := ⟨_, rfl⟩
  have SH := hid_of (fun w => short_any a0 a1 n0 c0 n1 c1 r w hr)
  obtain ⟨S, hS⟩ : ∃ S, S = strOfNums (hmac k m) := ⟨_, rfl⟩
  have CV : Hid (∀ W g c, Lies W (.slice (some ⟨g, 0, none⟩) 32 c) (hmac k m) → (convert 22 9 (.slice (some ⟨g, 0, none⟩) 32 c)).run Tryd.prog W = .ok (.string S) W) := hid_of (fun W g c hl => by rw [hS]; exact conv_lies hl)
  cases r
  · clear hG w0 w1 hk kr hK hm mr hM hr hS
    go_enter Tryd.func3, Tryd.ntmps3
    go_wp2_with (go_at_call 10; ((with_reducible refine (awake_any w HG.out).mono ?_); (rintro e w1 ⟨rfl, h1⟩; have HB1 := hid_of h1; clear h1)))
    go_quiet ((go_at_call 11; exact Calls.quiet_of_same (short_q SH.out w1 _)))
    go_wp2
    go_ret
    exact ⟨rfl, bel_drewN HB1.out _⟩
  · have hn : n0 ≤ 2000 ∧ n1 ≤ 2000 := by simpa using hr.symm
    have TAG : Hid (∀ W, Below w.heap.size w W → Calls Tryd.prog 12 #[.slice a0 n0 c0, .slice a1 n1 c1] W fun e w' => ∃ g c, e = .returned (.slice (some ⟨g, 0, none⟩) 32 c) ∧ Lies w' (.slice (some ⟨g, 0, none⟩) 32 c) (hmac k m) ∧ Below W.heap.size W w') := hid_of (fun W hb => (tag_any _ _ k m W (hK.later hb (Nat.le_refl _)) (hM.later hb (Nat.le_refl _)) kr mr (hG.bel hb hG.two) (by omega) (by omega)).mono fun e w' ⟨g, c, h1, _, h2, h3⟩ => ⟨g, c, h1, h2, h3⟩)
    have REF : Hid (∀ W, Below w.heap.size w W → Calls Tryd.prog 13 #[.slice a0 n0 c0, .slice a1 n1 c1] W fun e w' => ∃ g c, e = .returned (.slice (some ⟨g, 0, none⟩) 32 c) ∧ Lies w' (.slice (some ⟨g, 0, none⟩) 32 c) (hmac k m) ∧ Below W.heap.size W w') := hid_of (fun W hb => rtag_any k m a0 a1 n0 c0 n1 c1 W hk hm (hK.later hb (Nat.le_refl _)) (hM.later hb (Nat.le_refl _)) kr mr (by omega) (by omega))
    clear hG w0 w1 hk kr hK hm mr hM hr hS hn
    go_enter Tryd.func3, Tryd.ntmps3
    go_wp2_with (go_at_call 10; ((with_reducible refine (awake_any w HG.out).mono ?_); (rintro e w1 ⟨rfl, h1⟩; have HB1 := hid_of h1; clear h1)))
    have HB1D := hid_of HB1.out.drew
    go_region_with (first
      | (go_at_call 11; ((with_reducible refine (SH.out w1.drew).mono ?_); (rintro e w' ⟨rfl, rfl⟩)))
      | (go_at_call 12; (first
          | ((with_reducible refine (TAG.out w1.drew HB1D.out).mono ?_); (rintro e wt ⟨gt, ct, rfl, hlt, hbt⟩; have HLT := hid_of hlt; have HBT := hid_of (HB1D.out.trans (hbt.mono HB1D.out.size)); have cvt := CV.out wt gt ct HLT.out; clear hlt hbt))
          | ((with_reducible refine (TAG.out wr HBR.out).mono ?_); (rintro e wt ⟨gt, ct, rfl, hlt, hbt⟩; have HLT := hid_of hlt; have HLR2 := hid_of (HLR.out.later hbt (Nat.le_refl _)); have HBT := hid_of (HBR.out.trans (hbt.mono HBR.out.size)); have cvt := CV.out wt gt ct HLT.out; have cvr2 := CV.out wt gr cr HLR2.out; clear hlt hbt))))
      | (go_at_call 13; (first
          | ((with_reducible refine (REF.out w1.drew HB1D.out).mono ?_); (rintro e wr ⟨gr, cr, rfl, hlr, hbr⟩; have HLR := hid_of hlr; have HBR := hid_of (HB1D.out.trans (hbr.mono HB1D.out.size)); have cvr := CV.out wr gr cr HLR.out; clear hlr hbr))
          | ((with_reducible refine (REF.out wt HBT.out).mono ?_); (rintro e wr ⟨gr, cr, rfl, hlr, hbr⟩; have HLR := hid_of hlr; have HLT2 := hid_of (HLT.out.later hbr (Nat.le_refl _)); have HBR := hid_of (HBT.out.trans (hbr.mono HBT.out.size)); have cvr := CV.out wr gr cr HLR.out; have cvt2 := CV.out wr gt ct HLT2.out; clear hlr hbr)))))
    all_goals go_wp2
    all_goals go_ret
    all_goals (first | exact ⟨rfl, HBR.out⟩ | exact ⟨rfl, HBT.out⟩)
end Go.Proofs.YtogfgcihhnblkaaDoor
