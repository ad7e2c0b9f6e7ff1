/- ShaUnhex: the walk. -/
import Derived.Test.YtembofcdoognkaaDoorShaRefUn
namespace Go.Proofs.YtembofcdoognkaaDoor
open Go.RowKit

set_option maxRecDepth 100000 in
set_option maxHeartbeats 1600000 in
theorem shaUnhex_law (s : ByteArray) (w : World) (hG : Glob w) : Calls Tryd.prog 9 #[.string s] w fun e w' => e = .returned (.bool true) ∧ Below w.heap.size w w' := by
  have HG := hid_of hG
  clear hG
  by_cases hn : s.size ≤ 1000
  case neg =>
    go_enter Tryd.func9, Tryd.ntmps9
    go_wp2_with (first
      | (go_at_call 10; refine (awake_any w HG.out).mono ?_; rintro e w1 ⟨rfl, hb1⟩; have HB1 := hid_of hb1; clear hb1))
    go_ret
    exact ⟨rfl, HB1.out⟩
  obtain ⟨h, hh⟩ : ∃ h, h = strOfNums (hexL (strBytes s)) := ⟨_, rfl⟩
  obtain ⟨S, b, hS⟩ := unh_ex s
  have HEX := hid_of (fun w => hex_any s w (by omega))
  have RHEX := hid_of (fun w => rhex_any s w (by omega))
  have UNH : Hid (∀ w : World, Calls Tryd.prog 20 #[.string s] w fun e w' => e = .returned (.tuple #[.string S, .bool b]) ∧ Below w.heap.size w w') := hid_of (fun w => (unhex_any s w (by omega)).mono fun e w' ⟨h1, h2⟩ => ⟨hS e h2, h1⟩)
  have RUNH : Hid (∀ w : World, Calls Tryd.prog 21 #[.string s] w fun e w' => e = .returned (.tuple #[.string S, .bool b]) ∧ Below w.heap.size w w') := hid_of (fun w => (runhex_any s w (by omega)).mono fun e w' ⟨h1, h2⟩ => ⟨hS e h2, h1⟩)
  rw [← hh] at HEX RHEX
  clear hh hS
  go_enter Tryd.func9, Tryd.ntmps9
  go_wp2_with (first
    | (go_at_call 10; refine (awake_any w HG.out).mono ?_; rintro e w1 ⟨rfl, hb1⟩; have HB1 := hid_of hb1; clear hb1)
    | (go_at_call 20; refine (UNH.out w1).mono ?_; rintro e w2 ⟨rfl, hb2⟩; have HB2 := hid_of (HB1.out.trans (hb2.mono HB1.out.size)); clear hb2)
    | (go_at_call 21; refine (RUNH.out w2).mono ?_; rintro e w3 ⟨rfl, hb3⟩; have HB3 := hid_of (HB2.out.trans (hb3.mono HB2.out.size)); clear hb3)
    | (go_at_call 19; refine (HEX.out w3).mono ?_; rintro e w4 ⟨rfl, hb4⟩; have HB4 := hid_of (HB3.out.trans (hb4.mono HB3.out.size)); clear hb4)
    | (go_at_call 22; refine (RHEX.out w4).mono ?_; rintro e w5 ⟨rfl, hb5⟩; have HB5 := hid_of (HB4.out.trans (hb5.mono HB4.out.size)); clear hb5))
  go_ret
  exact ⟨rfl, HB5.out⟩
end Go.Proofs.YtembofcdoognkaaDoor
