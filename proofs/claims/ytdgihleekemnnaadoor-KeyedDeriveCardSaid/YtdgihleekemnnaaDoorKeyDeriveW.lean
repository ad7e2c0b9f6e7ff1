/- KeyedDerive. -/
import Derived.Test.YtdgihleekemnnaaDoorKeyRefD
import Derived.Test.YtdgihleekemnnaaDoorKeyTagW
namespace Go.Proofs.YtdgihleekemnnaaDoor
open Go.RowKit

set_option maxRecDepth 100000 in
set_option maxHeartbeats 800000 in
theorem keyedDerive_law (a0 : Option Addr) (n0 c0 : Nat) (z0 : List Int) (p h : Int) (w : World) (hG : Glob w) (w0 : IsRow .u8 w a0 n0 c0 z0) (hp : R64 p) (hh : R64 h) :
    Calls Tryd.prog 4 #[.slice a0 n0 c0, .int .i64 p, .int .i64 h] w fun e w' => e = .returned (.bool true) ∧ Below w.heap.size w w' := by
  obtain ⟨k, hk, kr, hK⟩ := w0.lies
  have HG := hid_of hG
  obtain ⟨r, hr⟩ : ∃ r, r = (decide (n0 ≤ 2000) && decide (0 ≤ 2000)) := ⟨_, rfl⟩
  have SH := hid_of (fun w => short_any a0 none n0 c0 0 0 r w hr)
  obtain ⟨S, hS⟩ : ∃ S, S = strOfNums (derive k p h) := ⟨_, rfl⟩
  have CV : Hid (∀ W g c, Lies W (.slice (some ⟨g, 0, none⟩) 32 c) (derive k p h) → (convert 22 9 (.slice (some ⟨g, 0, none⟩) 32 c)).run Tryd.prog W = .ok (.string S) W) := hid_of (fun W g c hl => by rw [hS]; exact conv_lies hl)
  cases r
  · clear hG w0 hk kr hK hr hS
    go_enter Tryd.func4, Tryd.ntmps4
    go_wp2_with (go_at_call 10; ((with_reducible refine (awake_any w HG.out).mono ?_); (rintro e w1 ⟨rfl, h1⟩; have HB1 := hid_of h1; clear h1)))
    go_quiet ((go_at_call 11; exact Calls.quiet_of_same (short_q SH.out w1 _)))
    go_wp2
    go_ret
    exact ⟨rfl, bel_drewN HB1.out _⟩
  · have hn : n0 ≤ 2000 := by simpa using hr.symm
    have TAG : Hid (∀ W, Below w.heap.size w W → Calls Tryd.prog 14 #[.slice a0 n0 c0, .int .i64 p, .int .i64 h] W fun e w' => ∃ g c, e = .returned (.slice (some ⟨g, 0, none⟩) 32 c) ∧ Lies w' (.slice (some ⟨g, 0, none⟩) 32 c) (derive k p h) ∧ Below W.heap.size W w') := hid_of (fun W hb => (derive_any _ k p h W (hK.later hb (Nat.le_refl _)) kr hp hh (hG.bel hb hG.two) (by omega)).mono fun e w' ⟨g, c, h1, _, h2, h3⟩ => ⟨g, c, h1, h2, h3⟩)
    have REF : Hid (∀ W, Below w.heap.size w W → Calls Tryd.prog 15 #[.slice a0 n0 c0, .int .i64 p, .int .i64 h] W fun e w' => ∃ g c, e = .returned (.slice (some ⟨g, 0, none⟩) 32 c) ∧ Lies w' (.slice (some ⟨g, 0, none⟩) 32 c) (derive k p h) ∧ Below W.heap.size W w') := hid_of (fun W hb => rderive_any k a0 n0 c0 p h W hk (hK.later hb (Nat.le_refl _)) kr (by omega) hp hh)
    clear hG w0 hk kr hK hr hS hn
    go_enter Tryd.func4, Tryd.ntmps4
    go_wp2_with (go_at_call 10; ((with_reducible refine (awake_any w HG.out).mono ?_); (rintro e w1 ⟨rfl, h1⟩; have HB1 := hid_of h1; clear h1)))
    have HB1D := hid_of HB1.out.drew
    go_region_with (first
      | (go_at_call 11; ((with_reducible refine (SH.out w1.drew).mono ?_); (rintro e w' ⟨rfl, rfl⟩)))
      | (go_at_call 14; (first
          | ((with_reducible refine (TAG.out w1.drew HB1D.out).mono ?_); (rintro e wt ⟨gt, ct, rfl, hlt, hbt⟩; have HLT := hid_of hlt; have HBT := hid_of (HB1D.out.trans (hbt.mono HB1D.out.size)); have cvt := CV.out wt gt ct HLT.out; clear hlt hbt))
          | ((with_reducible refine (TAG.out wr HBR.out).mono ?_); (rintro e wt ⟨gt, ct, rfl, hlt, hbt⟩; have HLT := hid_of hlt; have HLR2 := hid_of (HLR.out.later hbt (Nat.le_refl _)); have HBT := hid_of (HBR.out.trans (hbt.mono HBR.out.size)); have cvt := CV.out wt gt ct HLT.out; have cvr2 := CV.out wt gr cr HLR2.out; clear hlt hbt))))
      | (go_at_call 15; (first
          | ((with_reducible refine (REF.out w1.drew HB1D.out).mono ?_); (rintro e wr ⟨gr, cr, rfl, hlr, hbr⟩; have HLR := hid_of hlr; have HBR := hid_of (HB1D.out.trans (hbr.mono HB1D.out.size)); have cvr := CV.out wr gr cr HLR.out; clear hlr hbr))
          | ((with_reducible refine (REF.out wt HBT.out).mono ?_); (rintro e wr ⟨gr, cr, rfl, hlr, hbr⟩; have HLR := hid_of hlr; have HLT2 := hid_of (HLT.out.later hbr (Nat.le_refl _)); have HBR := hid_of (HBT.out.trans (hbr.mono HBT.out.size)); have cvr := CV.out wr gr cr HLR.out; have cvt2 := CV.out wr gt ct HLT2.out; clear hlr hbr)))))
    all_goals go_wp2
    all_goals go_ret
    all_goals (first | exact ⟨rfl, HBR.out⟩ | exact ⟨rfl, HBT.out⟩)
end Go.Proofs.YtdgihleekemnnaaDoor
