/- The reference's Verify of package keyed. Bounds on the sizes. -/
import Derived.Test.YtogfgcihhnblkaaDoorKeyRefS
import Derived.Deep.RegionHeldLaw
namespace Go.Proofs.YtogfgcihhnblkaaDoor
open Go.RowKit

set_option maxRecDepth 100000 in
theorem rverify_any (k m t : List Int) (ao bo to : Option Addr) (n cap mm bc tn tc : Nat) (p h : Int) (w : World) (hkn : k.length = n) (hmn : m.length = mm) (hK : Lies w (.slice ao n cap) k) (hM : Lies w (.slice bo mm bc) m) (hT : Lies w (.slice to tn tc) t) (hk : ∀ y ∈ k, 0 ≤ y ∧ y ≤ 255) (hm : ∀ y ∈ m, 0 ≤ y ∧ y ≤ 255) (ht : ∀ y ∈ t, 0 ≤ y ∧ y ≤ 255) (hn : n ≤ 2200) (hn2 : mm ≤ 2200) (hp : R64 p) (hh : R64 h) :
    Calls Tryd.prog 23 #[.slice ao n cap, .int .i64 p, .int .i64 h, .slice bo mm bc, .slice to tn tc] w fun e w' => e = .returned (.bool (decide (t = hmac (derive k p h) m))) ∧ Below w.heap.size w w' := by
  obtain ⟨D, hD⟩ : ∃ D, D = hmac (derive k p h) m := ⟨_, rfl⟩
  obtain ⟨R, hR⟩ : ∃ R, R = decide (t = D) := ⟨_, rfl⟩
  obtain ⟨SA, hSA⟩ : ∃ SA, SA = strOfNums D := ⟨_, rfl⟩
  obtain ⟨SB, hSB⟩ : ∃ SB, SB = strOfNums t := ⟨_, rfl⟩
  have heq : (SA.toList == SB.toList) = R := by rw [hSA, hSB, hR, strs_beq (by rw [hD]; exact hmac_rng _ _) ht]; exact decide_eq_decide.2 eq_comm
  have SIG : Hid (∀ W, Below w.heap.size w W → Calls Tryd.prog 21 #[.slice ao n cap, .int .i64 p, .int .i64 h, .slice bo mm bc] W fun e w' => ∃ g c, e = .returned (.slice (some ⟨g, 0, none⟩) 32 c) ∧ Lies w' (.slice (some ⟨g, 0, none⟩) 32 c) D ∧ Below W.heap.size W w') := hid_of (fun W hb => by
    rw [hD]; exact rsign_any k m ao bo n cap mm bc p h W hkn hmn (hK.later hb (Nat.le_refl _)) (hM.later hb (Nat.le_refl _)) hk hm hn hn2 hp hh)
  have CVA : Hid (∀ W g c, Lies W (.slice (some ⟨g, 0, none⟩) 32 c) D → (convert 22 9 (.slice (some ⟨g, 0, none⟩) 32 c)).run Tryd.prog W = .ok (.string SA) W) := hid_of (fun W g c hl => by rw [hSA]; exact conv_lies hl)
  have CVB : Hid (∀ W, Below w.heap.size w W → (convert 22 9 (.slice to tn tc)).run Tryd.prog W = .ok (.string SB) W) := hid_of (fun W hb => by rw [hSB]; exact conv_lies (hT.later hb (Nat.le_refl _)))
  rw [← hD, ← hR]
  have HBD : Hid (Below w.heap.size w w.drew) := hid_of (Below.refl _ w).drew
  clear hkn hmn hK hM hT hk hm ht hn hn2 hp hh hD hR hSA hSB
  go_enter Tryd.func23, Tryd.ntmps23
  go_wp2
  go_region_held_law (fun W => (convert 22 9 (.slice to tn tc)).run Tryd.prog W = .ok (.string SB) W) (first | exact CVB.out _ HBD.out | exact CVB.out _ HB1.out) ((go_at_call 21; ((with_reducible refine (SIG.out w.drew HBD.out).mono ?_); (rintro e w1 ⟨g1, c1, rfl, h1, hb1⟩; have HB1 := hid_of (HBD.out.trans (hb1.mono HBD.out.size)); have cva := CVA.out w1 g1 c1 h1; clear h1 hb1))))
  all_goals go_wp2
  all_goals go_ret
  all_goals exact ⟨rfl, HB1.out⟩
end Go.Proofs.YtogfgcihhnblkaaDoor
