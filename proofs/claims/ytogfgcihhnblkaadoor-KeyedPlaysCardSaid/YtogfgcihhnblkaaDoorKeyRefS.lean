/- The reference's Sign and Verify of package keyed. Bounds on the sizes. -/
import Derived.Test.YtogfgcihhnblkaaDoorKeyRefD
import Derived.Test.YtogfgcihhnblkaaDoorKeyTagW
namespace Go.Proofs.YtogfgcihhnblkaaDoor
open Go.RowKit

set_option maxRecDepth 100000 in
theorem rsign_any (k m : List Int) (ao bo : Option Addr) (n cap mm bc : Nat) (p h : Int) (w : World) (hkn : k.length = n) (hmn : m.length = mm) (hK : Lies w (.slice ao n cap) k) (hM : Lies w (.slice bo mm bc) m) (hk : ∀ y ∈ k, 0 ≤ y ∧ y ≤ 255) (hm : ∀ y ∈ m, 0 ≤ y ∧ y ≤ 255) (hn : n ≤ 2200) (hn2 : mm ≤ 2200) (hp : R64 p) (hh : R64 h) :
    Calls Tryd.prog 21 #[.slice ao n cap, .int .i64 p, .int .i64 h, .slice bo mm bc] w fun e w' => ∃ g c, e = .returned (.slice (some ⟨g, 0, none⟩) 32 c) ∧ Lies w' (.slice (some ⟨g, 0, none⟩) 32 c) (hmac (derive k p h) m) ∧ Below w.heap.size w w' := by
  have DER := hid_of (rderive_any k ao n cap p h w hkn hK hk hn hp hh)
  have TAG := hid_of (fun (W : World) (g c : Nat) (hb : Below w.heap.size w W) (hl : Lies W (.slice (some ⟨g, 0, none⟩) 32 c) (derive k p h)) => rtag_any (derive k p h) m (some ⟨g, 0, none⟩) bo 32 c mm bc W (hmac_length _ _) hmn hl (hM.later hb (Nat.le_refl _)) (hmac_rng _ _) hm (by omega) hn2)
  clear hkn hmn hK hM hk hm hn hn2 hp hh
  go_enter Tryd.func21, Tryd.ntmps21
  go_wp2_with (first
    | (go_at_call 15; ((with_reducible refine DER.out.mono ?_); (rintro e w1 ⟨g1, c1, rfl, h1, hb1⟩; have L1 := hid_of h1; have HB1 := hid_of hb1; clear h1 hb1)))
    | (go_at_call 13; ((with_reducible refine (TAG.out w1 g1 c1 HB1.out L1.out).mono ?_); (rintro e w2 ⟨g2, c2, rfl, h2, hb2⟩; have L2 := hid_of h2; have HB2 := hid_of (HB1.out.trans (hb2.mono HB1.out.size)); clear h2 hb2))))
  go_ret
  exact ⟨_, _, rfl, L2.out, HB2.out⟩
end Go.Proofs.YtogfgcihhnblkaaDoor
