/- The reference's Reduction. Bounds on sizes alone. -/
import Derived.Test.YtjfjcgbdpjpodaaDoorOrdRpr
namespace Go.Proofs.YtjfjcgbdpjpodaaDoor
open Go.RowKit

set_option maxRecDepth 100000 in
set_option maxHeartbeats 3200000 in
theorem rred_any (ao : Option Addr) (n cap : Nat) (M : Nat → Nat → Bool) (w : World) (h : RdG w (.slice ao n cap) n M) (hn : n ≤ 64) :
    Calls Tryd.prog 30 #[.slice ao n cap] w fun e w' => ∃ xo k c, e = .returned (.slice xo k c) ∧ TRd w' (.slice xo k c) (matp n (rm n M) n) ∧ Below w.heap.size w w' := by
  have H := hid_of h
  have HN := hid_of hn
  have O0 := hid_of (ot_empty w)
  clear h
  go_enter Tryd.func30, Tryd.ntmps30
  go_wp2
  go_loopw [3, 4] (fun ov iv wr => ∃ (a : Nat) (xo : Option Addr) (k xc : Nat), a ≤ n ∧ iv = .int .i64 a ∧ ov = .slice xo k xc ∧ Hid (k = (matp n (rm n M) a).length ∧ OT w.heap.size w wr (.slice xo k xc) (matp n (rm n M) a))) (fun _ iv _ => n - (intOf iv).toNat)
  case atStart => exact ⟨0, _, 0, 0, Nat.zero_le _, rfl, rfl, hid_of ⟨rfl, O0.out⟩⟩
  case round =>
    obtain ⟨a, xo, k, xc, ha, rfl, rfl, hs⟩ := hrel
    by_cases hlt : a < n
    · have hd : decide (a < n) = true := by simp; omega
      obtain ⟨wo, hwo⟩ : ∃ wo : World, wo = wr := ⟨_, rfl⟩
      rw [← hwo] at hs ⊢
      clear hwo
      go_wp2
      go_loopw [3, 5] (fun ov iv wr => ∃ (b : Nat) (xo : Option Addr) (k xc : Nat), b ≤ n ∧ iv = .int .i64 b ∧ ov = .slice xo k xc ∧ Hid (k = (matp n (rm n M) a ++ rowp (rm n M) a b).length ∧ OT w.heap.size w wr (.slice xo k xc) (matp n (rm n M) a ++ rowp (rm n M) a b))) (fun _ iv _ => n - (intOf iv).toNat)
      case atStart => exact ⟨0, _, _, _, Nat.zero_le _, rfl, rfl, hid_of ⟨by rw [hs.out.1]; simp [rowp], by simpa [rowp] using hs.out.2⟩⟩
      case round =>
        clear hs
        obtain ⟨b, xo, k, xc, hb, rfl, rfl, hs⟩ := hrel
        by_cases hlt2 : b < n
        · have hd2 : decide (b < n) = true := by simp; omega
          have HNX : Hid (matp n (rm n M) a ++ rowp (rm n M) a (b + 1) = addp (rm n M a b) (matp n (rm n M) a ++ rowp (rm n M) a b) ((a : Int), (b : Int))) := hid_of (by rw [rowp_succ])
          have HLN : Hid ((matp n (rm n M) a ++ rowp (rm n M) a b).length ≤ 10000) := hid_of (matp_len9 hn (rm n M) ha hb)
          obtain ⟨L, hL⟩ : ∃ L, L = matp n (rm n M) a ++ rowp (rm n M) a b := ⟨_, rfl⟩
          rw [← hL] at hs HNX HLN
          clear hL
          obtain ⟨q, rfl, hq, hqc⟩ := H.out.open (by omega)
          have HCC : Hid (∀ i, i < n → ∃ g, wr.cell? ⟨q, i, none⟩ = some (.slice (some ⟨g, 0, none⟩) n n) ∧ ∀ j, j < n → wr.cell? ⟨g, j, none⟩ = some (.bool (M i j))) := hid_of (fun i hi => by
            obtain ⟨g, hg, r1, r2⟩ := hqc i hi
            exact ⟨g, (hs.out.2.bel.cell (p := ⟨q, i, none⟩) hq).trans r1, fun j hj => (hs.out.2.bel.cell (p := ⟨g, j, none⟩) hg).trans (r2 j hj)⟩)
          clear hqc
          obtain ⟨wi, hwi⟩ : ∃ wi : World, wi = wr := ⟨_, rfl⟩
          rw [← hwi] at hs HCC ⊢
          clear hwi
          go_wp2
          go_loopw [6, 7] (fun bv iv wr => ∃ c : Nat, c ≤ n ∧ iv = .int .i64 c ∧ bv = .bool ((List.range c).any fun c => M a c && M c b) ∧ wi = wr) (fun _ iv _ => n - (intOf iv).toNat)
          case atStart => exact ⟨0, Nat.zero_le _, rfl, rfl, rfl⟩
          case round =>
            obtain ⟨c, hc, rfl, rfl, rfl⟩ := hrel
            have r0 : ∀ i, i < n → ∃ g, wi.cell? ⟨q, i, none⟩ = some (.slice (some ⟨g, 0, none⟩) n n) ∧ ∀ j, j < n → wi.cell? ⟨g, j, none⟩ = some (.bool (M i j)) := HCC.out
            obtain ⟨ga, r1, ra⟩ := r0 a hlt
            obtain ⟨R, hR⟩ : ∃ R, R = (List.range c).any fun c => M a c && M c b := ⟨_, rfl⟩
            rw [← hR]
            have HR := hid_of hR
            by_cases hlt3 : c < n
            · have hd3 : decide (c < n) = true := by simp; omega
              obtain ⟨gc, r2, rc⟩ := r0 c hlt3
              have r3 := ra c hlt3
              have r4 := rc b hlt2
              obtain ⟨v1, hv1⟩ : ∃ v, v = M a c := ⟨_, rfl⟩
              obtain ⟨v2, hv2⟩ : ∃ v, v = M c b := ⟨_, rfl⟩
              rw [← hv1] at r3
              rw [← hv2] at r4
              have HMS : Hid ((List.range (c + 1)).any (fun c => M a c && M c b) = (R || (v1 && v2))) := hid_of (by rw [List.range_succ, List.any_append, hR, hv1, hv2]; simp)
              have b1 : (a : Int) < (n : Int) := by omega
              have b0 : (0 : Int) ≤ (a : Int) := by omega
              have b3 : (b : Int) < (n : Int) := by omega
              have b2 : (0 : Int) ≤ (b : Int) := by omega
              have b5 : (c : Int) < (n : Int) := by omega
              have b4 : (0 : Int) ≤ (c : Int) := by omega
              clear hv1 hv2 r0 ra rc hR
              cases v1
              · go_wp2
                go_roundw
                case rel => exact ⟨c + 1, by omega, by go_num, by rw [HMS.out]; simp, by first | rfl | trivial⟩
                case measure => simp [intOf]; omega
              · cases v2
                · go_wp2
                  go_roundw
                  case rel => exact ⟨c + 1, by omega, by go_num, by rw [HMS.out]; simp, by first | rfl | trivial⟩
                  case measure => simp [intOf]; omega
                · go_wp2
                  go_roundw
                  case rel => exact ⟨c + 1, by omega, by go_num, by rw [HMS.out]; simp, by first | rfl | trivial⟩
                  case measure => simp [intOf]; omega
            · have hd3 : decide (c < n) = false := by simp; omega
              have hcn : c = n := by omega
              have r4 := ra b hlt2
              obtain ⟨t, ht⟩ : ∃ t, t = M a b := ⟨_, rfl⟩
              rw [← ht] at r4
              have HQ : Hid (rm n M a b = (t && !R)) := hid_of (by unfold rm; rw [ht, hR, hcn])
              have b1 : (a : Int) < (n : Int) := by omega
              have b0 : (0 : Int) ≤ (a : Int) := by omega
              have b3 : (b : Int) < (n : Int) := by omega
              have b2 : (0 : Int) ≤ (b : Int) := by omega
              clear ht hR ra r0
              cases t
              · go_wp2
                go_roundw
                case rel => exact ⟨b + 1, xo, k, xc, by omega, by go_num, rfl, hid_of (by rw [HNX.out, HQ.out]; exact hs.out)⟩
                case measure => simp [intOf]; omega
              · cases R
                · go_wp2_with (at_builtin; ((refine wpList_pr rfl _ _ rfl (v := .slice xo k xc) rfl hs.out.2 ((a : Int), (b : Int)) rfl (by have := HLN.out; omega) ?_); intro xo5 xn5 xc5 w5 hxn h5; have N5 := hid_of hxn; have O5 := hid_of h5; clear h5 hxn))
                  go_roundw
                  case rel => exact ⟨b + 1, xo5, xn5, xc5, by omega, by go_num, rfl, hid_of (by rw [HNX.out, HQ.out]; exact ⟨by rw [N5.out]; simp [addp], O5.out⟩)⟩
                  case measure => simp [intOf]; omega
                · go_wp2
                  go_roundw
                  case rel => exact ⟨b + 1, xo, k, xc, by omega, by go_num, rfl, hid_of (by rw [HNX.out, HQ.out]; exact hs.out)⟩
                  case measure => simp [intOf]; omega
        · have hd2 : decide (b < n) = false := by simp; omega
          go_wp2
          go_roundw
          case rel => exact ⟨a + 1, xo, k, xc, by omega, by go_num, rfl, hid_of (by rw [matp_succ]; have := hs.out; rw [show b = n by omega] at this; exact this)⟩
          case measure => simp [intOf]; omega
    · have hd : decide (a < n) = false := by simp; omega
      have HE : Hid (TRd wr (.slice xo k xc) (matp n (rm n M) n) ∧ Below w.heap.size w wr) := hid_of (by have := hs.out; rw [show a = n by omega] at this; exact ⟨this.2.rd, this.2.bel⟩)
      clear hs
      go_wp2
      go_ret
      exact ⟨xo, k, xc, rfl, HE.out.1, HE.out.2⟩
end Go.Proofs.YtjfjcgbdpjpodaaDoor
