/- ShaCuts: the walk. -/
import Derived.Test.YtembofcdoognkaaDoorShaPieces
namespace Go.Proofs.YtembofcdoognkaaDoor
open Go.RowKit

theorem flat_rng {zs : List (List Int)} (h : ∀ m ∈ zs, ∀ y ∈ m, 0 ≤ y ∧ y ≤ 255) : ∀ y ∈ zs.flatten, 0 ≤ y ∧ y ≤ 255 := by
  intro y hy
  obtain ⟨m, hm, hy⟩ := List.mem_flatten.1 hy
  exact h m hm y hy
theorem joined_good (zs : List (List Int)) (ao : Option Addr) (len cap : Nat) (w : World) (h : IsPieces w ao len cap zs) (h1 : len ≤ 2000) (h2 : zs.flatten.length ≤ 2000) :
    Calls Tryd.prog 13 #[.slice ao len cap] w fun e w' => ∃ (ao : Option Addr) (c : Nat), e = .returned (.tuple #[.slice ao zs.flatten.length c, .bool true]) ∧ OS w.heap.size w w' (.slice ao zs.flatten.length c) zs.flatten := by
  refine (joined_any zs ao len cap w h).mono fun e w' hh => ?_
  rcases hh with ⟨_, _, ao, n, c, he, rfl, ho⟩ | ⟨hno, _⟩
  · exact ⟨ao, c, he, ho⟩
  · omega
theorem joined_bad (zs : List (List Int)) (ao : Option Addr) (len cap : Nat) (w : World) (h : IsPieces w ao len cap zs) (h1 : ¬ (len ≤ 2000 ∧ zs.flatten.length ≤ 2000)) :
    Calls Tryd.prog 13 #[.slice ao len cap] w fun e w' => e = .returned (.tuple #[.slice none 0 0, .bool false]) ∧ Below w.heap.size w w' := by
  refine (joined_any zs ao len cap w h).mono fun e w' hh => ?_
  rcases hh with ⟨h2, h3, _⟩ | ⟨_, he, hb⟩
  · exact absurd ⟨h2, h3⟩ h1
  · exact ⟨he, hb⟩
theorem IsPieces.at {w w' : World} {a : Option Addr} {len cap : Nat} {zs : List (List Int)} (h : IsPieces w a len cap zs) (hb : Below w.heap.size w w') : IsPieces w' a len cap zs := by
  obtain ⟨h1, h2, h3, h4, h5⟩ := h
  refine ⟨h1, h2, h3, h4, fun h0 => ?_⟩
  obtain ⟨b, o, e, hlt, hc⟩ := h5 h0
  refine ⟨b, o, e, Nat.lt_of_lt_of_le hlt hb.size, fun i m hm => ?_⟩
  obtain ⟨v, hv, hl⟩ := hc i m hm
  exact ⟨v, (hb.cell (p := ⟨b, o + i, none⟩) hlt).trans hv, hl.at hb⟩

/-- A row that was there before the State reads as it did. -/
theorem lies_kept {w w1 w2 : World} {v : Value} {l : List Int} {b : Nat} (h : Lies w v l) (hb : w.heap.size ≤ b) (h1 : Below w.heap.size w w1) (h2 : Kept (fun g => g = b) w1 w2) : Lies w2 v l :=
  h.at (h1.trans (h2.below h1.size (fun k hk => by omega)))

set_option maxRecDepth 100000 in
set_option maxHeartbeats 3200000 in
theorem shaCuts_law (zs : List (List Int)) (ao : Option Addr) (len cap : Nat) (w : World) (hG : Glob w) (h : IsPieces w ao len cap zs) :
    Calls Tryd.prog 4 #[.slice ao len cap] w fun e w' => e = .returned (.bool true) ∧ Below w.heap.size w w' := by
  have HG := hid_of hG
  have H2 : Hid (2 ≤ w.heap.size) := hid_of hG.two
  have HP := hid_of h
  clear hG h
  by_cases hgood : len ≤ 2000 ∧ zs.flatten.length ≤ 2000
  case neg =>
    have HN := hid_of hgood
    clear hgood
    go_enter Tryd.func4, Tryd.ntmps4
    go_wp2_with (first
      | (go_at_call 10; refine (awake_any w HG.out).mono ?_; rintro e w1 ⟨rfl, hb1⟩; have HB1 := hid_of hb1; clear hb1)
      | (go_at_call 13; refine (joined_bad zs ao len cap w1 (HP.out.at HB1.out) HN.out).mono ?_; rintro e w2 ⟨rfl, hb2⟩; have HB2 := hid_of (HB1.out.trans (hb2.mono HB1.out.size)); clear hb2))
    go_ret
    exact ⟨rfl, HB2.out⟩
  obtain ⟨g1, g2⟩ := hgood
  obtain ⟨x, hx⟩ : ∃ x, x = zs.flatten := ⟨_, rfl⟩
  obtain ⟨N, hN⟩ : ∃ N, N = x.length := ⟨_, rfl⟩
  have RX : Hid (∀ y ∈ x, 0 ≤ y ∧ y ≤ 255) := hid_of (by rw [hx]; exact flat_rng HP.out.2.2.2.1)
  have JG := hid_of (fun (w1 : World) (h1 : IsPieces w1 ao len cap zs) => joined_good zs ao len cap w1 h1 g1 g2)
  rw [← hx, ← hN] at JG g2
  have HX := hid_of hx
  have HN := hid_of hN
  have HL := hid_of HP.out.1
  clear hx hN
  go_enter Tryd.func4, Tryd.ntmps4
  go_wp2_with (first
    | (go_at_call 10; refine (awake_any w HG.out).mono ?_; rintro e w1 ⟨rfl, hb1⟩; have HB1 := hid_of hb1; clear hb1)
    | (go_at_call 13; refine (JG.out w1 (HP.out.at HB1.out)).mono ?_; rintro e w2 ⟨xo, xc, rfl, h2⟩; have X2 := hid_of (h2.lies (by rw [← HN.out]; omega)); have HB2 := hid_of (HB1.out.trans (h2.bel.mono HB1.out.size)); clear h2)
    | (go_at_call 14; refine (new_any w2 (HG.out.at HB2.out)).mono ?_; rintro e w3 ⟨rfl, h3, hb3⟩; have S3 := hid_of h3; have HBB3 := hid_of hb3; have HB3 := hid_of (HB2.out.trans (hb3.mono HB2.out.size)); clear h3 hb3))
  go_loopw [6] (fun iv wr => ∃ k : Nat, k ≤ len ∧ iv = .int .i64 k ∧ Hid (Sst wr w2.heap.size (zs.take k).flatten) ∧ Hid (Kept (fun g => g = w2.heap.size) w3 wr)) (fun i _ => len - (intOf i).toNat)
  case atStart => exact ⟨0, Nat.zero_le _, rfl, hid_of S3.out, hid_of (Kept.refl _ _)⟩
  case round =>
    obtain ⟨k, hk, rfl, hst, hkept⟩ := hrel
    have HBR := hid_of (HB3.out.trans (hkept.out.below HB3.out.size (fun k hk => by have := HB2.out.size; omega)))
    by_cases hlt : k < len
    · obtain ⟨b, o, rfl, hbl, hcells⟩ := HP.out.2.2.2.2 (by omega)
      obtain ⟨m, hm⟩ : ∃ m, zs[k]? = some m := ⟨_, List.getElem?_eq_getElem (by rw [HL.out]; exact hlt)⟩
      obtain ⟨v, hv, hlies⟩ := hcells k m hm
      have HFS := hid_of (flat_snoc hm)
      have HLE : Hid (((zs.take k).flatten).length + m.length ≤ 2000) := hid_of (by
        have h1 := flat_le zs (k + 1)
        rw [flat_snoc hm, List.length_append, ← HX.out, ← HN.out] at h1
        omega)
      have HRM := hid_of (fun y hy => HP.out.2.2.2.1 m (List.mem_of_getElem? hm) y hy)
      have hcell : wr.cell? ⟨b, o + k, none⟩ = some v := (HBR.out.cell (p := ⟨b, o + k, none⟩) hbl).trans hv
      have HR := hid_of (hlies.rest HBR.out HB2.out.size)
      clear hcells hv hm hlies
      go_wp2_with (go_at_call 15; refine (write_any w2.heap.size (zs.take k).flatten m v wr hst.out HR.out HRM.out (HG.out.at HBR.out) (Nat.le_trans H2.out HB2.out.size) (by have := HLE.out; omega)).mono ?_; rintro e w4 ⟨rfl, h4, hk4⟩; have S4 := hid_of h4; have HK4 := hid_of (hkept.out.trans hk4); clear h4 hk4)
      go_roundw
      case rel => exact ⟨k + 1, by omega, by go_num, hid_of (by rw [HFS.out]; exact S4.out), HK4⟩
      case measure => simp [intOf]; omega
    · obtain rfl : k = len := by omega
      have hfull : zs.take k = zs := List.take_of_length_le (by rw [HL.out]; exact Nat.le_refl _)
      have S5 : Hid (Sst wr w2.heap.size x) := hid_of (by have h := hst.out; rw [hfull, ← HX.out] at h; exact h)
      have X5 : Hid (Lies wr (.slice xo N xc) x) := hid_of (lies_kept X2.out (Nat.le_refl _) HBB3.out hkept.out)
      obtain ⟨w5, rfl⟩ : ∃ w5 : World, w5 = wr := ⟨_, rfl⟩
      clear hfull hst hkept
      have hlen5 : ((x.length : Nat) : Int) = (N : Int) := by rw [HN.out]
      go_wp2_with (first
        | (go_at_call 16; refine (len_any w2.heap.size x w5 S5.out).mono ?_; rintro e w' ⟨rfl, rfl⟩)
        | (go_at_call 17; refine (sum_any w2.heap.size x w5 S5.out (HG.out.at HBR.out) (by rw [← HN.out]; omega)).mono ?_; rintro e w6 ⟨rfl, hb6⟩; have X6 := hid_of (X5.out.at hb6); have HB6 := hid_of (HBR.out.trans (hb6.mono HBR.out.size)); clear hb6)
        | (go_at_call 11; refine (sumf_any (.slice xo N xc) x w6 X6.out RX.out (HG.out.at HB6.out) (by rw [← HN.out]; omega)).mono ?_; rintro e w7 ⟨rfl, hb7⟩; have HB7 := hid_of (HB6.out.trans (hb7.mono HB6.out.size)); clear hb7))
      go_ret
      exact ⟨rfl, HB7.out⟩
end Go.Proofs.YtembofcdoognkaaDoor
