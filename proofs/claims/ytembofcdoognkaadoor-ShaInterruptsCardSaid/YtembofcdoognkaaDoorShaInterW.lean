/- ShaInterrupts: the walk. -/
import Derived.Test.YtembofcdoognkaaDoorShaCutsW
namespace Go.Proofs.YtembofcdoognkaaDoor
open Go.RowKit

/-- A part of a row. -/
theorem Lies.pre {w : World} {ao : Option Addr} {N c n : Nat} {l m r : List Int} (h : Lies w (.slice ao N c) l) (hl : l = m ++ r) (hn : n = m.length) : Lies w (.slice ao n c) m := by
  obtain ⟨a, cc, h1, h2, h3, h4⟩ := h
  simp only [Value.slice.injEq] at h1
  obtain ⟨rfl, rfl, rfl⟩ := h1
  subst hl hn
  rw [List.length_append] at h2
  refine ⟨ao, c, rfl, by omega, h3, fun h0 => ?_⟩
  obtain ⟨g, o, q1, q2, q3⟩ := h4 (by rw [List.length_append]; omega)
  refine ⟨g, o, q1, q2, fun j u hu => q3 j u ?_⟩
  have hj := (List.getElem?_eq_some_iff.1 hu).1
  rw [bs_append, List.getElem?_append_left hj]
  exact hu
theorem flat_split (zs : List (List Int)) (k : Nat) : zs.flatten = (zs.take k).flatten ++ (zs.drop k).flatten := by
  rw [← List.flatten_append, List.take_append_drop]

set_option maxRecDepth 100000 in
set_option maxHeartbeats 3200000 in
theorem shaInterrupts_law (zs : List (List Int)) (ao : Option Addr) (len cap : Nat) (w : World) (hG : Glob w) (h : IsPieces w ao len cap zs) :
    Calls Tryd.prog 5 #[.slice ao len cap] w fun e w' => e = .returned (.bool true) ∧ Below w.heap.size w w' := by
  have HG := hid_of hG
  have H2 : Hid (2 ≤ w.heap.size) := hid_of hG.two
  have HP := hid_of h
  clear hG h
  by_cases hgood : len ≤ 2000 ∧ zs.flatten.length ≤ 2000
  case neg =>
    have HN := hid_of hgood
    clear hgood
    go_enter Tryd.func5, Tryd.ntmps5
    go_wp2_with (first
      | (go_at_call 10; refine (awake_any w HG.out).mono ?_; rintro e w1 ⟨rfl, hb1⟩; have HB1 := hid_of hb1; clear hb1)
      | (go_at_call 13; refine (joined_bad zs ao len cap w1 (HP.out.at HB1.out) HN.out).mono ?_; rintro e w2 ⟨rfl, hb2⟩; have HB2 := hid_of (HB1.out.trans (hb2.mono HB1.out.size)); clear hb2))
    all_goals
      go_ret
      exact ⟨rfl, HB2.out⟩
  obtain ⟨g1, g2⟩ := hgood
  obtain ⟨x, hx⟩ : ∃ x, x = zs.flatten := ⟨_, rfl⟩
  obtain ⟨N, hN⟩ : ∃ N, N = x.length := ⟨_, rfl⟩
  have RX : Hid (∀ y ∈ x, 0 ≤ y ∧ y ≤ 255) := hid_of (by rw [hx]; exact flat_rng HP.out.2.2.2.1)
  have JG := hid_of (fun (w1 : World) (h1 : IsPieces w1 ao len cap zs) => joined_good zs ao len cap w1 h1 g1 g2)
  rw [← hx, ← hN] at JG g2
  have HX := hid_of hx
  have HN := hid_of hN
  have HL := hid_of HP.out.1
  clear hx hN
  by_cases hmany : len ≤ 100
  case neg =>
    go_enter Tryd.func5, Tryd.ntmps5
    go_wp2_with (first
      | (go_at_call 10; refine (awake_any w HG.out).mono ?_; rintro e w1 ⟨rfl, hb1⟩; have HB1 := hid_of hb1; clear hb1)
      | (go_at_call 13; refine (JG.out w1 (HP.out.at HB1.out)).mono ?_; rintro e w2 ⟨xo, xc, rfl, h2⟩; have HB2 := hid_of (HB1.out.trans (h2.bel.mono HB1.out.size)); clear h2))
    all_goals
      go_ret
      exact ⟨rfl, HB2.out⟩
  go_enter Tryd.func5, Tryd.ntmps5
  go_wp2_with (first
    | (go_at_call 10; refine (awake_any w HG.out).mono ?_; rintro e w1 ⟨rfl, hb1⟩; have HB1 := hid_of hb1; clear hb1)
    | (go_at_call 13; refine (JG.out w1 (HP.out.at HB1.out)).mono ?_; rintro e w2 ⟨xo, xc, rfl, h2⟩; have X2 := hid_of (h2.lies (by rw [← HN.out]; omega)); have HB2 := hid_of (HB1.out.trans (h2.bel.mono HB1.out.size)); clear h2)
    | (go_at_call 14; refine (new_any w2 (HG.out.at HB2.out)).mono ?_; rintro e w3 ⟨rfl, h3, hb3⟩; have S3 := hid_of h3; have HBB3 := hid_of hb3; have HB3 := hid_of (HB2.out.trans (hb3.mono HB2.out.size)); clear h3 hb3))
  have HXC : Hid (N ≤ xc) := hid_of (by obtain ⟨_, _, e, h1, _⟩ := X2.out; simp only [Value.slice.injEq] at e; omega)
  go_loopw [6, 7] (fun nv iv wr => ∃ k n : Nat, k ≤ len ∧ iv = .int .i64 k ∧ nv = .int .i64 n ∧ n ≤ N ∧ Hid (n = ((zs.take k).flatten).length) ∧ Hid (Sst wr w2.heap.size (zs.take k).flatten) ∧ Hid (Kept (fun g => g = w2.heap.size) w3 wr)) (fun _ i _ => len - (intOf i).toNat)
  case atStart => exact ⟨0, 0, Nat.zero_le _, rfl, rfl, Nat.zero_le _, hid_of rfl, hid_of S3.out, hid_of (Kept.refl _ _)⟩
  case round =>
    obtain ⟨k, n, hk, rfl, rfl, hnN, hnl, hst, hkept⟩ := hrel
    have HBR := hid_of (HB3.out.trans (hkept.out.below HB3.out.size (fun k hk => by have := HB2.out.size; omega)))
    by_cases hlt : k < len
    · obtain ⟨b, o, rfl, hbl, hcells⟩ := HP.out.2.2.2.2 (by omega)
      obtain ⟨m, hm⟩ : ∃ m, zs[k]? = some m := ⟨_, List.getElem?_eq_getElem (by rw [HL.out]; exact hlt)⟩
      obtain ⟨v, hv, hlies⟩ := hcells k m hm
      have HLI := hid_of hlies
      obtain ⟨av, cv, hve, _, _, _⟩ := hlies
      obtain ⟨lm, hlm⟩ : ∃ lm, lm = m.length := ⟨_, rfl⟩
      rw [← hlm] at hve
      subst hve
      obtain ⟨y, hy⟩ : ∃ y, y = (zs.take k).flatten ++ m := ⟨_, rfl⟩
      have HY := hid_of hy
      have HFS : Hid ((zs.take (k + 1)).flatten = y) := hid_of (by rw [hy]; exact flat_snoc hm)
      obtain ⟨n2, hn2⟩ : ∃ n2, n2 = n + lm := ⟨_, rfl⟩
      have HNY : Hid (n2 = y.length) := hid_of (by rw [hn2, hy, List.length_append, ← hnl.out, hlm])
      have HXY : Hid (x = y ++ (zs.drop (k + 1)).flatten) := hid_of (by rw [HX.out, ← HFS.out]; exact flat_split zs (k + 1))
      have hn2N : n2 ≤ N := by rw [HNY.out, HN.out, HXY.out, List.length_append]; omega
      have HRM := hid_of (fun y hy => HP.out.2.2.2.1 m (List.mem_of_getElem? hm) y hy)
      have HRY : Hid (∀ u ∈ y, 0 ≤ u ∧ u ≤ 255) := hid_of (fun u hu => RX.out u (by rw [HXY.out]; exact List.mem_append_left _ hu))
      have HLE : Hid (((zs.take k).flatten).length + m.length ≤ 2000) := hid_of (by rw [← hnl.out, ← hlm]; omega)
      have hcell : wr.cell? ⟨b, o + k, none⟩ = some (.slice av lm cv) := (HBR.out.cell (p := ⟨b, o + k, none⟩) hbl).trans hv
      have HCELL : Hid (∀ w' : World, Below w.heap.size w w' → w'.cell? ⟨b, o + k, none⟩ = some (.slice av lm cv)) := hid_of (fun w' h' => (h'.cell (p := ⟨b, o + k, none⟩) hbl).trans hv)
      have HR := hid_of (HLI.out.rest HBR.out HB2.out.size)
      have hsum : (n : Int) + (lm : Int) = (n2 : Int) := by omega
      have hxc2 : n2 ≤ xc := Nat.le_trans hn2N HXC.out
      have hleny : ((y.length : Nat) : Int) = (n2 : Int) := by rw [HNY.out]
      clear hcells hv hm hy hn2 hlm
      go_wp2_with (first
        | (go_at_call 15; refine (write_any w2.heap.size (zs.take k).flatten m (.slice av lm cv) wr hst.out HR.out HRM.out (HG.out.at HBR.out) (Nat.le_trans H2.out HB2.out.size) (by have := HLE.out; omega)).mono ?_; rintro e w4 ⟨rfl, h4, hk4⟩; have S4 : Hid (Sst w4 w2.heap.size y) := hid_of (by rw [HY.out]; exact h4); have HK4 := hid_of (hkept.out.trans hk4); have HB4 := hid_of (HB3.out.trans (HK4.out.below HB3.out.size (fun k hk => by have := HB2.out.size; omega))); have hcell4 := HCELL.out w4 HB4.out; clear h4 hk4)
        | (go_at_call 11; refine (sumf_any (.slice xo n2 xc) y w4 ((lies_kept X2.out (Nat.le_refl _) HBB3.out HK4.out).pre HXY.out HNY.out) HRY.out (HG.out.at HB4.out) (by rw [← HNY.out]; omega)).mono ?_; rintro e w5 ⟨rfl, hb5⟩; have HK5 := hid_of (HK4.out.trans (Kept.ofBelow hb5)); have S5 := hid_of (S4.out.bel hb5); have HB5 := hid_of (HB4.out.trans (hb5.mono HB4.out.size)); clear hb5)
        | (go_at_call 17; (first
            | ((with_reducible refine (sum_any w2.heap.size y w5 S5.out (HG.out.at HB5.out) (by rw [← HNY.out]; omega)).mono ?_); rintro e w6 ⟨rfl, hb6⟩; have HK6 := hid_of (HK5.out.trans (Kept.ofBelow hb6)); have S6 := hid_of (S5.out.bel hb6); have HB6 := hid_of (HB5.out.trans (hb6.mono HB5.out.size)); clear hb6)
            | ((with_reducible refine (sum_any w2.heap.size y w6 S6.out (HG.out.at HB6.out) (by rw [← HNY.out]; omega)).mono ?_); rintro e w7 ⟨rfl, hb7⟩; have HK7 := hid_of (HK6.out.trans (Kept.ofBelow hb7)); have S7 := hid_of (S6.out.bel hb7); have HB7 := hid_of (HB6.out.trans (hb7.mono HB6.out.size)); clear hb7)))
        | (go_at_call 16; refine (len_any w2.heap.size y w7 S7.out).mono ?_; rintro e w' ⟨rfl, rfl⟩))
      go_roundw
      case rel => exact ⟨k + 1, n2, by omega, by go_num, by go_num, hn2N, hid_of (by rw [HFS.out]; exact HNY.out), hid_of (by rw [HFS.out]; exact S7.out), HK7⟩
      case measure => simp [intOf]; omega
    · obtain rfl : k = len := by omega
      have hfull : zs.take k = zs := List.take_of_length_le (by rw [HL.out]; exact Nat.le_refl _)
      have S5 : Hid (Sst wr w2.heap.size x) := hid_of (by have h := hst.out; rw [hfull, ← HX.out] at h; exact h)
      have X5 : Hid (Lies wr (.slice xo N xc) x) := hid_of (lies_kept X2.out (Nat.le_refl _) HBB3.out hkept.out)
      obtain ⟨w5, rfl⟩ : ∃ w5 : World, w5 = wr := ⟨_, rfl⟩
      clear hfull hst hkept
      go_wp2_with (first
        | (go_at_call 17; refine (sum_any w2.heap.size x w5 S5.out (HG.out.at HBR.out) (by rw [← HN.out]; omega)).mono ?_; rintro e w6 ⟨rfl, hb6⟩; have X6 := hid_of (X5.out.at hb6); have HB6 := hid_of (HBR.out.trans (hb6.mono HBR.out.size)); clear hb6)
        | (go_at_call 11; refine (sumf_any (.slice xo N xc) x w6 X6.out RX.out (HG.out.at HB6.out) (by rw [← HN.out]; omega)).mono ?_; rintro e w7 ⟨rfl, hb7⟩; have HB7 := hid_of (HB6.out.trans (hb7.mono HB6.out.size)); clear hb7))
      go_ret
      exact ⟨rfl, HB7.out⟩
end Go.Proofs.YtembofcdoognkaaDoor
