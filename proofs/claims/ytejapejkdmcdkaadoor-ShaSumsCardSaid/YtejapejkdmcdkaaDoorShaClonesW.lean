/- ShaClones: the walk. -/
import Derived.Test.YtejapejkdmcdkaaDoorShaRow
namespace Go.Proofs.YtejapejkdmcdkaaDoor
open Go.RowKit

theorem Glob.at {w w' : World} (h : Glob w) (hb : Below w.heap.size w w') : Glob w' := h.bel hb h.two
theorem Lies.at {w w' : World} {v : Value} {l : List Int} (h : Lies w v l) (hb : Below w.heap.size w w') : Lies w' v l := h.later hb (Nat.le_refl _)

set_option maxRecDepth 100000 in
set_option maxHeartbeats 3200000 in
theorem shaClones_law (a b c : List Int) (aa ab ac : Option Addr) (na nb nc ca cb cc : Nat) (w : World) (hG : Glob w) (la : a.length = na) (lb : b.length = nb) (lc : c.length = nc) (ra : ∀ y ∈ a, 0 ≤ y ∧ y ≤ 255) (rb : ∀ y ∈ b, 0 ≤ y ∧ y ≤ 255) (rc : ∀ y ∈ c, 0 ≤ y ∧ y ≤ 255)
    (ha : Lies w (.slice aa na ca) a) (hb : Lies w (.slice ab nb cb) b) (hc : Lies w (.slice ac nc cc) c) :
    Calls Tryd.prog 6 #[.slice aa na ca, .slice ab nb cb, .slice ac nc cc] w fun e w' => e = .returned (.bool true) ∧ Below w.heap.size w w' := by
  have HG := hid_of hG
  have H2 : Hid (2 ≤ w.heap.size) := hid_of hG.two
  have HA := hid_of ha
  have HB := hid_of hb
  have HC := hid_of hc
  have RA := hid_of ra
  have RB := hid_of rb
  have RC := hid_of rc
  have LA := hid_of la
  have LB := hid_of lb
  have LC := hid_of lc
  obtain ⟨x, hx⟩ : ∃ x, x = a ++ b := ⟨_, rfl⟩
  obtain ⟨y, hy⟩ : ∃ y, y = a ++ c := ⟨_, rfl⟩
  have RX : Hid (∀ u ∈ x, 0 ≤ u ∧ u ≤ 255) := hid_of (by rw [hx]; intro u hu; rcases List.mem_append.1 hu with h | h; exact ra u h; exact rb u h)
  have RY : Hid (∀ u ∈ y, 0 ≤ u ∧ u ≤ 255) := hid_of (by rw [hy]; intro u hu; rcases List.mem_append.1 hu with h | h; exact ra u h; exact rc u h)
  have LX : x.length = na + nb := by rw [hx, List.length_append, la, lb]
  have LY : y.length = na + nc := by rw [hy, List.length_append, la, lc]
  have HX := hid_of hx
  have HY := hid_of hy
  clear hG ha hb hc ra rb rc hx hy la lb lc
  by_cases hs : na ≤ 1000 ∧ nb ≤ 1000 ∧ nc ≤ 1000
  case neg =>
    go_enter Tryd.func6, Tryd.ntmps6
    go_wp2_with (first
      | (go_at_call 10; refine (awake_any w HG.out).mono ?_; rintro e w1 ⟨rfl, hb1⟩; have HB1 := hid_of hb1; clear hb1))
    all_goals first
      | (exfalso; omega)
      | (go_ret; exact ⟨rfl, HB1.out⟩)
  obtain ⟨s1, s2, s3⟩ := hs
  go_enter Tryd.func6, Tryd.ntmps6
  go_wp2_with (first
    | (go_at_call 10; refine (awake_any w HG.out).mono ?_; rintro e w1 ⟨rfl, hb1⟩; have HB1 := hid_of hb1; clear hb1)
    | (go_at_call 14; refine (new_any w1 (HG.out.at HB1.out)).mono ?_; rintro e w2 ⟨rfl, h2, hb2⟩; have S2 := hid_of h2; have HB2 := hid_of (HB1.out.trans (hb2.mono HB1.out.size)); clear h2 hb2)
    | (go_at_call 15; (first
        | ((with_reducible refine (write_any w1.heap.size [] a (.slice aa na ca) w2 S2.out (HA.out.rest HB2.out HB1.out.size) RA.out (HG.out.at HB2.out) (Nat.le_trans H2.out HB1.out.size) (by rw [LA.out]; simp; omega)).mono ?_); rintro e w3 ⟨rfl, h3, hk3⟩; have S3 : Hid (Sst w3 w1.heap.size a) := hid_of h3; have HB3 := hid_of (HB2.out.trans (hk3.below HB2.out.size (fun k hk => by have := HB1.out.size; omega))); clear h3 hk3)
        | ((with_reducible refine (write_any w1.heap.size a b (.slice ab nb cb) w4 S4.out (HB.out.rest HB4.out HB1.out.size) RB.out (HG.out.at HB4.out) (Nat.le_trans H2.out HB1.out.size) (by rw [LA.out, LB.out]; omega)).mono ?_); rintro e w5 ⟨rfl, h5, hk5⟩; have S5 : Hid (Sst w5 w1.heap.size x) := hid_of (by rw [HX.out]; exact h5); have T5 := hid_of (T4.out.kept hk5 (fun e => by have := S3.out.lt; omega)); have HB5 := hid_of (HB4.out.trans (hk5.below HB4.out.size (fun k hk => by have := HB1.out.size; omega))); clear h5 hk5)
        | ((with_reducible refine (write_any w3.heap.size a c (.slice ac nc cc) w5 T5.out (HC.out.rest HB5.out HB3.out.size) RC.out (HG.out.at HB5.out) (Nat.le_trans H2.out HB3.out.size) (by rw [LA.out, LC.out]; omega)).mono ?_); rintro e w6 ⟨rfl, h6, hk6⟩; have T6 : Hid (Sst w6 w3.heap.size y) := hid_of (by rw [HY.out]; exact h6); have S6 := hid_of (S5.out.kept hk6 (fun e => by have := S3.out.lt; omega)); have HB6 := hid_of (HB5.out.trans (hk6.below HB5.out.size (fun k hk => by have := HB3.out.size; omega))); clear h6 hk6)))
    | (go_at_call 18; refine (clone_any w1.heap.size a w3 S3.out).mono ?_; rintro e w4 ⟨rfl, h4, hb4⟩; have T4 := hid_of h4; have S4 := hid_of (S3.out.bel hb4); have HB4 := hid_of (HB3.out.trans (hb4.mono HB3.out.size)); clear h4 hb4)
    | (at_builtin; (first
        | ((with_reducible refine wpList_app rfl _ _ rfl (v := .slice (some ⟨w6.heap.size, 0, none⟩) 0 0) rfl (os_empty w6) (vx := .slice aa na ca) rfl ((HA.out.at HB6.out).at (bel_alloc _ _)) (by simp; rw [LA.out]; omega) ?_); intro xo7 n7 c7 w7 hn7 h7; have X7 := hid_of h7; have HN7 := hid_of hn7; clear h7 hn7)
        | ((with_reducible refine wpList_app rfl _ _ rfl (v := .slice xo7 n7 c7) rfl X7.out (vx := .slice ab nb cb) rfl ((HB.out.at HB6.out).at X7.out.bel) (by simp; rw [LA.out, LB.out]; omega) ?_); intro xo8 n8 c8 w8 hn8 h8; have X8 := hid_of (show Lies w8 (.slice xo8 n8 c8) x by rw [HX.out]; exact h8.lies (by simp; rw [LA.out, LB.out]; omega)); obtain rfl : n8 = na + nb := by rw [hn8]; simp [LA.out, LB.out]
           have S8 := hid_of (S6.out.bel h8.bel); have T8 := hid_of (T6.out.bel h8.bel); have HB8 := hid_of (HB6.out.trans (h8.bel.mono HB6.out.size)); clear h8 hn8)
        | ((with_reducible refine wpList_app rfl _ _ rfl (v := .slice (some ⟨w8.heap.size, 0, none⟩) 0 0) rfl (os_empty w8) (vx := .slice aa na ca) rfl ((HA.out.at HB8.out).at (bel_alloc _ _)) (by simp; rw [LA.out]; omega) ?_); intro xo9 n9 c9 w9 hn9 h9; have X9 := hid_of h9; have HN9 := hid_of hn9; clear h9 hn9)
        | ((with_reducible refine wpList_app rfl _ _ rfl (v := .slice xo9 n9 c9) rfl X9.out (vx := .slice ac nc cc) rfl ((HC.out.at HB8.out).at X9.out.bel) (by simp; rw [LA.out, LC.out]; omega) ?_); intro xo10 n10 c10 w10 hn10 h10; have Y10 := hid_of (show Lies w10 (.slice xo10 n10 c10) y by rw [HY.out]; exact h10.lies (by simp; rw [LA.out, LC.out]; omega)); obtain rfl : n10 = na + nc := by rw [hn10]; simp [LA.out, LC.out]
           have X10 := hid_of (X8.out.at h10.bel); have S10 := hid_of (S8.out.bel h10.bel); have T10 := hid_of (T8.out.bel h10.bel); have HB10 := hid_of (HB8.out.trans (h10.bel.mono HB8.out.size)); clear h10 hn10)))
    | (go_at_call 17; (first
        | ((with_reducible refine (sum_any w1.heap.size x w10 S10.out (HG.out.at HB10.out) (by omega)).mono ?_); rintro e w11 ⟨rfl, hb11⟩; have X11 := hid_of (X10.out.at hb11); have Y11 := hid_of (Y10.out.at hb11); have S11 := hid_of (S10.out.bel hb11); have T11 := hid_of (T10.out.bel hb11); have HB11 := hid_of (HB10.out.trans (hb11.mono HB10.out.size)); clear hb11)
        | ((with_reducible refine (sum_any w3.heap.size y w12 T12.out (HG.out.at HB12.out) (by omega)).mono ?_); rintro e w13 ⟨rfl, hb13⟩; have Y13 := hid_of (Y12.out.at hb13); have S13 := hid_of (S12.out.bel hb13); have T13 := hid_of (T12.out.bel hb13); have HB13 := hid_of (HB12.out.trans (hb13.mono HB12.out.size)); clear hb13)))
    | (go_at_call 11; (first
        | ((with_reducible refine (sumf_any (.slice xo8 (na + nb) c8) x w11 X11.out RX.out (HG.out.at HB11.out) (by omega)).mono ?_); rintro e w12 ⟨rfl, hb12⟩; have Y12 := hid_of (Y11.out.at hb12); have S12 := hid_of (S11.out.bel hb12); have T12 := hid_of (T11.out.bel hb12); have HB12 := hid_of (HB11.out.trans (hb12.mono HB11.out.size)); clear hb12)
        | ((with_reducible refine (sumf_any (.slice xo10 (na + nc) c10) y w13 Y13.out RY.out (HG.out.at HB13.out) (by omega)).mono ?_); rintro e w14 ⟨rfl, hb14⟩; have S14 := hid_of (S13.out.bel hb14); have T14 := hid_of (T13.out.bel hb14); have HB14 := hid_of (HB13.out.trans (hb14.mono HB13.out.size)); clear hb14)))
    | (go_at_call 16; (first
        | ((with_reducible refine (len_any w1.heap.size x w14 S14.out).mono ?_); rintro e w' ⟨rfl, rfl⟩)
        | ((with_reducible refine (len_any w3.heap.size y w14 T14.out).mono ?_); rintro e w' ⟨rfl, rfl⟩))))
  go_ret
  exact ⟨rfl, HB14.out⟩
end Go.Proofs.YtejapejkdmcdkaaDoor
