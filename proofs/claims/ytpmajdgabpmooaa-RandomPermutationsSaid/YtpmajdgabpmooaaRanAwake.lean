/- The examples of the chapter: awake returns true. No condition. -/
import Derived.Test.YtpmajdgabpmooaaRanRankW
namespace Go.Proofs.Ytpmajdgabpmooaa
open Go.RowKit

theorem rank201 (w : World) : Calls Try.prog 29 #[.slice (some ⟨w.heap.size, 0, none⟩) 3 3] (w.alloc (.cells #[.int .i64 2, .int .i64 0, .int .i64 1] 3)) fun e w' => e = .returned (.tuple #[.int .u64 4, .int .i64 0]) ∧ Below w.heap.size w w' :=
  (rankPerm_ok _ 3 3 [2, 0, 1] _ (rd_new rfl rfl (by simp [is])) (by omega) (permB_yes (by
    intro i hi
    have : i = 0 ∨ i = 1 ∨ i = 2 := by simp at hi; omega
    rcases this with rfl | rfl | rfl <;> refine ⟨by decide, by decide, ?_⟩ <;> intro j hj
    · omega
    · obtain rfl : j = 0 := by omega
      decide
    · have : j = 0 ∨ j = 1 := by omega
      rcases this with rfl | rfl <;> decide))).mono fun e w' ⟨he, hb⟩ => ⟨by rw [he]; rfl, bel_fst hb⟩
theorem rank13 (w : World) : Calls Try.prog 34 #[.int .i64 4, .slice (some ⟨w.heap.size, 0, none⟩) 2 2] (w.alloc (.cells #[.int .i64 1, .int .i64 3] 3)) fun e w' => e = .returned (.tuple #[.int .u64 4, .int .i64 0]) ∧ Below w.heap.size w w' :=
  (rankSub_ok 4 4 _ 2 2 [1, 3] _ rfl (by omega) (rd_new rfl rfl (by simp [is])) (by
    intro i hi
    have : i = 0 ∨ i = 1 := by simp at hi; omega
    rcases this with rfl | rfl <;> decide)).mono fun e w' ⟨he, hw⟩ => ⟨by rw [he]; exact ret_rank (by decide), by rw [← hw]; exact bel_alloc _ _⟩
theorem shuf3 : shufN 0 3 2 = [1, 0, 2] := by decide
theorem shuffle03 (b : Nat) (w : World) (h : Sr w b 0) : Calls Try.prog 22 #[.pointer (some ⟨b, 0, none⟩), .int .i64 3] w fun e w' => ∃ g, e = .returned (.tuple #[.slice (some ⟨g, 0, none⟩) 3 3, .int .i64 0]) ∧ w.heap.size ≤ g ∧ Blk w' g [1, 0, 2] ∧ Kept (fun k => k = b) w w' :=
  (shuffle_any b 0 3 3 w rfl h (by omega)).mono fun e w' ⟨g, he, h1, h2, _, h4⟩ => ⟨g, he, h1, by rw [shuf3] at h2; exact h2, h4⟩
theorem choose42 (w : World) : Calls Try.prog 27 #[.int .i64 4, .int .i64 2] w fun e w' => e = .returned (.tuple #[.int .u64 6, .int .i64 0]) ∧ w = w' :=
  (Choose_any 4 4 2 w rfl (by omega) (by omega) (by omega)).mono fun e w' ⟨he, hw⟩ => ⟨by rw [he]; exact ret_rank (by decide), hw⟩
theorem mix_zero (w : World) : Calls Try.prog 19 #[.int .u64 0] w fun e w' => e = .returned (.int .u64 0) ∧ w = w' :=
  (mix_any 0 0 w rfl (by omega)).mono fun e w' ⟨he, hw⟩ => ⟨by rw [he]; exact ret_int (by decide), hw⟩
theorem intn10 (b : Nat) (w : World) (h : Sr w b 0) : Calls Try.prog 20 #[.pointer (some ⟨b, 0, none⟩), .int .i64 10] w fun e w' => e = .returned (.int .i64 8) ∧ Kept (fun k => k = b) w w' :=
  (intn_any b 0 10 10 w rfl h (by omega) (by omega)).mono fun e w' ⟨he, _, hk⟩ => ⟨by rw [he]; exact ret_int (by decide), hk⟩
theorem next0 (b : Nat) (w : World) (h : Sr w b 0) : Calls Try.prog 14 #[.pointer (some ⟨b, 0, none⟩)] w fun e w' => e = .returned (.int .u64 16294208416658607535) ∧ Sr w' b (stepN 0) ∧ Kept (fun k => k = b) w w' :=
  (next_any b 0 w h).mono fun e w' ⟨he, h1, hk⟩ => ⟨by rw [he]; exact ret_int (by decide), h1, hk⟩
theorem next1 (b : Nat) (w : World) (h : Sr w b (stepN 0)) : Calls Try.prog 14 #[.pointer (some ⟨b, 0, none⟩)] w fun e w' => e = .returned (.int .u64 7960286522194355700) ∧ Kept (fun k => k = b) w w' :=
  (next_any b (stepN 0) w h).mono fun e w' ⟨he, _, hk⟩ => ⟨by rw [he]; exact ret_int (by decide), hk⟩
theorem new0 (w : World) : Calls Try.prog 13 #[.int .u64 0] w fun e w' => e = .returned (.pointer (some ⟨w.heap.size, 0, none⟩)) ∧ Sr w' w.heap.size 0 ∧ Below w.heap.size w w' := new_any 0 w (by omega)

/-- A step of awake: below B nothing has turned. -/
theorem step_k {B b : Nat} {w0 w w' : World} (h : Below B w0 w) (hk : Kept (fun k => k = b) w w') (hB : B ≤ w0.heap.size) (hb : B ≤ b) : Below B w0 w' := h.trans (hk.below (Nat.le_trans hB h.size) (fun k e => by omega))
theorem step_b {B : Nat} {w0 w w' : World} (h : Below B w0 w) (hk : Below w.heap.size w w') (hB : B ≤ w0.heap.size) : Below B w0 w' := h.trans (hk.mono (Nat.le_trans hB h.size))

set_option maxRecDepth 100000 in
set_option maxHeartbeats 1600000 in
theorem awake_any (w : World) : Calls Try.prog 16 #[] w fun e w' => e = .returned (.bool true) ∧ Below w.heap.size w w' := by
  have HW : Hid (w.heap.size ≤ w.heap.size) := hid_of (Nat.le_refl _)
  go_enter Try.func16, Try.ntmps16
  go_wp2_with (first
    | (go_at_call 13; (first
      | ((with_reducible refine (new0 w).mono ?_); (rintro e w1 ⟨rfl, h1, hb1⟩; have H1 := hid_of h1; have HB1 := hid_of hb1; clear h1 hb1))
      | ((with_reducible refine (new0 w3).mono ?_); (rintro e w4 ⟨rfl, h4, hb4⟩; have H4 := hid_of h4; have HB4 := hid_of (step_b HB3.out hb4 HW.out); have hB3 := hid_of HB3.out.size; clear h4 hb4))
      | ((with_reducible refine (new0 w7).mono ?_); (rintro e w8 ⟨rfl, h8, hb8⟩; have H8 := hid_of h8; have HL8 := hid_of (HL7.out.bel hb8); have HB8 := hid_of (step_b HB7.out hb8 HW.out); clear h8 hb8))))
    | (go_at_call 14; (first
      | ((with_reducible refine (next0 w.heap.size w1 H1.out).mono ?_); (rintro e w2 ⟨rfl, h2, hk2⟩; have H2 := hid_of h2; have HB2 := hid_of (step_k HB1.out hk2 HW.out HW.out); clear h2 hk2))
      | ((with_reducible refine (next1 w.heap.size w2 H2.out).mono ?_); (rintro e w3 ⟨rfl, hk3⟩; have HB3 := hid_of (step_k HB2.out hk3 HW.out HW.out); clear hk3))))
    | (go_at_call 22; ((with_reducible refine (shuffle03 w3.heap.size w4 H4.out).mono ?_); (rintro e w5 ⟨g, rfl, hg, h5, hk5⟩; have HG := hid_of hg; have H5 := hid_of h5; have HB5 := hid_of (step_k HB4.out hk5 HW.out hB3.out); clear hg h5 hk5)))
    | (go_at_call 29; ((with_reducible refine (rank201 w5).mono ?_); (rintro e w6 ⟨rfl, hb6⟩; have HL6 := hid_of (H5.out.bel hb6); have HB6 := hid_of (step_b HB5.out hb6 HW.out); clear hb6)))
    | (go_at_call 34; ((with_reducible refine (rank13 w6).mono ?_); (rintro e w7 ⟨rfl, hb7⟩; have HL7 := hid_of (HL6.out.bel hb7); have HB7 := hid_of (step_b HB6.out hb7 HW.out); clear hb7)))
    | (go_at_call 27; ((with_reducible refine (choose42 w7).mono ?_); (rintro e w' ⟨rfl, rfl⟩)))
    | (go_at_call 19; ((with_reducible refine (mix_zero w7).mono ?_); (rintro e w' ⟨rfl, rfl⟩)))
    | (go_at_call 20; ((with_reducible refine (intn10 w7.heap.size w8 H8.out).mono ?_); (rintro e w9 ⟨rfl, hk9⟩; have HL9 := hid_of (HL8.out.kept hk9 (by have := HL7.out.lt; omega)); have HB9 := hid_of (step_k HB8.out hk9 HW.out HB7.out.size); clear hk9)))
    | (go_at_call 24; ((with_reducible refine (same_yes (some ⟨g, 0, none⟩) (some ⟨w9.heap.size, 0, none⟩) 3 3 3 [1, 0, 2] (w9.alloc (.cells #[.int .i64 1, .int .i64 0, .int .i64 2] 3)) ((HL9.out.bel (bel_alloc _ _)).rd rfl (by simp)) (rd_new rfl rfl (by simp [is]))).mono ?_); (rintro e w10 ⟨rfl, hb10⟩; have HB10 := hid_of (step_b HB9.out (bel_fst hb10) HW.out); clear hb10))))
  go_ret
  exact ⟨rfl, HB10.out⟩
end Go.Proofs.Ytpmajdgabpmooaa
