/- Texts in one: CkL6, CkLw6. -/
import Derived.Test.YtlffiebnieakjaaDoorMgEF
set_option linter.unusedVariables false
set_option linter.unusedSimpArgs false
/- The law Opens. Bounds on sizes alone. -/
namespace Go.Proofs.YtlffiebnieakjaaDoor
open Go.RowKit
set_option maxRecDepth 100000
set_option maxHeartbeats 6400000

section
variable {B : Nat} {T : Nat → Prop} {b : Nat} {M : DM} {w : World}
theorem open_arg1 (f ct : Int) (hf : f < 0) : Calls Tryd.prog 14 #[.pointer (some ⟨b, 0, none⟩), .int .i64 f, .int .i64 ct] w fun e w' => e = .returned (.tuple #[.pointer none, .int .i64 1]) ∧ Below w.heap.size w w' := by
  have d1 : decide (f < 0) = true := decide_eq_true hf
  go_enter Tryd.func14, Tryd.ntmps14
  go_wp2
  go_ret2
  exact ⟨rfl, Below.refl _ _⟩
theorem open_arg2 (f ct : Int) (hf : ¬ f < 0) (hc : ct < 4) : Calls Tryd.prog 14 #[.pointer (some ⟨b, 0, none⟩), .int .i64 f, .int .i64 ct] w fun e w' => e = .returned (.tuple #[.pointer none, .int .i64 1]) ∧ Below w.heap.size w w' := by
  have d1 : decide (f < 0) = false := decide_eq_false hf
  have d2 : decide (ct < 4) = true := decide_eq_true hc
  go_enter Tryd.func14, Tryd.ntmps14
  go_wp2
  go_ret2
  exact ⟨rfl, Below.refl _ _⟩
theorem open_arg3 (h : DR B T w b M) (f ct : Int) (hf : ¬ f < 0) (hf9 : f ≤ 9223372036854775807) (hc : ¬ ct < 4) (hl : (M.secs.length : Int) - f < ct) : Calls Tryd.prog 14 #[.pointer (some ⟨b, 0, none⟩), .int .i64 f, .int .i64 ct] w fun e w' => e = .returned (.tuple #[.pointer none, .int .i64 1]) ∧ Below w.heap.size w w' := by
  have hsl := h.ok.secs
  have CN := hid_of h.sectors
  obtain ⟨L, hL⟩ : ∃ L, L = M.secs.length := ⟨_, rfl⟩
  rw [← hL] at CN hl hsl
  have d1 : decide (f < 0) = false := decide_eq_false hf
  have d2 : decide (ct < 4) = false := decide_eq_false hc
  have l3 : IntKind.i64.wrap ((L : Int) - f) = (L : Int) - f := IntWalk.i64_in _ (by omega)
  have d3 : decide ((L : Int) - f < ct) = true := decide_eq_true hl
  clear h hL
  go_enter Tryd.func14, Tryd.ntmps14
  go_wp2_with (go_at_call 12; ((with_reducible refine (CN.out).mono ?_); (rintro e w1 ⟨rfl, q1⟩)); have B1 := hid_of q1; clear q1)
  go_ret2
  exact ⟨rfl, B1.out⟩
theorem open_arg4 (h : DR B T w b M) (f ct : Int) (hf : ¬ f < 0) (hf9 : f ≤ 9223372036854775807) (hc : ¬ ct < 4) (hl : ¬ (M.secs.length : Int) - f < ct) (hz : M.sz < 64) : Calls Tryd.prog 14 #[.pointer (some ⟨b, 0, none⟩), .int .i64 f, .int .i64 ct] w fun e w' => e = .returned (.tuple #[.pointer none, .int .i64 1]) ∧ Below w.heap.size w w' := by
  have hsl := h.ok.secs
  have CN := hid_of h.sectors
  have CZ := hid_of (fun (X : World) (hX : Below w.heap.size w X) => (h.bel0 hX).size)
  obtain ⟨L, hL⟩ : ∃ L, L = M.secs.length := ⟨_, rfl⟩
  obtain ⟨z, hz2⟩ : ∃ z, z = M.sz := ⟨_, rfl⟩
  rw [← hL] at CN hl hsl
  rw [← hz2] at CZ hz
  have d1 : decide (f < 0) = false := decide_eq_false hf
  have d2 : decide (ct < 4) = false := decide_eq_false hc
  have l3 : IntKind.i64.wrap ((L : Int) - f) = (L : Int) - f := IntWalk.i64_in _ (by omega)
  have d3 : decide ((L : Int) - f < ct) = false := decide_eq_false hl
  have d4 : (z : Int) < 64 := by omega
  have d4b : decide ((z : Int) < 64) = true := decide_eq_true d4
  clear h hL hz2
  go_enter Tryd.func14, Tryd.ntmps14
  go_wp2_with (first
    | (go_at_call 12; ((with_reducible refine (CN.out).mono ?_); (rintro e w1 ⟨rfl, q1⟩)); have B1 := hid_of q1; clear q1)
    | (go_at_call 19; ((with_reducible refine (CZ.out w1 B1.out).mono ?_); (rintro e w2 ⟨rfl, q1⟩)); have B2 := hid_of (B1.out.trans (q1.mono B1.out.size)); clear q1))
  go_ret2
  exact ⟨rfl, B2.out⟩
theorem open_arg (h : DR B T w b M) (f ct : Int) (hf9 : f ≤ 9223372036854775807) (hc : f < 0 ∨ ct < 4 ∨ (M.secs.length : Int) - f < ct ∨ M.sz < 64) : Calls Tryd.prog 14 #[.pointer (some ⟨b, 0, none⟩), .int .i64 f, .int .i64 ct] w fun e w' => e = .returned (.tuple #[.pointer none, .int .i64 1]) ∧ Below w.heap.size w w' := by
  by_cases h1 : f < 0
  · exact open_arg1 f ct h1
  by_cases h2 : ct < 4
  · exact open_arg2 f ct h1 h2
  by_cases h3 : (M.secs.length : Int) - f < ct
  · exact open_arg3 h f ct h1 hf9 h2 h3
  · exact open_arg4 h f ct h1 hf9 h2 h3 (by omega)
theorem open_off (h : DR B T w b M) (f ct : Int) (hf : ¬ f < 0) (hf9 : f ≤ 9223372036854775807) (hc : ¬ ct < 4) (hl : ¬ (M.secs.length : Int) - f < ct) (hz : ¬ M.sz < 64) (ho : M.off = true) : Calls Tryd.prog 14 #[.pointer (some ⟨b, 0, none⟩), .int .i64 f, .int .i64 ct] w fun e w' => e = .returned (.tuple #[.pointer none, .int .i64 8]) ∧ Below w.heap.size w w' := by
  have hsl := h.ok.secs
  have CN := hid_of h.sectors
  have CZ := hid_of (fun (X : World) (hX : Below w.heap.size w X) => (h.bel0 hX).size)
  have CD := hid_of (fun (X : World) (hX : Below w.heap.size w X) => show Calls Tryd.prog 27 #[.pointer (some ⟨b, 0, none⟩)] X (fun e w' => e = .returned (.bool true) ∧ Below X.heap.size X w') from by rw [← ho]; exact (h.bel0 hX).down)
  obtain ⟨L, hL⟩ : ∃ L, L = M.secs.length := ⟨_, rfl⟩
  obtain ⟨z, hz2⟩ : ∃ z, z = M.sz := ⟨_, rfl⟩
  rw [← hL] at CN hl hsl
  rw [← hz2] at CZ hz
  have d1 : decide (f < 0) = false := decide_eq_false hf
  have d2 : decide (ct < 4) = false := decide_eq_false hc
  have l3 : IntKind.i64.wrap ((L : Int) - f) = (L : Int) - f := IntWalk.i64_in _ (by omega)
  have d3 : decide ((L : Int) - f < ct) = false := decide_eq_false hl
  have d4 : ¬ (z : Int) < 64 := by omega
  have d4b : decide ((z : Int) < 64) = false := decide_eq_false d4
  clear h hL hz2 ho
  go_enter Tryd.func14, Tryd.ntmps14
  go_wp2_with (first
    | (go_at_call 12; ((with_reducible refine (CN.out).mono ?_); (rintro e w1 ⟨rfl, q1⟩)); have B1 := hid_of q1; clear q1)
    | (go_at_call 19; ((with_reducible refine (CZ.out w1 B1.out).mono ?_); (rintro e w2 ⟨rfl, q1⟩)); have B2 := hid_of (B1.out.trans (q1.mono B1.out.size)); clear q1)
    | (go_at_call 27; ((with_reducible refine (CD.out w2 B2.out).mono ?_); (rintro e w3 ⟨rfl, q1⟩)); have B3 := hid_of (B2.out.trans (q1.mono B2.out.size)); clear q1))
  go_ret2
  exact ⟨rfl, B3.out⟩
end
end Go.Proofs.YtlffiebnieakjaaDoor

/- The law Opens, whatever the example gives. Bounds on sizes alone. -/
namespace Go.Proofs.YtlffiebnieakjaaDoor
open Go.RowKit
set_option maxRecDepth 100000
set_option maxHeartbeats 12800000

theorem wf_r64 {n : Int} (h : (Lit.int .i64 n).wf = true) : -9223372036854775808 ≤ n ∧ n ≤ 9223372036854775807 := by
  simpa [Lit.wf, IntKind.min, IntKind.max, IntKind.signed, IntKind.bits] using h
/-- The disk whose power has failed. -/
def offM (n z : Nat) : DM := (syncF (failF (newF n z) 0)).2
theorem offM_eq (n z : Nat) : (offM n z).off = true ∧ (offM n z).secs.length = n ∧ (offM n z).sz = z := by
  have h : failF (newF n z) 0 = { newF n z with cnt := 0 } := rfl
  have e : offM n z = { newF n z with cnt := 0, off := true } := by
    unfold offM
    rw [h]
    rfl
  rw [e]
  exact ⟨rfl, new_secs n z, rfl⟩
abbrev OpAW : Prop := ∀ w, Sh.Glob w → Calls Tryd.prog 10 #[] w (BoP true w)
theorem op_big (AW : OpAW) (a0 a1 a2 a3 : Int) (dn : Bool) (w : World) (hG : Sh.Glob w) (h : 100 < a0) : Calls Tryd.prog 8 #[.int .i64 a0, .int .i64 a1, .int .i64 a2, .int .i64 a3, .bool dn] w (BoP true w) := by
  obtain ⟨B, hB⟩ : ∃ B, B = w.heap.size := ⟨_, rfl⟩
  have HBL := hid_of (show B ≤ w.heap.size by omega)
  have CAW := hid_of (show Calls Tryd.prog 10 #[] w (fun e w' => e = .returned (.bool true) ∧ Below B w w') from by rw [hB]; exact AW w hG)
  rw [show BoP true w = fun e w' => e = .returned (.bool true) ∧ Below B w w' from by rw [hB]]
  have d1 : decide (100 < a0) = true := decide_eq_true h
  clear hB hG AW
  go_enter Tryd.func8, Tryd.ntmps8
  go_wp2_with (go_at_call 10; ((with_reducible refine (CAW.out).mono ?_); (rintro e w1 ⟨rfl, q1⟩)); have B1 := hid_of q1; clear q1)
  go_ret
  exact ⟨rfl, B1.out⟩
theorem op_bad (AW : OpAW) (a0 a1 a2 a3 : Int) (dn : Bool) (w : World) (hG : Sh.Glob w) (h : ¬ 100 < a0) (r0 : R64 a0) (r1 : R64 a1) (hv : ¬((1 ≤ a0 ∧ a0 ≤ 65536) ∧ 16 ≤ a1 ∧ a1 ≤ 4096)) : Calls Tryd.prog 8 #[.int .i64 a0, .int .i64 a1, .int .i64 a2, .int .i64 a3, .bool dn] w (BoP true w) := by
  obtain ⟨B, hB⟩ : ∃ B, B = w.heap.size := ⟨_, rfl⟩
  have HBL := hid_of (show B ≤ w.heap.size by omega)
  have CAW := hid_of (show Calls Tryd.prog 10 #[] w (fun e w' => e = .returned (.bool true) ∧ Below B w w') from by rw [hB]; exact AW w hG)
  rw [show BoP true w = fun e w' => e = .returned (.bool true) ∧ Below B w w' from by rw [hB]]
  have d1 : decide (100 < a0) = false := decide_eq_false h
  have CN := hid_of (fun (X : World) => IG.newN a0 a1 r0 r1 hv X)
  clear hB hG AW
  go_enter Tryd.func8, Tryd.ntmps8
  go_wp2_with (first
    | (go_at_call 10; ((with_reducible refine (CAW.out).mono ?_); (rintro e w1 ⟨rfl, q1⟩)); have B1 := hid_of q1; clear q1)
    | (go_at_call 29; ((with_reducible refine (CN.out w1).mono ?_); (rintro e w2 ⟨rfl, q1⟩)); have B2 := hid_of (B1.out.trans (q1.mono (Nat.le_trans HBL.out B1.out.size))); clear q1))
  go_ret
  exact ⟨rfl, B2.out⟩
theorem op_t1 (AW : OpAW) (n z : Nat) (a2 a3 : Int) (w : World) (hG : Sh.Glob w) (hn : 1 ≤ n ∧ n ≤ 100) (hz : 16 ≤ z ∧ z ≤ 4096) (r2 : R64 a2) (r3 : R64 a3) (c1 : a2 < 0) : Calls Tryd.prog 8 #[.int .i64 n, .int .i64 z, .int .i64 a2, .int .i64 a3, .bool true] w (BoP true w) := by
  obtain ⟨B, hB⟩ : ∃ B, B = w.heap.size := ⟨_, rfl⟩
  have HBL := hid_of (show B ≤ w.heap.size by omega)
  have CAW := hid_of (show Calls Tryd.prog 10 #[] w (fun e w' => e = .returned (.bool true) ∧ Below B w w') from by rw [hB]; exact AW w hG)
  rw [show BoP true w = fun e w' => e = .returned (.bool true) ∧ Below B w w' from by rw [hB]]
  obtain ⟨T, hT⟩ : ∃ T : Nat → Prop, T = fun k => k < B := ⟨_, rfl⟩
  have HTR := hid_of (fun (X : World) (h : w.heap.size ≤ X.heap.size) => show TR B T X from by rw [hT]; have h9 := tr_new (w := w) (w' := X) h; rwa [← hB] at h9)
  have d1 : ¬ 100 < (n : Int) := by omega
  have d1b : decide (100 < (n : Int)) = false := decide_eq_false d1
  have CN := hid_of (fun (X : World) (h : Below B w X) => (dr_new n z hn.1 (by omega) hz.1 hz.2 X).mono (R' := fun e w' => ∃ b, e = .returned (.tuple #[.pointer (some ⟨b, 0, none⟩), .int .i64 0]) ∧ DR B T w' b (newF n z) ∧ Below X.heap.size X w') (fun e w' ⟨b, q1, q2, q3⟩ => ⟨b, q1, by
    obtain ⟨SD, g1, g2⟩ := q2
    exact ⟨SD, g1, fun k hk => ⟨Nat.le_trans (Nat.le_trans HBL.out h.size) (g2 k hk).1, (g2 k hk).2.1, fun e => (g2 k hk).2.2 (Nat.lt_of_lt_of_le ((HTR.out w (Nat.le_refl _)).lt k e) h.size)⟩⟩, q3⟩))
  have dc1 : decide (a2 < 0) = true := decide_eq_true c1
  have CFL := hid_of (fun (X : World) (b : Nat) (h : w.heap.size ≤ X.heap.size) (d : DR B T X b (newF n z)) => (d.fail (HTR.out X h) 0 ⟨by decide, by decide⟩).mono (R' := fun e w' => e = .returned (.tuple #[]) ∧ DR B T w' b (failF (newF n z) 0) ∧ Below B X w') fun e w' ⟨q1, q2, q3, _⟩ => ⟨q1, q2, q3⟩)
  have CSY := hid_of (fun (X : World) (b : Nat) (h : w.heap.size ≤ X.heap.size) (d : DR B T X b (failF (newF n z) 0)) => show Calls Tryd.prog 26 #[.pointer (some ⟨b, 0, none⟩)] X (fun e w' => ∃ cd, e = .returned (.int .i64 cd) ∧ DR B T w' b (offM n z) ∧ Below B X w') from (d.sync (HTR.out X h) (by show 0 ≤ _; omega)).mono fun e w' ⟨q1, q2, q3, _⟩ => ⟨_, q1, q2, q3⟩)
  have CO := hid_of (fun (X : World) (b : Nat) (d : DR B T X b (offM n z)) => show Calls Tryd.prog 14 #[.pointer (some ⟨b, 0, none⟩), .int .i64 a2, .int .i64 a3] X (fun e w' => e = .returned (.tuple #[.pointer none, .int .i64 1]) ∧ Below X.heap.size X w') from by
    obtain ⟨o1, o2, o3⟩ := offM_eq n z
    exact open_arg d a2 a3 r2.2 (by rw [o2, o3]; omega))
  clear hB hG AW hT
  go_enter Tryd.func8, Tryd.ntmps8
  go_wp2_with (first
    | (go_at_call 10; ((with_reducible refine (CAW.out).mono ?_); (rintro e w1 ⟨rfl, q1⟩)); have B1 := hid_of q1; clear q1)
    | (go_at_call 29; ((with_reducible refine (CN.out w1 B1.out).mono ?_); (rintro e w2 ⟨b, rfl, q2, q1⟩)); have D2 := hid_of q2; have B2 := hid_of (B1.out.trans (q1.mono (Nat.le_trans HBL.out B1.out.size))); clear q1 q2)
    | (go_at_call 25; ((with_reducible refine (CFL.out w2 b B2.out.size D2.out).mono ?_); (rintro e w3 ⟨rfl, q2, q1⟩)); have D3 := hid_of q2; have B3 := hid_of (B2.out.trans q1); clear q1 q2)
    | (go_at_call 26; ((with_reducible refine (CSY.out w3 b B3.out.size D3.out).mono ?_); (rintro e w4 ⟨cd, rfl, q2, q1⟩)); have D4 := hid_of q2; have B4 := hid_of (B3.out.trans q1); clear q1 q2)
    | (go_at_call 14; ((with_reducible refine (CO.out w4 b D4.out).mono ?_); (rintro e w5 ⟨rfl, q1⟩)); have B5 := hid_of (B4.out.trans (q1.mono (Nat.le_trans HBL.out B4.out.size))); clear q1))
  go_ret
  exact ⟨rfl, B5.out⟩
theorem op_t2 (AW : OpAW) (n z : Nat) (a2 a3 : Int) (w : World) (hG : Sh.Glob w) (hn : 1 ≤ n ∧ n ≤ 100) (hz : 16 ≤ z ∧ z ≤ 4096) (r2 : R64 a2) (r3 : R64 a3) (c1 : ¬ a2 < 0) (c2 : a3 < 4) : Calls Tryd.prog 8 #[.int .i64 n, .int .i64 z, .int .i64 a2, .int .i64 a3, .bool true] w (BoP true w) := by
  obtain ⟨B, hB⟩ : ∃ B, B = w.heap.size := ⟨_, rfl⟩
  have HBL := hid_of (show B ≤ w.heap.size by omega)
  have CAW := hid_of (show Calls Tryd.prog 10 #[] w (fun e w' => e = .returned (.bool true) ∧ Below B w w') from by rw [hB]; exact AW w hG)
  rw [show BoP true w = fun e w' => e = .returned (.bool true) ∧ Below B w w' from by rw [hB]]
  obtain ⟨T, hT⟩ : ∃ T : Nat → Prop, T = fun k => k < B := ⟨_, rfl⟩
  have HTR := hid_of (fun (X : World) (h : w.heap.size ≤ X.heap.size) => show TR B T X from by rw [hT]; have h9 := tr_new (w := w) (w' := X) h; rwa [← hB] at h9)
  have d1 : ¬ 100 < (n : Int) := by omega
  have d1b : decide (100 < (n : Int)) = false := decide_eq_false d1
  have CN := hid_of (fun (X : World) (h : Below B w X) => (dr_new n z hn.1 (by omega) hz.1 hz.2 X).mono (R' := fun e w' => ∃ b, e = .returned (.tuple #[.pointer (some ⟨b, 0, none⟩), .int .i64 0]) ∧ DR B T w' b (newF n z) ∧ Below X.heap.size X w') (fun e w' ⟨b, q1, q2, q3⟩ => ⟨b, q1, by
    obtain ⟨SD, g1, g2⟩ := q2
    exact ⟨SD, g1, fun k hk => ⟨Nat.le_trans (Nat.le_trans HBL.out h.size) (g2 k hk).1, (g2 k hk).2.1, fun e => (g2 k hk).2.2 (Nat.lt_of_lt_of_le ((HTR.out w (Nat.le_refl _)).lt k e) h.size)⟩⟩, q3⟩))
  have dc1 : decide (a2 < 0) = false := decide_eq_false c1
  have dc2 : decide (a3 < 4) = true := decide_eq_true c2
  have CFL := hid_of (fun (X : World) (b : Nat) (h : w.heap.size ≤ X.heap.size) (d : DR B T X b (newF n z)) => (d.fail (HTR.out X h) 0 ⟨by decide, by decide⟩).mono (R' := fun e w' => e = .returned (.tuple #[]) ∧ DR B T w' b (failF (newF n z) 0) ∧ Below B X w') fun e w' ⟨q1, q2, q3, _⟩ => ⟨q1, q2, q3⟩)
  have CSY := hid_of (fun (X : World) (b : Nat) (h : w.heap.size ≤ X.heap.size) (d : DR B T X b (failF (newF n z) 0)) => show Calls Tryd.prog 26 #[.pointer (some ⟨b, 0, none⟩)] X (fun e w' => ∃ cd, e = .returned (.int .i64 cd) ∧ DR B T w' b (offM n z) ∧ Below B X w') from (d.sync (HTR.out X h) (by show 0 ≤ _; omega)).mono fun e w' ⟨q1, q2, q3, _⟩ => ⟨_, q1, q2, q3⟩)
  have CO := hid_of (fun (X : World) (b : Nat) (d : DR B T X b (offM n z)) => show Calls Tryd.prog 14 #[.pointer (some ⟨b, 0, none⟩), .int .i64 a2, .int .i64 a3] X (fun e w' => e = .returned (.tuple #[.pointer none, .int .i64 1]) ∧ Below X.heap.size X w') from by
    obtain ⟨o1, o2, o3⟩ := offM_eq n z
    exact open_arg d a2 a3 r2.2 (by rw [o2, o3]; omega))
  clear hB hG AW hT
  go_enter Tryd.func8, Tryd.ntmps8
  go_wp2_with (first
    | (go_at_call 10; ((with_reducible refine (CAW.out).mono ?_); (rintro e w1 ⟨rfl, q1⟩)); have B1 := hid_of q1; clear q1)
    | (go_at_call 29; ((with_reducible refine (CN.out w1 B1.out).mono ?_); (rintro e w2 ⟨b, rfl, q2, q1⟩)); have D2 := hid_of q2; have B2 := hid_of (B1.out.trans (q1.mono (Nat.le_trans HBL.out B1.out.size))); clear q1 q2)
    | (go_at_call 25; ((with_reducible refine (CFL.out w2 b B2.out.size D2.out).mono ?_); (rintro e w3 ⟨rfl, q2, q1⟩)); have D3 := hid_of q2; have B3 := hid_of (B2.out.trans q1); clear q1 q2)
    | (go_at_call 26; ((with_reducible refine (CSY.out w3 b B3.out.size D3.out).mono ?_); (rintro e w4 ⟨cd, rfl, q2, q1⟩)); have D4 := hid_of q2; have B4 := hid_of (B3.out.trans q1); clear q1 q2)
    | (go_at_call 14; ((with_reducible refine (CO.out w4 b D4.out).mono ?_); (rintro e w5 ⟨rfl, q1⟩)); have B5 := hid_of (B4.out.trans (q1.mono (Nat.le_trans HBL.out B4.out.size))); clear q1))
  go_ret
  exact ⟨rfl, B5.out⟩
theorem op_t3 (AW : OpAW) (n z : Nat) (a2 a3 : Int) (w : World) (hG : Sh.Glob w) (hn : 1 ≤ n ∧ n ≤ 100) (hz : 16 ≤ z ∧ z ≤ 4096) (r2 : R64 a2) (r3 : R64 a3) (c1 : ¬ a2 < 0) (c2 : ¬ a3 < 4) (c3 : (n : Int) < a2) : Calls Tryd.prog 8 #[.int .i64 n, .int .i64 z, .int .i64 a2, .int .i64 a3, .bool true] w (BoP true w) := by
  obtain ⟨B, hB⟩ : ∃ B, B = w.heap.size := ⟨_, rfl⟩
  have HBL := hid_of (show B ≤ w.heap.size by omega)
  have CAW := hid_of (show Calls Tryd.prog 10 #[] w (fun e w' => e = .returned (.bool true) ∧ Below B w w') from by rw [hB]; exact AW w hG)
  rw [show BoP true w = fun e w' => e = .returned (.bool true) ∧ Below B w w' from by rw [hB]]
  obtain ⟨T, hT⟩ : ∃ T : Nat → Prop, T = fun k => k < B := ⟨_, rfl⟩
  have HTR := hid_of (fun (X : World) (h : w.heap.size ≤ X.heap.size) => show TR B T X from by rw [hT]; have h9 := tr_new (w := w) (w' := X) h; rwa [← hB] at h9)
  have d1 : ¬ 100 < (n : Int) := by omega
  have d1b : decide (100 < (n : Int)) = false := decide_eq_false d1
  have CN := hid_of (fun (X : World) (h : Below B w X) => (dr_new n z hn.1 (by omega) hz.1 hz.2 X).mono (R' := fun e w' => ∃ b, e = .returned (.tuple #[.pointer (some ⟨b, 0, none⟩), .int .i64 0]) ∧ DR B T w' b (newF n z) ∧ Below X.heap.size X w') (fun e w' ⟨b, q1, q2, q3⟩ => ⟨b, q1, by
    obtain ⟨SD, g1, g2⟩ := q2
    exact ⟨SD, g1, fun k hk => ⟨Nat.le_trans (Nat.le_trans HBL.out h.size) (g2 k hk).1, (g2 k hk).2.1, fun e => (g2 k hk).2.2 (Nat.lt_of_lt_of_le ((HTR.out w (Nat.le_refl _)).lt k e) h.size)⟩⟩, q3⟩))
  have dc1 : decide (a2 < 0) = false := decide_eq_false c1
  have dc2 : decide (a3 < 4) = false := decide_eq_false c2
  have dc3 : decide ((n : Int) < a2) = true := decide_eq_true c3
  have CFL := hid_of (fun (X : World) (b : Nat) (h : w.heap.size ≤ X.heap.size) (d : DR B T X b (newF n z)) => (d.fail (HTR.out X h) 0 ⟨by decide, by decide⟩).mono (R' := fun e w' => e = .returned (.tuple #[]) ∧ DR B T w' b (failF (newF n z) 0) ∧ Below B X w') fun e w' ⟨q1, q2, q3, _⟩ => ⟨q1, q2, q3⟩)
  have CSY := hid_of (fun (X : World) (b : Nat) (h : w.heap.size ≤ X.heap.size) (d : DR B T X b (failF (newF n z) 0)) => show Calls Tryd.prog 26 #[.pointer (some ⟨b, 0, none⟩)] X (fun e w' => ∃ cd, e = .returned (.int .i64 cd) ∧ DR B T w' b (offM n z) ∧ Below B X w') from (d.sync (HTR.out X h) (by show 0 ≤ _; omega)).mono fun e w' ⟨q1, q2, q3, _⟩ => ⟨_, q1, q2, q3⟩)
  have CO := hid_of (fun (X : World) (b : Nat) (d : DR B T X b (offM n z)) => show Calls Tryd.prog 14 #[.pointer (some ⟨b, 0, none⟩), .int .i64 a2, .int .i64 a3] X (fun e w' => e = .returned (.tuple #[.pointer none, .int .i64 1]) ∧ Below X.heap.size X w') from by
    obtain ⟨o1, o2, o3⟩ := offM_eq n z
    exact open_arg d a2 a3 r2.2 (by rw [o2, o3]; omega))
  clear hB hG AW hT
  go_enter Tryd.func8, Tryd.ntmps8
  go_wp2_with (first
    | (go_at_call 10; ((with_reducible refine (CAW.out).mono ?_); (rintro e w1 ⟨rfl, q1⟩)); have B1 := hid_of q1; clear q1)
    | (go_at_call 29; ((with_reducible refine (CN.out w1 B1.out).mono ?_); (rintro e w2 ⟨b, rfl, q2, q1⟩)); have D2 := hid_of q2; have B2 := hid_of (B1.out.trans (q1.mono (Nat.le_trans HBL.out B1.out.size))); clear q1 q2)
    | (go_at_call 25; ((with_reducible refine (CFL.out w2 b B2.out.size D2.out).mono ?_); (rintro e w3 ⟨rfl, q2, q1⟩)); have D3 := hid_of q2; have B3 := hid_of (B2.out.trans q1); clear q1 q2)
    | (go_at_call 26; ((with_reducible refine (CSY.out w3 b B3.out.size D3.out).mono ?_); (rintro e w4 ⟨cd, rfl, q2, q1⟩)); have D4 := hid_of q2; have B4 := hid_of (B3.out.trans q1); clear q1 q2)
    | (go_at_call 14; ((with_reducible refine (CO.out w4 b D4.out).mono ?_); (rintro e w5 ⟨rfl, q1⟩)); have B5 := hid_of (B4.out.trans (q1.mono (Nat.le_trans HBL.out B4.out.size))); clear q1))
  go_ret
  exact ⟨rfl, B5.out⟩
theorem op_t4 (AW : OpAW) (n z : Nat) (a2 a3 : Int) (w : World) (hG : Sh.Glob w) (hn : 1 ≤ n ∧ n ≤ 100) (hz : 16 ≤ z ∧ z ≤ 4096) (r2 : R64 a2) (r3 : R64 a3) (c1 : ¬ a2 < 0) (c2 : ¬ a3 < 4) (c3 : ¬ (n : Int) < a2) (c4 : (n : Int) - a2 < a3) : Calls Tryd.prog 8 #[.int .i64 n, .int .i64 z, .int .i64 a2, .int .i64 a3, .bool true] w (BoP true w) := by
  obtain ⟨B, hB⟩ : ∃ B, B = w.heap.size := ⟨_, rfl⟩
  have HBL := hid_of (show B ≤ w.heap.size by omega)
  have CAW := hid_of (show Calls Tryd.prog 10 #[] w (fun e w' => e = .returned (.bool true) ∧ Below B w w') from by rw [hB]; exact AW w hG)
  rw [show BoP true w = fun e w' => e = .returned (.bool true) ∧ Below B w w' from by rw [hB]]
  obtain ⟨T, hT⟩ : ∃ T : Nat → Prop, T = fun k => k < B := ⟨_, rfl⟩
  have HTR := hid_of (fun (X : World) (h : w.heap.size ≤ X.heap.size) => show TR B T X from by rw [hT]; have h9 := tr_new (w := w) (w' := X) h; rwa [← hB] at h9)
  have d1 : ¬ 100 < (n : Int) := by omega
  have d1b : decide (100 < (n : Int)) = false := decide_eq_false d1
  have CN := hid_of (fun (X : World) (h : Below B w X) => (dr_new n z hn.1 (by omega) hz.1 hz.2 X).mono (R' := fun e w' => ∃ b, e = .returned (.tuple #[.pointer (some ⟨b, 0, none⟩), .int .i64 0]) ∧ DR B T w' b (newF n z) ∧ Below X.heap.size X w') (fun e w' ⟨b, q1, q2, q3⟩ => ⟨b, q1, by
    obtain ⟨SD, g1, g2⟩ := q2
    exact ⟨SD, g1, fun k hk => ⟨Nat.le_trans (Nat.le_trans HBL.out h.size) (g2 k hk).1, (g2 k hk).2.1, fun e => (g2 k hk).2.2 (Nat.lt_of_lt_of_le ((HTR.out w (Nat.le_refl _)).lt k e) h.size)⟩⟩, q3⟩))
  have dc1 : decide (a2 < 0) = false := decide_eq_false c1
  have dc2 : decide (a3 < 4) = false := decide_eq_false c2
  have dc3 : decide ((n : Int) < a2) = false := decide_eq_false c3
  have dc4 : decide ((n : Int) - a2 < a3) = true := decide_eq_true c4
  have lw : IntKind.i64.wrap ((n : Int) - a2) = (n : Int) - a2 := IntWalk.i64_in _ (by omega)
  have CFL := hid_of (fun (X : World) (b : Nat) (h : w.heap.size ≤ X.heap.size) (d : DR B T X b (newF n z)) => (d.fail (HTR.out X h) 0 ⟨by decide, by decide⟩).mono (R' := fun e w' => e = .returned (.tuple #[]) ∧ DR B T w' b (failF (newF n z) 0) ∧ Below B X w') fun e w' ⟨q1, q2, q3, _⟩ => ⟨q1, q2, q3⟩)
  have CSY := hid_of (fun (X : World) (b : Nat) (h : w.heap.size ≤ X.heap.size) (d : DR B T X b (failF (newF n z) 0)) => show Calls Tryd.prog 26 #[.pointer (some ⟨b, 0, none⟩)] X (fun e w' => ∃ cd, e = .returned (.int .i64 cd) ∧ DR B T w' b (offM n z) ∧ Below B X w') from (d.sync (HTR.out X h) (by show 0 ≤ _; omega)).mono fun e w' ⟨q1, q2, q3, _⟩ => ⟨_, q1, q2, q3⟩)
  have CO := hid_of (fun (X : World) (b : Nat) (d : DR B T X b (offM n z)) => show Calls Tryd.prog 14 #[.pointer (some ⟨b, 0, none⟩), .int .i64 a2, .int .i64 a3] X (fun e w' => e = .returned (.tuple #[.pointer none, .int .i64 1]) ∧ Below X.heap.size X w') from by
    obtain ⟨o1, o2, o3⟩ := offM_eq n z
    exact open_arg d a2 a3 r2.2 (by rw [o2, o3]; omega))
  clear hB hG AW hT
  go_enter Tryd.func8, Tryd.ntmps8
  go_wp2_with (first
    | (go_at_call 10; ((with_reducible refine (CAW.out).mono ?_); (rintro e w1 ⟨rfl, q1⟩)); have B1 := hid_of q1; clear q1)
    | (go_at_call 29; ((with_reducible refine (CN.out w1 B1.out).mono ?_); (rintro e w2 ⟨b, rfl, q2, q1⟩)); have D2 := hid_of q2; have B2 := hid_of (B1.out.trans (q1.mono (Nat.le_trans HBL.out B1.out.size))); clear q1 q2)
    | (go_at_call 25; ((with_reducible refine (CFL.out w2 b B2.out.size D2.out).mono ?_); (rintro e w3 ⟨rfl, q2, q1⟩)); have D3 := hid_of q2; have B3 := hid_of (B2.out.trans q1); clear q1 q2)
    | (go_at_call 26; ((with_reducible refine (CSY.out w3 b B3.out.size D3.out).mono ?_); (rintro e w4 ⟨cd, rfl, q2, q1⟩)); have D4 := hid_of q2; have B4 := hid_of (B3.out.trans q1); clear q1 q2)
    | (go_at_call 14; ((with_reducible refine (CO.out w4 b D4.out).mono ?_); (rintro e w5 ⟨rfl, q1⟩)); have B5 := hid_of (B4.out.trans (q1.mono (Nat.le_trans HBL.out B4.out.size))); clear q1))
  go_ret
  exact ⟨rfl, B5.out⟩
theorem op_t5 (AW : OpAW) (n z : Nat) (a2 a3 : Int) (w : World) (hG : Sh.Glob w) (hn : 1 ≤ n ∧ n ≤ 100) (hz : 16 ≤ z ∧ z ≤ 4096) (r2 : R64 a2) (r3 : R64 a3) (c1 : ¬ a2 < 0) (c2 : ¬ a3 < 4) (c3 : ¬ (n : Int) < a2) (c4 : ¬ (n : Int) - a2 < a3) (c5 : (z : Int) < 64) : Calls Tryd.prog 8 #[.int .i64 n, .int .i64 z, .int .i64 a2, .int .i64 a3, .bool true] w (BoP true w) := by
  obtain ⟨B, hB⟩ : ∃ B, B = w.heap.size := ⟨_, rfl⟩
  have HBL := hid_of (show B ≤ w.heap.size by omega)
  have CAW := hid_of (show Calls Tryd.prog 10 #[] w (fun e w' => e = .returned (.bool true) ∧ Below B w w') from by rw [hB]; exact AW w hG)
  rw [show BoP true w = fun e w' => e = .returned (.bool true) ∧ Below B w w' from by rw [hB]]
  obtain ⟨T, hT⟩ : ∃ T : Nat → Prop, T = fun k => k < B := ⟨_, rfl⟩
  have HTR := hid_of (fun (X : World) (h : w.heap.size ≤ X.heap.size) => show TR B T X from by rw [hT]; have h9 := tr_new (w := w) (w' := X) h; rwa [← hB] at h9)
  have d1 : ¬ 100 < (n : Int) := by omega
  have d1b : decide (100 < (n : Int)) = false := decide_eq_false d1
  have CN := hid_of (fun (X : World) (h : Below B w X) => (dr_new n z hn.1 (by omega) hz.1 hz.2 X).mono (R' := fun e w' => ∃ b, e = .returned (.tuple #[.pointer (some ⟨b, 0, none⟩), .int .i64 0]) ∧ DR B T w' b (newF n z) ∧ Below X.heap.size X w') (fun e w' ⟨b, q1, q2, q3⟩ => ⟨b, q1, by
    obtain ⟨SD, g1, g2⟩ := q2
    exact ⟨SD, g1, fun k hk => ⟨Nat.le_trans (Nat.le_trans HBL.out h.size) (g2 k hk).1, (g2 k hk).2.1, fun e => (g2 k hk).2.2 (Nat.lt_of_lt_of_le ((HTR.out w (Nat.le_refl _)).lt k e) h.size)⟩⟩, q3⟩))
  have dc1 : decide (a2 < 0) = false := decide_eq_false c1
  have dc2 : decide (a3 < 4) = false := decide_eq_false c2
  have dc3 : decide ((n : Int) < a2) = false := decide_eq_false c3
  have dc4 : decide ((n : Int) - a2 < a3) = false := decide_eq_false c4
  have dc5 : decide ((z : Int) < 64) = true := decide_eq_true c5
  have lw : IntKind.i64.wrap ((n : Int) - a2) = (n : Int) - a2 := IntWalk.i64_in _ (by omega)
  have CFL := hid_of (fun (X : World) (b : Nat) (h : w.heap.size ≤ X.heap.size) (d : DR B T X b (newF n z)) => (d.fail (HTR.out X h) 0 ⟨by decide, by decide⟩).mono (R' := fun e w' => e = .returned (.tuple #[]) ∧ DR B T w' b (failF (newF n z) 0) ∧ Below B X w') fun e w' ⟨q1, q2, q3, _⟩ => ⟨q1, q2, q3⟩)
  have CSY := hid_of (fun (X : World) (b : Nat) (h : w.heap.size ≤ X.heap.size) (d : DR B T X b (failF (newF n z) 0)) => show Calls Tryd.prog 26 #[.pointer (some ⟨b, 0, none⟩)] X (fun e w' => ∃ cd, e = .returned (.int .i64 cd) ∧ DR B T w' b (offM n z) ∧ Below B X w') from (d.sync (HTR.out X h) (by show 0 ≤ _; omega)).mono fun e w' ⟨q1, q2, q3, _⟩ => ⟨_, q1, q2, q3⟩)
  have CO := hid_of (fun (X : World) (b : Nat) (d : DR B T X b (offM n z)) => show Calls Tryd.prog 14 #[.pointer (some ⟨b, 0, none⟩), .int .i64 a2, .int .i64 a3] X (fun e w' => e = .returned (.tuple #[.pointer none, .int .i64 1]) ∧ Below X.heap.size X w') from by
    obtain ⟨o1, o2, o3⟩ := offM_eq n z
    exact open_arg d a2 a3 r2.2 (by rw [o2, o3]; omega))
  clear hB hG AW hT
  go_enter Tryd.func8, Tryd.ntmps8
  go_wp2_with (first
    | (go_at_call 10; ((with_reducible refine (CAW.out).mono ?_); (rintro e w1 ⟨rfl, q1⟩)); have B1 := hid_of q1; clear q1)
    | (go_at_call 29; ((with_reducible refine (CN.out w1 B1.out).mono ?_); (rintro e w2 ⟨b, rfl, q2, q1⟩)); have D2 := hid_of q2; have B2 := hid_of (B1.out.trans (q1.mono (Nat.le_trans HBL.out B1.out.size))); clear q1 q2)
    | (go_at_call 25; ((with_reducible refine (CFL.out w2 b B2.out.size D2.out).mono ?_); (rintro e w3 ⟨rfl, q2, q1⟩)); have D3 := hid_of q2; have B3 := hid_of (B2.out.trans q1); clear q1 q2)
    | (go_at_call 26; ((with_reducible refine (CSY.out w3 b B3.out.size D3.out).mono ?_); (rintro e w4 ⟨cd, rfl, q2, q1⟩)); have D4 := hid_of q2; have B4 := hid_of (B3.out.trans q1); clear q1 q2)
    | (go_at_call 14; ((with_reducible refine (CO.out w4 b D4.out).mono ?_); (rintro e w5 ⟨rfl, q1⟩)); have B5 := hid_of (B4.out.trans (q1.mono (Nat.le_trans HBL.out B4.out.size))); clear q1))
  go_ret
  exact ⟨rfl, B5.out⟩
theorem op_t6 (AW : OpAW) (n z : Nat) (a2 a3 : Int) (w : World) (hG : Sh.Glob w) (hn : 1 ≤ n ∧ n ≤ 100) (hz : 16 ≤ z ∧ z ≤ 4096) (r2 : R64 a2) (r3 : R64 a3) (c1 : ¬ a2 < 0) (c2 : ¬ a3 < 4) (c3 : ¬ (n : Int) < a2) (c4 : ¬ (n : Int) - a2 < a3) (c5 : ¬ (z : Int) < 64) : Calls Tryd.prog 8 #[.int .i64 n, .int .i64 z, .int .i64 a2, .int .i64 a3, .bool true] w (BoP true w) := by
  obtain ⟨B, hB⟩ : ∃ B, B = w.heap.size := ⟨_, rfl⟩
  have HBL := hid_of (show B ≤ w.heap.size by omega)
  have CAW := hid_of (show Calls Tryd.prog 10 #[] w (fun e w' => e = .returned (.bool true) ∧ Below B w w') from by rw [hB]; exact AW w hG)
  rw [show BoP true w = fun e w' => e = .returned (.bool true) ∧ Below B w w' from by rw [hB]]
  obtain ⟨T, hT⟩ : ∃ T : Nat → Prop, T = fun k => k < B := ⟨_, rfl⟩
  have HTR := hid_of (fun (X : World) (h : w.heap.size ≤ X.heap.size) => show TR B T X from by rw [hT]; have h9 := tr_new (w := w) (w' := X) h; rwa [← hB] at h9)
  have d1 : ¬ 100 < (n : Int) := by omega
  have d1b : decide (100 < (n : Int)) = false := decide_eq_false d1
  have CN := hid_of (fun (X : World) (h : Below B w X) => (dr_new n z hn.1 (by omega) hz.1 hz.2 X).mono (R' := fun e w' => ∃ b, e = .returned (.tuple #[.pointer (some ⟨b, 0, none⟩), .int .i64 0]) ∧ DR B T w' b (newF n z) ∧ Below X.heap.size X w') (fun e w' ⟨b, q1, q2, q3⟩ => ⟨b, q1, by
    obtain ⟨SD, g1, g2⟩ := q2
    exact ⟨SD, g1, fun k hk => ⟨Nat.le_trans (Nat.le_trans HBL.out h.size) (g2 k hk).1, (g2 k hk).2.1, fun e => (g2 k hk).2.2 (Nat.lt_of_lt_of_le ((HTR.out w (Nat.le_refl _)).lt k e) h.size)⟩⟩, q3⟩))
  have dc1 : decide (a2 < 0) = false := decide_eq_false c1
  have dc2 : decide (a3 < 4) = false := decide_eq_false c2
  have dc3 : decide ((n : Int) < a2) = false := decide_eq_false c3
  have dc4 : decide ((n : Int) - a2 < a3) = false := decide_eq_false c4
  have dc5 : decide ((z : Int) < 64) = false := decide_eq_false c5
  have lw : IntKind.i64.wrap ((n : Int) - a2) = (n : Int) - a2 := IntWalk.i64_in _ (by omega)
  have CFL := hid_of (fun (X : World) (b : Nat) (h : w.heap.size ≤ X.heap.size) (d : DR B T X b (newF n z)) => (d.fail (HTR.out X h) 0 ⟨by decide, by decide⟩).mono (R' := fun e w' => e = .returned (.tuple #[]) ∧ DR B T w' b (failF (newF n z) 0) ∧ Below B X w') fun e w' ⟨q1, q2, q3, _⟩ => ⟨q1, q2, q3⟩)
  have CSY := hid_of (fun (X : World) (b : Nat) (h : w.heap.size ≤ X.heap.size) (d : DR B T X b (failF (newF n z) 0)) => show Calls Tryd.prog 26 #[.pointer (some ⟨b, 0, none⟩)] X (fun e w' => ∃ cd, e = .returned (.int .i64 cd) ∧ DR B T w' b (offM n z) ∧ Below B X w') from (d.sync (HTR.out X h) (by show 0 ≤ _; omega)).mono fun e w' ⟨q1, q2, q3, _⟩ => ⟨_, q1, q2, q3⟩)
  have CO := hid_of (fun (X : World) (b : Nat) (d : DR B T X b (offM n z)) => show Calls Tryd.prog 14 #[.pointer (some ⟨b, 0, none⟩), .int .i64 a2, .int .i64 a3] X (fun e w' => e = .returned (.tuple #[.pointer none, .int .i64 8]) ∧ Below X.heap.size X w') from by
    obtain ⟨o1, o2, o3⟩ := offM_eq n z
    exact open_off d a2 a3 c1 r2.2 c2 (by rw [o2]; exact c4) (by rw [o3]; omega) o1)
  clear hB hG AW hT
  go_enter Tryd.func8, Tryd.ntmps8
  go_wp2_with (first
    | (go_at_call 10; ((with_reducible refine (CAW.out).mono ?_); (rintro e w1 ⟨rfl, q1⟩)); have B1 := hid_of q1; clear q1)
    | (go_at_call 29; ((with_reducible refine (CN.out w1 B1.out).mono ?_); (rintro e w2 ⟨b, rfl, q2, q1⟩)); have D2 := hid_of q2; have B2 := hid_of (B1.out.trans (q1.mono (Nat.le_trans HBL.out B1.out.size))); clear q1 q2)
    | (go_at_call 25; ((with_reducible refine (CFL.out w2 b B2.out.size D2.out).mono ?_); (rintro e w3 ⟨rfl, q2, q1⟩)); have D3 := hid_of q2; have B3 := hid_of (B2.out.trans q1); clear q1 q2)
    | (go_at_call 26; ((with_reducible refine (CSY.out w3 b B3.out.size D3.out).mono ?_); (rintro e w4 ⟨cd, rfl, q2, q1⟩)); have D4 := hid_of q2; have B4 := hid_of (B3.out.trans q1); clear q1 q2)
    | (go_at_call 14; ((with_reducible refine (CO.out w4 b D4.out).mono ?_); (rintro e w5 ⟨rfl, q1⟩)); have B5 := hid_of (B4.out.trans (q1.mono (Nat.le_trans HBL.out B4.out.size))); clear q1))
  go_ret
  exact ⟨rfl, B5.out⟩
theorem op_f1 (AW : OpAW) (n z : Nat) (a2 a3 : Int) (w : World) (hG : Sh.Glob w) (hn : 1 ≤ n ∧ n ≤ 100) (hz : 16 ≤ z ∧ z ≤ 4096) (r2 : R64 a2) (r3 : R64 a3) (c1 : a2 < 0) : Calls Tryd.prog 8 #[.int .i64 n, .int .i64 z, .int .i64 a2, .int .i64 a3, .bool false] w (BoP true w) := by
  obtain ⟨B, hB⟩ : ∃ B, B = w.heap.size := ⟨_, rfl⟩
  have HBL := hid_of (show B ≤ w.heap.size by omega)
  have CAW := hid_of (show Calls Tryd.prog 10 #[] w (fun e w' => e = .returned (.bool true) ∧ Below B w w') from by rw [hB]; exact AW w hG)
  rw [show BoP true w = fun e w' => e = .returned (.bool true) ∧ Below B w w' from by rw [hB]]
  obtain ⟨T, hT⟩ : ∃ T : Nat → Prop, T = fun k => k < B := ⟨_, rfl⟩
  have HTR := hid_of (fun (X : World) (h : w.heap.size ≤ X.heap.size) => show TR B T X from by rw [hT]; have h9 := tr_new (w := w) (w' := X) h; rwa [← hB] at h9)
  have d1 : ¬ 100 < (n : Int) := by omega
  have d1b : decide (100 < (n : Int)) = false := decide_eq_false d1
  have CN := hid_of (fun (X : World) (h : Below B w X) => (dr_new n z hn.1 (by omega) hz.1 hz.2 X).mono (R' := fun e w' => ∃ b, e = .returned (.tuple #[.pointer (some ⟨b, 0, none⟩), .int .i64 0]) ∧ DR B T w' b (newF n z) ∧ Below X.heap.size X w') (fun e w' ⟨b, q1, q2, q3⟩ => ⟨b, q1, by
    obtain ⟨SD, g1, g2⟩ := q2
    exact ⟨SD, g1, fun k hk => ⟨Nat.le_trans (Nat.le_trans HBL.out h.size) (g2 k hk).1, (g2 k hk).2.1, fun e => (g2 k hk).2.2 (Nat.lt_of_lt_of_le ((HTR.out w (Nat.le_refl _)).lt k e) h.size)⟩⟩, q3⟩))
  have dc1 : decide (a2 < 0) = true := decide_eq_true c1
  have CO := hid_of (fun (X : World) (b : Nat) (d : DR B T X b (newF n z)) => show Calls Tryd.prog 14 #[.pointer (some ⟨b, 0, none⟩), .int .i64 a2, .int .i64 a3] X (fun e w' => e = .returned (.tuple #[.pointer none, .int .i64 1]) ∧ Below X.heap.size X w') from by
    have o2 := new_secs n z; have o3 : (newF n z).sz = z := rfl
    exact open_arg d a2 a3 r2.2 (by rw [o2, o3]; omega))
  clear hB hG AW hT
  go_enter Tryd.func8, Tryd.ntmps8
  go_wp2_with (first
    | (go_at_call 10; ((with_reducible refine (CAW.out).mono ?_); (rintro e w1 ⟨rfl, q1⟩)); have B1 := hid_of q1; clear q1)
    | (go_at_call 29; ((with_reducible refine (CN.out w1 B1.out).mono ?_); (rintro e w2 ⟨b, rfl, q2, q1⟩)); have D2 := hid_of q2; have B2 := hid_of (B1.out.trans (q1.mono (Nat.le_trans HBL.out B1.out.size))); clear q1 q2)
    | (go_at_call 14; ((with_reducible refine (CO.out w2 b D2.out).mono ?_); (rintro e w5 ⟨rfl, q1⟩)); have B5 := hid_of (B2.out.trans (q1.mono (Nat.le_trans HBL.out B2.out.size))); clear q1))
  go_ret
  exact ⟨rfl, B5.out⟩
theorem op_f2 (AW : OpAW) (n z : Nat) (a2 a3 : Int) (w : World) (hG : Sh.Glob w) (hn : 1 ≤ n ∧ n ≤ 100) (hz : 16 ≤ z ∧ z ≤ 4096) (r2 : R64 a2) (r3 : R64 a3) (c1 : ¬ a2 < 0) (c2 : a3 < 4) : Calls Tryd.prog 8 #[.int .i64 n, .int .i64 z, .int .i64 a2, .int .i64 a3, .bool false] w (BoP true w) := by
  obtain ⟨B, hB⟩ : ∃ B, B = w.heap.size := ⟨_, rfl⟩
  have HBL := hid_of (show B ≤ w.heap.size by omega)
  have CAW := hid_of (show Calls Tryd.prog 10 #[] w (fun e w' => e = .returned (.bool true) ∧ Below B w w') from by rw [hB]; exact AW w hG)
  rw [show BoP true w = fun e w' => e = .returned (.bool true) ∧ Below B w w' from by rw [hB]]
  obtain ⟨T, hT⟩ : ∃ T : Nat → Prop, T = fun k => k < B := ⟨_, rfl⟩
  have HTR := hid_of (fun (X : World) (h : w.heap.size ≤ X.heap.size) => show TR B T X from by rw [hT]; have h9 := tr_new (w := w) (w' := X) h; rwa [← hB] at h9)
  have d1 : ¬ 100 < (n : Int) := by omega
  have d1b : decide (100 < (n : Int)) = false := decide_eq_false d1
  have CN := hid_of (fun (X : World) (h : Below B w X) => (dr_new n z hn.1 (by omega) hz.1 hz.2 X).mono (R' := fun e w' => ∃ b, e = .returned (.tuple #[.pointer (some ⟨b, 0, none⟩), .int .i64 0]) ∧ DR B T w' b (newF n z) ∧ Below X.heap.size X w') (fun e w' ⟨b, q1, q2, q3⟩ => ⟨b, q1, by
    obtain ⟨SD, g1, g2⟩ := q2
    exact ⟨SD, g1, fun k hk => ⟨Nat.le_trans (Nat.le_trans HBL.out h.size) (g2 k hk).1, (g2 k hk).2.1, fun e => (g2 k hk).2.2 (Nat.lt_of_lt_of_le ((HTR.out w (Nat.le_refl _)).lt k e) h.size)⟩⟩, q3⟩))
  have dc1 : decide (a2 < 0) = false := decide_eq_false c1
  have dc2 : decide (a3 < 4) = true := decide_eq_true c2
  have CO := hid_of (fun (X : World) (b : Nat) (d : DR B T X b (newF n z)) => show Calls Tryd.prog 14 #[.pointer (some ⟨b, 0, none⟩), .int .i64 a2, .int .i64 a3] X (fun e w' => e = .returned (.tuple #[.pointer none, .int .i64 1]) ∧ Below X.heap.size X w') from by
    have o2 := new_secs n z; have o3 : (newF n z).sz = z := rfl
    exact open_arg d a2 a3 r2.2 (by rw [o2, o3]; omega))
  clear hB hG AW hT
  go_enter Tryd.func8, Tryd.ntmps8
  go_wp2_with (first
    | (go_at_call 10; ((with_reducible refine (CAW.out).mono ?_); (rintro e w1 ⟨rfl, q1⟩)); have B1 := hid_of q1; clear q1)
    | (go_at_call 29; ((with_reducible refine (CN.out w1 B1.out).mono ?_); (rintro e w2 ⟨b, rfl, q2, q1⟩)); have D2 := hid_of q2; have B2 := hid_of (B1.out.trans (q1.mono (Nat.le_trans HBL.out B1.out.size))); clear q1 q2)
    | (go_at_call 14; ((with_reducible refine (CO.out w2 b D2.out).mono ?_); (rintro e w5 ⟨rfl, q1⟩)); have B5 := hid_of (B2.out.trans (q1.mono (Nat.le_trans HBL.out B2.out.size))); clear q1))
  go_ret
  exact ⟨rfl, B5.out⟩
theorem op_f3 (AW : OpAW) (n z : Nat) (a2 a3 : Int) (w : World) (hG : Sh.Glob w) (hn : 1 ≤ n ∧ n ≤ 100) (hz : 16 ≤ z ∧ z ≤ 4096) (r2 : R64 a2) (r3 : R64 a3) (c1 : ¬ a2 < 0) (c2 : ¬ a3 < 4) (c3 : (n : Int) < a2) : Calls Tryd.prog 8 #[.int .i64 n, .int .i64 z, .int .i64 a2, .int .i64 a3, .bool false] w (BoP true w) := by
  obtain ⟨B, hB⟩ : ∃ B, B = w.heap.size := ⟨_, rfl⟩
  have HBL := hid_of (show B ≤ w.heap.size by omega)
  have CAW := hid_of (show Calls Tryd.prog 10 #[] w (fun e w' => e = .returned (.bool true) ∧ Below B w w') from by rw [hB]; exact AW w hG)
  rw [show BoP true w = fun e w' => e = .returned (.bool true) ∧ Below B w w' from by rw [hB]]
  obtain ⟨T, hT⟩ : ∃ T : Nat → Prop, T = fun k => k < B := ⟨_, rfl⟩
  have HTR := hid_of (fun (X : World) (h : w.heap.size ≤ X.heap.size) => show TR B T X from by rw [hT]; have h9 := tr_new (w := w) (w' := X) h; rwa [← hB] at h9)
  have d1 : ¬ 100 < (n : Int) := by omega
  have d1b : decide (100 < (n : Int)) = false := decide_eq_false d1
  have CN := hid_of (fun (X : World) (h : Below B w X) => (dr_new n z hn.1 (by omega) hz.1 hz.2 X).mono (R' := fun e w' => ∃ b, e = .returned (.tuple #[.pointer (some ⟨b, 0, none⟩), .int .i64 0]) ∧ DR B T w' b (newF n z) ∧ Below X.heap.size X w') (fun e w' ⟨b, q1, q2, q3⟩ => ⟨b, q1, by
    obtain ⟨SD, g1, g2⟩ := q2
    exact ⟨SD, g1, fun k hk => ⟨Nat.le_trans (Nat.le_trans HBL.out h.size) (g2 k hk).1, (g2 k hk).2.1, fun e => (g2 k hk).2.2 (Nat.lt_of_lt_of_le ((HTR.out w (Nat.le_refl _)).lt k e) h.size)⟩⟩, q3⟩))
  have dc1 : decide (a2 < 0) = false := decide_eq_false c1
  have dc2 : decide (a3 < 4) = false := decide_eq_false c2
  have dc3 : decide ((n : Int) < a2) = true := decide_eq_true c3
  have CO := hid_of (fun (X : World) (b : Nat) (d : DR B T X b (newF n z)) => show Calls Tryd.prog 14 #[.pointer (some ⟨b, 0, none⟩), .int .i64 a2, .int .i64 a3] X (fun e w' => e = .returned (.tuple #[.pointer none, .int .i64 1]) ∧ Below X.heap.size X w') from by
    have o2 := new_secs n z; have o3 : (newF n z).sz = z := rfl
    exact open_arg d a2 a3 r2.2 (by rw [o2, o3]; omega))
  clear hB hG AW hT
  go_enter Tryd.func8, Tryd.ntmps8
  go_wp2_with (first
    | (go_at_call 10; ((with_reducible refine (CAW.out).mono ?_); (rintro e w1 ⟨rfl, q1⟩)); have B1 := hid_of q1; clear q1)
    | (go_at_call 29; ((with_reducible refine (CN.out w1 B1.out).mono ?_); (rintro e w2 ⟨b, rfl, q2, q1⟩)); have D2 := hid_of q2; have B2 := hid_of (B1.out.trans (q1.mono (Nat.le_trans HBL.out B1.out.size))); clear q1 q2)
    | (go_at_call 14; ((with_reducible refine (CO.out w2 b D2.out).mono ?_); (rintro e w5 ⟨rfl, q1⟩)); have B5 := hid_of (B2.out.trans (q1.mono (Nat.le_trans HBL.out B2.out.size))); clear q1))
  go_ret
  exact ⟨rfl, B5.out⟩
theorem op_f4 (AW : OpAW) (n z : Nat) (a2 a3 : Int) (w : World) (hG : Sh.Glob w) (hn : 1 ≤ n ∧ n ≤ 100) (hz : 16 ≤ z ∧ z ≤ 4096) (r2 : R64 a2) (r3 : R64 a3) (c1 : ¬ a2 < 0) (c2 : ¬ a3 < 4) (c3 : ¬ (n : Int) < a2) (c4 : (n : Int) - a2 < a3) : Calls Tryd.prog 8 #[.int .i64 n, .int .i64 z, .int .i64 a2, .int .i64 a3, .bool false] w (BoP true w) := by
  obtain ⟨B, hB⟩ : ∃ B, B = w.heap.size := ⟨_, rfl⟩
  have HBL := hid_of (show B ≤ w.heap.size by omega)
  have CAW := hid_of (show Calls Tryd.prog 10 #[] w (fun e w' => e = .returned (.bool true) ∧ Below B w w') from by rw [hB]; exact AW w hG)
  rw [show BoP true w = fun e w' => e = .returned (.bool true) ∧ Below B w w' from by rw [hB]]
  obtain ⟨T, hT⟩ : ∃ T : Nat → Prop, T = fun k => k < B := ⟨_, rfl⟩
  have HTR := hid_of (fun (X : World) (h : w.heap.size ≤ X.heap.size) => show TR B T X from by rw [hT]; have h9 := tr_new (w := w) (w' := X) h; rwa [← hB] at h9)
  have d1 : ¬ 100 < (n : Int) := by omega
  have d1b : decide (100 < (n : Int)) = false := decide_eq_false d1
  have CN := hid_of (fun (X : World) (h : Below B w X) => (dr_new n z hn.1 (by omega) hz.1 hz.2 X).mono (R' := fun e w' => ∃ b, e = .returned (.tuple #[.pointer (some ⟨b, 0, none⟩), .int .i64 0]) ∧ DR B T w' b (newF n z) ∧ Below X.heap.size X w') (fun e w' ⟨b, q1, q2, q3⟩ => ⟨b, q1, by
    obtain ⟨SD, g1, g2⟩ := q2
    exact ⟨SD, g1, fun k hk => ⟨Nat.le_trans (Nat.le_trans HBL.out h.size) (g2 k hk).1, (g2 k hk).2.1, fun e => (g2 k hk).2.2 (Nat.lt_of_lt_of_le ((HTR.out w (Nat.le_refl _)).lt k e) h.size)⟩⟩, q3⟩))
  have dc1 : decide (a2 < 0) = false := decide_eq_false c1
  have dc2 : decide (a3 < 4) = false := decide_eq_false c2
  have dc3 : decide ((n : Int) < a2) = false := decide_eq_false c3
  have dc4 : decide ((n : Int) - a2 < a3) = true := decide_eq_true c4
  have lw : IntKind.i64.wrap ((n : Int) - a2) = (n : Int) - a2 := IntWalk.i64_in _ (by omega)
  have CO := hid_of (fun (X : World) (b : Nat) (d : DR B T X b (newF n z)) => show Calls Tryd.prog 14 #[.pointer (some ⟨b, 0, none⟩), .int .i64 a2, .int .i64 a3] X (fun e w' => e = .returned (.tuple #[.pointer none, .int .i64 1]) ∧ Below X.heap.size X w') from by
    have o2 := new_secs n z; have o3 : (newF n z).sz = z := rfl
    exact open_arg d a2 a3 r2.2 (by rw [o2, o3]; omega))
  clear hB hG AW hT
  go_enter Tryd.func8, Tryd.ntmps8
  go_wp2_with (first
    | (go_at_call 10; ((with_reducible refine (CAW.out).mono ?_); (rintro e w1 ⟨rfl, q1⟩)); have B1 := hid_of q1; clear q1)
    | (go_at_call 29; ((with_reducible refine (CN.out w1 B1.out).mono ?_); (rintro e w2 ⟨b, rfl, q2, q1⟩)); have D2 := hid_of q2; have B2 := hid_of (B1.out.trans (q1.mono (Nat.le_trans HBL.out B1.out.size))); clear q1 q2)
    | (go_at_call 14; ((with_reducible refine (CO.out w2 b D2.out).mono ?_); (rintro e w5 ⟨rfl, q1⟩)); have B5 := hid_of (B2.out.trans (q1.mono (Nat.le_trans HBL.out B2.out.size))); clear q1))
  go_ret
  exact ⟨rfl, B5.out⟩
theorem op_f5 (AW : OpAW) (n z : Nat) (a2 a3 : Int) (w : World) (hG : Sh.Glob w) (hn : 1 ≤ n ∧ n ≤ 100) (hz : 16 ≤ z ∧ z ≤ 4096) (r2 : R64 a2) (r3 : R64 a3) (c1 : ¬ a2 < 0) (c2 : ¬ a3 < 4) (c3 : ¬ (n : Int) < a2) (c4 : ¬ (n : Int) - a2 < a3) (c5 : (z : Int) < 64) : Calls Tryd.prog 8 #[.int .i64 n, .int .i64 z, .int .i64 a2, .int .i64 a3, .bool false] w (BoP true w) := by
  obtain ⟨B, hB⟩ : ∃ B, B = w.heap.size := ⟨_, rfl⟩
  have HBL := hid_of (show B ≤ w.heap.size by omega)
  have CAW := hid_of (show Calls Tryd.prog 10 #[] w (fun e w' => e = .returned (.bool true) ∧ Below B w w') from by rw [hB]; exact AW w hG)
  rw [show BoP true w = fun e w' => e = .returned (.bool true) ∧ Below B w w' from by rw [hB]]
  obtain ⟨T, hT⟩ : ∃ T : Nat → Prop, T = fun k => k < B := ⟨_, rfl⟩
  have HTR := hid_of (fun (X : World) (h : w.heap.size ≤ X.heap.size) => show TR B T X from by rw [hT]; have h9 := tr_new (w := w) (w' := X) h; rwa [← hB] at h9)
  have d1 : ¬ 100 < (n : Int) := by omega
  have d1b : decide (100 < (n : Int)) = false := decide_eq_false d1
  have CN := hid_of (fun (X : World) (h : Below B w X) => (dr_new n z hn.1 (by omega) hz.1 hz.2 X).mono (R' := fun e w' => ∃ b, e = .returned (.tuple #[.pointer (some ⟨b, 0, none⟩), .int .i64 0]) ∧ DR B T w' b (newF n z) ∧ Below X.heap.size X w') (fun e w' ⟨b, q1, q2, q3⟩ => ⟨b, q1, by
    obtain ⟨SD, g1, g2⟩ := q2
    exact ⟨SD, g1, fun k hk => ⟨Nat.le_trans (Nat.le_trans HBL.out h.size) (g2 k hk).1, (g2 k hk).2.1, fun e => (g2 k hk).2.2 (Nat.lt_of_lt_of_le ((HTR.out w (Nat.le_refl _)).lt k e) h.size)⟩⟩, q3⟩))
  have dc1 : decide (a2 < 0) = false := decide_eq_false c1
  have dc2 : decide (a3 < 4) = false := decide_eq_false c2
  have dc3 : decide ((n : Int) < a2) = false := decide_eq_false c3
  have dc4 : decide ((n : Int) - a2 < a3) = false := decide_eq_false c4
  have dc5 : decide ((z : Int) < 64) = true := decide_eq_true c5
  have lw : IntKind.i64.wrap ((n : Int) - a2) = (n : Int) - a2 := IntWalk.i64_in _ (by omega)
  have CO := hid_of (fun (X : World) (b : Nat) (d : DR B T X b (newF n z)) => show Calls Tryd.prog 14 #[.pointer (some ⟨b, 0, none⟩), .int .i64 a2, .int .i64 a3] X (fun e w' => e = .returned (.tuple #[.pointer none, .int .i64 1]) ∧ Below X.heap.size X w') from by
    have o2 := new_secs n z; have o3 : (newF n z).sz = z := rfl
    exact open_arg d a2 a3 r2.2 (by rw [o2, o3]; omega))
  clear hB hG AW hT
  go_enter Tryd.func8, Tryd.ntmps8
  go_wp2_with (first
    | (go_at_call 10; ((with_reducible refine (CAW.out).mono ?_); (rintro e w1 ⟨rfl, q1⟩)); have B1 := hid_of q1; clear q1)
    | (go_at_call 29; ((with_reducible refine (CN.out w1 B1.out).mono ?_); (rintro e w2 ⟨b, rfl, q2, q1⟩)); have D2 := hid_of q2; have B2 := hid_of (B1.out.trans (q1.mono (Nat.le_trans HBL.out B1.out.size))); clear q1 q2)
    | (go_at_call 14; ((with_reducible refine (CO.out w2 b D2.out).mono ?_); (rintro e w5 ⟨rfl, q1⟩)); have B5 := hid_of (B2.out.trans (q1.mono (Nat.le_trans HBL.out B2.out.size))); clear q1))
  go_ret
  exact ⟨rfl, B5.out⟩
theorem op_f6 (AW : OpAW) (n z : Nat) (a2 a3 : Int) (w : World) (hG : Sh.Glob w) (hn : 1 ≤ n ∧ n ≤ 100) (hz : 16 ≤ z ∧ z ≤ 4096) (r2 : R64 a2) (r3 : R64 a3) (c1 : ¬ a2 < 0) (c2 : ¬ a3 < 4) (c3 : ¬ (n : Int) < a2) (c4 : ¬ (n : Int) - a2 < a3) (c5 : ¬ (z : Int) < 64) : Calls Tryd.prog 8 #[.int .i64 n, .int .i64 z, .int .i64 a2, .int .i64 a3, .bool false] w (BoP true w) := by
  obtain ⟨B, hB⟩ : ∃ B, B = w.heap.size := ⟨_, rfl⟩
  have HBL := hid_of (show B ≤ w.heap.size by omega)
  have CAW := hid_of (show Calls Tryd.prog 10 #[] w (fun e w' => e = .returned (.bool true) ∧ Below B w w') from by rw [hB]; exact AW w hG)
  rw [show BoP true w = fun e w' => e = .returned (.bool true) ∧ Below B w w' from by rw [hB]]
  obtain ⟨T, hT⟩ : ∃ T : Nat → Prop, T = fun k => k < B := ⟨_, rfl⟩
  have HTR := hid_of (fun (X : World) (h : w.heap.size ≤ X.heap.size) => show TR B T X from by rw [hT]; have h9 := tr_new (w := w) (w' := X) h; rwa [← hB] at h9)
  have d1 : ¬ 100 < (n : Int) := by omega
  have d1b : decide (100 < (n : Int)) = false := decide_eq_false d1
  have CN := hid_of (fun (X : World) (h : Below B w X) => (dr_new n z hn.1 (by omega) hz.1 hz.2 X).mono (R' := fun e w' => ∃ b, e = .returned (.tuple #[.pointer (some ⟨b, 0, none⟩), .int .i64 0]) ∧ DR B T w' b (newF n z) ∧ Below X.heap.size X w') (fun e w' ⟨b, q1, q2, q3⟩ => ⟨b, q1, by
    obtain ⟨SD, g1, g2⟩ := q2
    exact ⟨SD, g1, fun k hk => ⟨Nat.le_trans (Nat.le_trans HBL.out h.size) (g2 k hk).1, (g2 k hk).2.1, fun e => (g2 k hk).2.2 (Nat.lt_of_lt_of_le ((HTR.out w (Nat.le_refl _)).lt k e) h.size)⟩⟩, q3⟩))
  have dc1 : decide (a2 < 0) = false := decide_eq_false c1
  have dc2 : decide (a3 < 4) = false := decide_eq_false c2
  have dc3 : decide ((n : Int) < a2) = false := decide_eq_false c3
  have dc4 : decide ((n : Int) - a2 < a3) = false := decide_eq_false c4
  have dc5 : decide ((z : Int) < 64) = false := decide_eq_false c5
  have lw : IntKind.i64.wrap ((n : Int) - a2) = (n : Int) - a2 := IntWalk.i64_in _ (by omega)
  obtain ⟨f, hf⟩ : ∃ f : Nat, a2 = f := ⟨a2.toNat, by omega⟩
  obtain ⟨ct, hct⟩ : ∃ ct : Nat, a3 = ct := ⟨a3.toNat, by omega⟩
  subst hf hct
  obtain ⟨q, hq⟩ : ∃ q, q = ct / 2 := ⟨_, rfl⟩
  obtain ⟨p, hp⟩ : ∃ p, p = q - 1 := ⟨_, rfl⟩
  obtain ⟨Rm, hR⟩ : ∃ Rm, Rm = p * z := ⟨_, rfl⟩
  have hR9 : Rm ≤ 100 * 4096 := by rw [hR]; exact Nat.mul_le_mul (by omega) hz.2
  have e1 : (ct : Int).tdiv 2 = (q : Int) := by rw [Int.tdiv_eq_ediv_of_nonneg (by omega)]; omega
  have ct9 : ct ≤ 65536 := by omega
  have f9 : f ≤ 65536 := by omega
  have e1w : IntKind.i64.wrap (q : Int) = (q : Int) := IntWalk.i64_in _ (by omega)
  have e2 : IntKind.i64.wrap ((q : Int) - 1) = (p : Int) := by rw [show (q : Int) - 1 = (p : Int) by omega]; exact IntWalk.i64_in _ (by omega)
  have e2b : (q : Int) - 1 = (p : Int) := by omega
  have e2w : IntKind.i64.wrap (p : Int) = (p : Int) := IntWalk.i64_in _ (by omega)
  have e3 : IntKind.i64.wrap ((p : Int) * (z : Int)) = (Rm : Int) := by rw [← Int.natCast_mul, ← hR]; exact IntWalk.i64_in _ (by omega)
  have e3b : (p : Int) * (z : Int) = (Rm : Int) := by rw [← Int.natCast_mul, ← hR]
  have e3w : IntKind.i64.wrap (Rm : Int) = (Rm : Int) := IntWalk.i64_in _ (by omega)
  have CO := hid_of (fun (X : World) (b : Nat) (h : w.heap.size ≤ X.heap.size) (hX : Below B w X) (d : DR B T X b (newF n z)) => show Calls Tryd.prog 14 #[.pointer (some ⟨b, 0, none⟩), .int .i64 (f : Nat), .int .i64 (ct : Nat)] X (fun e w' => ∃ cb, e = .returned (.tuple #[.pointer (some ⟨cb, 0, none⟩), .int .i64 0]) ∧ CKR B T w' cb b (newF n z) f q 1 [] 0 true ∧ Below X.heap.size X w') from by
    have h9 := open_yes (f := f) (ct := ct) d (HTR.out X h) ⟨by rw [new_secs]; omega, by omega⟩ (by show 64 ≤ z; omega) rfl (by show 0 ≤ _; omega) (rng_new n z) (hG.bel hX (by rw [hB]; exact hG.two))
    rw [show newestF (slD (newF n z) f (ct / 2)) (slD (newF n z) (f + ct / 2) (ct / 2)) = ([], 0, 1) from new_nwD n z f (ct / 2) (by omega), ← hq] at h9
    exact h9)
  have CLD := hid_of (fun (X : World) (cb b : Nat) (h : CKR B T X cb b (newF n z) f q 1 [] 0 true) => show Calls Tryd.prog 15 #[.pointer (some ⟨cb, 0, none⟩)] X (fun e w' => ∃ x c, e = .returned (.tuple #[.slice x 0 c, .int .i64 0]) ∧ Below X.heap.size X w') from h.load.mono fun e w' ⟨x, k, c, g1, g2, g3⟩ => ⟨x, c, by have h9 := (rd_cut g2.1).1; rw [by8_length] at h9; have h9 : k = 0 := h9; subst h9; exact g1, g3⟩)
  have CRM := hid_of (fun (X : World) (cb b : Nat) (h : CKR B T X cb b (newF n z) f q 1 [] 0 true) => show Calls Tryd.prog 18 #[.pointer (some ⟨cb, 0, none⟩)] X (fun e w' => e = .returned (.int .i64 (Rm : Nat)) ∧ Below X.heap.size X w') from by have h9 := h.room; rw [show (newF n z).sz = z from rfl, ← hp, ← hR] at h9; exact h9)
  clear hB hG AW hT hq hp hR
  go_enter Tryd.func8, Tryd.ntmps8
  go_wp2_with (first
    | (go_at_call 10; ((with_reducible refine (CAW.out).mono ?_); (rintro e w1 ⟨rfl, q1⟩)); have B1 := hid_of q1; clear q1)
    | (go_at_call 29; ((with_reducible refine (CN.out w1 B1.out).mono ?_); (rintro e w2 ⟨b, rfl, q2, q1⟩)); have D2 := hid_of q2; have B2 := hid_of (B1.out.trans (q1.mono (Nat.le_trans HBL.out B1.out.size))); clear q1 q2)
    | (go_at_call 14; ((with_reducible refine (CO.out w2 b B2.out.size B2.out D2.out).mono ?_); (rintro e w5 ⟨cb, rfl, q2, q1⟩)); have L5 := hid_of q2; have B5 := hid_of (B2.out.trans (q1.mono (Nat.le_trans HBL.out B2.out.size))); clear q1 q2)
    | (go_at_call 15; ((with_reducible refine (CLD.out w5 cb b L5.out).mono ?_); (rintro e w6 ⟨x6, c6, rfl, q1⟩)); have L6 := hid_of (L5.out.bel0 q1); have B6 := hid_of (B5.out.trans (q1.mono (Nat.le_trans HBL.out B5.out.size))); clear q1)
    | (go_at_call 18; ((with_reducible refine (CRM.out w6 cb b L6.out).mono ?_); (rintro e w7 ⟨rfl, q1⟩)); have B7 := hid_of (B6.out.trans (q1.mono (Nat.le_trans HBL.out B6.out.size))); clear q1))
  go_ret
  exact ⟨rfl, B7.out⟩
theorem opens_law (AW : OpAW) (a0 a1 a2 a3 : Int) (dn : Bool) (w : World) (hG : Sh.Glob w) (w0 : (Lit.int .i64 a0).wf = true) (w1 : (Lit.int .i64 a1).wf = true) (w2 : (Lit.int .i64 a2).wf = true) (w3 : (Lit.int .i64 a3).wf = true) : Calls Tryd.prog 8 #[.int .i64 a0, .int .i64 a1, .int .i64 a2, .int .i64 a3, .bool dn] w (BoP true w) := by
  have r0 := wf_r64 w0
  have r1 := wf_r64 w1
  have r2 := wf_r64 w2
  have r3 := wf_r64 w3
  by_cases hb : 100 < a0
  · exact op_big AW a0 a1 a2 a3 dn w hG hb
  by_cases hv : (1 ≤ a0 ∧ a0 ≤ 65536) ∧ 16 ≤ a1 ∧ a1 ≤ 4096
  · obtain ⟨n, rfl⟩ : ∃ n : Nat, a0 = n := ⟨a0.toNat, by omega⟩
    obtain ⟨z, rfl⟩ : ∃ z : Nat, a1 = z := ⟨a1.toNat, by omega⟩
    have hn : 1 ≤ n ∧ n ≤ 100 := by omega
    have hz : 16 ≤ z ∧ z ≤ 4096 := by omega
    by_cases c1 : a2 < 0
    · cases dn; exact op_f1 AW n z a2 a3 w hG hn hz r2 r3 c1; exact op_t1 AW n z a2 a3 w hG hn hz r2 r3 c1
    by_cases c2 : a3 < 4
    · cases dn; exact op_f2 AW n z a2 a3 w hG hn hz r2 r3 c1 c2; exact op_t2 AW n z a2 a3 w hG hn hz r2 r3 c1 c2
    by_cases c3 : (n : Int) < a2
    · cases dn; exact op_f3 AW n z a2 a3 w hG hn hz r2 r3 c1 c2 c3; exact op_t3 AW n z a2 a3 w hG hn hz r2 r3 c1 c2 c3
    by_cases c4 : (n : Int) - a2 < a3
    · cases dn; exact op_f4 AW n z a2 a3 w hG hn hz r2 r3 c1 c2 c3 c4; exact op_t4 AW n z a2 a3 w hG hn hz r2 r3 c1 c2 c3 c4
    by_cases c5 : (z : Int) < 64
    · cases dn; exact op_f5 AW n z a2 a3 w hG hn hz r2 r3 c1 c2 c3 c4 c5; exact op_t5 AW n z a2 a3 w hG hn hz r2 r3 c1 c2 c3 c4 c5
    · cases dn; exact op_f6 AW n z a2 a3 w hG hn hz r2 r3 c1 c2 c3 c4 c5; exact op_t6 AW n z a2 a3 w hG hn hz r2 r3 c1 c2 c3 c4 c5
  · exact op_bad AW a0 a1 a2 a3 dn w hG hb r0 r1 hv
end Go.Proofs.YtlffiebnieakjaaDoor
