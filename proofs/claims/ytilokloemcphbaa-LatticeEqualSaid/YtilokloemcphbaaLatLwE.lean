/- The law on equality. Bounds on sizes alone. -/
import Derived.Test.YtilokloemcphbaaLatAwk
import Derived.Test.YtilokloemcphbaaLatREq
import Derived.Test.YtilokloemcphbaaLatOpn
namespace Go.Proofs.Ytilokloemcphbaa
open Go.RowKit

theorem dec_comm (t u : Lat) : decide (u = t) = decide (t = u) := by
  by_cases h : t = u
  · rw [decide_eq_true h, decide_eq_true h.symm]
  · rw [decide_eq_false h, decide_eq_false (fun e => h e.symm)]
set_option maxRecDepth 100000 in
set_option maxHeartbeats 6400000 in
theorem equal_law (t u : Lat) (kA loA hiA : Int) (anA : Option Addr) (nnA cnA : Nat) (apA : Option Addr) (npA cpA : Nat) (arA : Option Addr) (nrA crA : Nat) (kB loB hiB : Int) (anB : Option Addr) (nnB cnB : Nat) (apB : Option Addr) (npB cpB : Nat) (arB : Option Addr) (nrB crB : Nat) (w : World) (H1 : LO w kA loA hiA anA nnA cnA apA npA cpA arA nrA crA t) (H2 : LO w kB loB hiB anB nnB cnB apB npB cpB arB nrB crB u) : Calls Try.prog 4 #[.agg #[.int .i64 kA, .int .i64 loA, .int .i64 hiA, .slice anA nnA cnA, .slice apA npA cpA, .slice arA nrA crA], .agg #[.int .i64 kB, .int .i64 loB, .int .i64 hiB, .slice anB nnB cnB, .slice apB npB cpB, .slice arB nrB crB]] w (BoP true w) := by
  have HBB := hid_of (((Below.refl w.heap.size w).alloc (Nat.le_refl _) (.cells #[.int .i64 kA, .int .i64 loA, .int .i64 hiA, .slice anA nnA cnA, .slice apA npA cpA, .slice arA nrA crA] 26)).alloc (by simp) (.cells #[.int .i64 kB, .int .i64 loB, .int .i64 hiB, .slice anB nnB cnB, .slice apB npB cpB, .slice arB nrB crB] 26))
  have HC := hid_of (fun (w' : World) (h : Below ((w.alloc (.cells #[.int .i64 kA, .int .i64 loA, .int .i64 hiA, .slice anA nnA cnA, .slice apA npA cpA, .slice arA nrA crA] 26)).alloc (.cells #[.int .i64 kB, .int .i64 loB, .int .i64 hiB, .slice anB nnB cnB, .slice apB npB cpB, .slice arB nrB crB] 26)).heap.size ((w.alloc (.cells #[.int .i64 kA, .int .i64 loA, .int .i64 hiA, .slice anA nnA cnA, .slice apA npA cpA, .slice arA nrA crA] 26)).alloc (.cells #[.int .i64 kB, .int .i64 loB, .int .i64 hiB, .slice anB nnB cnB, .slice apB npB cpB, .slice arB nrB crB] 26)) w') => two_box kA loA hiA anA nnA cnA apA npA cpA arA nrA crA kB loB hiB anB nnB cnB apB npB cpB arB nrB crB h)
  have AW := hid_of (fun w => awake_any w)
  have EAB := hid_of (fun (wz : World) (hz : Below ((w.alloc (.cells #[.int .i64 kA, .int .i64 loA, .int .i64 hiA, .slice anA nnA cnA, .slice apA npA cpA, .slice arA nrA crA] 26)).alloc (.cells #[.int .i64 kB, .int .i64 loB, .int .i64 hiB, .slice anB nnB cnB, .slice apB npB cpB, .slice arB nrB crB] 26)).heap.size ((w.alloc (.cells #[.int .i64 kA, .int .i64 loA, .int .i64 hiA, .slice anA nnA cnA, .slice apA npA cpA, .slice arA nrA crA] 26)).alloc (.cells #[.int .i64 kB, .int .i64 loB, .int .i64 hiB, .slice anB nnB cnB, .slice apB npB cpB, .slice arB nrB crB] 26)) wz) => equal_any t u kA loA hiA anA nnA cnA apA npA cpA arA nrA crA kB loB hiB anB nnB cnB apB npB cpB arB nrB crB wz (H1.at (HBB.out.trans (hz.mono HBB.out.size))) (H2.at (HBB.out.trans (hz.mono HBB.out.size))))
  have EBA := hid_of (fun (wz : World) (hz : Below ((w.alloc (.cells #[.int .i64 kA, .int .i64 loA, .int .i64 hiA, .slice anA nnA cnA, .slice apA npA cpA, .slice arA nrA crA] 26)).alloc (.cells #[.int .i64 kB, .int .i64 loB, .int .i64 hiB, .slice anB nnB cnB, .slice apB npB cpB, .slice arB nrB crB] 26)).heap.size ((w.alloc (.cells #[.int .i64 kA, .int .i64 loA, .int .i64 hiA, .slice anA nnA cnA, .slice apA npA cpA, .slice arA nrA crA] 26)).alloc (.cells #[.int .i64 kB, .int .i64 loB, .int .i64 hiB, .slice anB nnB cnB, .slice apB npB cpB, .slice arB nrB crB] 26)) wz) => equal_any u t kB loB hiB anB nnB cnB apB npB cpB arB nrB crB kA loA hiA anA nnA cnA apA npA cpA arA nrA crA wz (H2.at (HBB.out.trans (hz.mono HBB.out.size))) (H1.at (HBB.out.trans (hz.mono HBB.out.size))))
  have EAA := hid_of (fun (wz : World) (hz : Below ((w.alloc (.cells #[.int .i64 kA, .int .i64 loA, .int .i64 hiA, .slice anA nnA cnA, .slice apA npA cpA, .slice arA nrA crA] 26)).alloc (.cells #[.int .i64 kB, .int .i64 loB, .int .i64 hiB, .slice anB nnB cnB, .slice apB npB cpB, .slice arB nrB crB] 26)).heap.size ((w.alloc (.cells #[.int .i64 kA, .int .i64 loA, .int .i64 hiA, .slice anA nnA cnA, .slice apA npA cpA, .slice arA nrA crA] 26)).alloc (.cells #[.int .i64 kB, .int .i64 loB, .int .i64 hiB, .slice anB nnB cnB, .slice apB npB cpB, .slice arB nrB crB] 26)) wz) => equal_any t t kA loA hiA anA nnA cnA apA npA cpA arA nrA crA kA loA hiA anA nnA cnA apA npA cpA arA nrA crA wz (H1.at (HBB.out.trans (hz.mono HBB.out.size))) (H1.at (HBB.out.trans (hz.mono HBB.out.size))))
  have RAB := hid_of (fun (wz : World) (hz : Below ((w.alloc (.cells #[.int .i64 kA, .int .i64 loA, .int .i64 hiA, .slice anA nnA cnA, .slice apA npA cpA, .slice arA nrA crA] 26)).alloc (.cells #[.int .i64 kB, .int .i64 loB, .int .i64 hiB, .slice anB nnB cnB, .slice apB npB cpB, .slice arB nrB crB] 26)).heap.size ((w.alloc (.cells #[.int .i64 kA, .int .i64 loA, .int .i64 hiA, .slice anA nnA cnA, .slice apA npA cpA, .slice arA nrA crA] 26)).alloc (.cells #[.int .i64 kB, .int .i64 loB, .int .i64 hiB, .slice anB nnB cnB, .slice apB npB cpB, .slice arB nrB crB] 26)) wz) => requal_any t u kA loA hiA anA nnA cnA apA npA cpA arA nrA crA kB loB hiB anB nnB cnB apB npB cpB arB nrB crB wz (H1.at (HBB.out.trans (hz.mono HBB.out.size))) (H2.at (HBB.out.trans (hz.mono HBB.out.size))))
  rw [dec_comm t u] at EBA
  rw [show decide (t = t) = true by simp] at EAA
  obtain ⟨q, hq⟩ : ∃ q, q = decide (t = u) := ⟨_, rfl⟩
  rw [← hq] at EAB EBA RAB
  have cs0 := HC.out ((w.alloc (.cells #[.int .i64 kA, .int .i64 loA, .int .i64 hiA, .slice anA nnA cnA, .slice apA npA cpA, .slice arA nrA crA] 26)).alloc (.cells #[.int .i64 kB, .int .i64 loB, .int .i64 hiB, .slice anB nnB cnB, .slice apB npB cpB, .slice arB nrB crB] 26)) (Below.refl _ _)
  clear hq H1 H2
  cases q
  all_goals
    go_enter Try.func4, Try.ntmps4
    go_wp2
    go_region_held3 (fun wz => wz.cell? ⟨w.heap.size, 0, none⟩ = some (.int .i64 kA) ∧ wz.cell? ⟨w.heap.size, 1, none⟩ = some (.int .i64 loA) ∧ wz.cell? ⟨w.heap.size, 2, none⟩ = some (.int .i64 hiA) ∧ wz.cell? ⟨w.heap.size, 3, none⟩ = some (.slice anA nnA cnA) ∧ wz.cell? ⟨w.heap.size, 4, none⟩ = some (.slice apA npA cpA) ∧ wz.cell? ⟨w.heap.size, 5, none⟩ = some (.slice arA nrA crA) ∧ wz.cell? ⟨w.heap.size + 1, 0, none⟩ = some (.int .i64 kB) ∧ wz.cell? ⟨w.heap.size + 1, 1, none⟩ = some (.int .i64 loB) ∧ wz.cell? ⟨w.heap.size + 1, 2, none⟩ = some (.int .i64 hiB) ∧ wz.cell? ⟨w.heap.size + 1, 3, none⟩ = some (.slice anB nnB cnB) ∧ wz.cell? ⟨w.heap.size + 1, 4, none⟩ = some (.slice apB npB cpB) ∧ wz.cell? ⟨w.heap.size + 1, 5, none⟩ = some (.slice arB nrB crB)) (first | exact cs0 | exact cs1 | exact cs2 | exact cs3 | exact cs4 | exact cs5 | exact cs6 | go_keep) (first
      | (go_at_call 11; ((with_reducible refine (AW.out _).mono ?_); (rintro e w1 ⟨rfl, h1⟩); (have E1 := hid_of (undrew h1)); (have cs1 := HC.out w1 E1.out); clear h1))
      | (go_at_call 14; ((with_reducible refine (EAB.out w1 E1.out).mono ?_); (rintro e w2 ⟨rfl, h2⟩); (have E2 := hid_of (E1.out.trans (h2.mono E1.out.size))); (have cs2 := HC.out w2 E2.out); clear h2))
      | (go_at_call 15; ((with_reducible refine (RAB.out w1 E1.out).mono ?_); (rintro e w2 ⟨rfl, h2⟩); (have E2 := hid_of (E1.out.trans (h2.mono E1.out.size))); (have cs2 := HC.out w2 E2.out); clear h2))
      | (go_at_call 15; ((with_reducible refine (RAB.out w2 E2.out).mono ?_); (rintro e w3 ⟨rfl, h3⟩); (have E3 := hid_of (E2.out.trans (h3.mono E2.out.size))); (have cs3 := HC.out w3 E3.out); clear h3))
      | (go_at_call 14; ((with_reducible refine (EAB.out w2 E2.out).mono ?_); (rintro e w3 ⟨rfl, h3⟩); (have E3 := hid_of (E2.out.trans (h3.mono E2.out.size))); (have cs3 := HC.out w3 E3.out); clear h3))
      | (go_at_call 14; ((with_reducible refine (EAA.out w3 E3.out).mono ?_); (rintro e w4 ⟨rfl, h4⟩); (have E4 := hid_of (E3.out.trans (h4.mono E3.out.size))); (have cs4 := HC.out w4 E4.out); clear h4))
      | (go_at_call 14; ((with_reducible refine (EBA.out w4 E4.out).mono ?_); (rintro e w5 ⟨rfl, h5⟩); (have E5 := hid_of (E4.out.trans (h5.mono E4.out.size))); (have cs5 := HC.out w5 E5.out); clear h5))
      | (go_at_call 14; ((with_reducible refine (EAB.out w4 E4.out).mono ?_); (rintro e w5 ⟨rfl, h5⟩); (have E5 := hid_of (E4.out.trans (h5.mono E4.out.size))); (have cs5 := HC.out w5 E5.out); clear h5))
      | (go_at_call 14; ((with_reducible refine (EAB.out w5 E5.out).mono ?_); (rintro e w6 ⟨rfl, h6⟩); (have E6 := hid_of (E5.out.trans (h6.mono E5.out.size))); (have cs6 := HC.out w6 E6.out); clear h6))
      | (go_at_call 14; ((with_reducible refine (EBA.out w5 E5.out).mono ?_); (rintro e w6 ⟨rfl, h6⟩); (have E6 := hid_of (E5.out.trans (h6.mono E5.out.size))); (have cs6 := HC.out w6 E6.out); clear h6)))
    all_goals go_wp2
    all_goals go_ret
    all_goals exact ⟨rfl, HBB.out.trans (E6.out.mono HBB.out.size)⟩
end Go.Proofs.Ytilokloemcphbaa
