/- The law on Check. Bounds on sizes alone. -/
import Derived.Test.YtilokloemcphbaaLatAwk
import Derived.Test.YtilokloemcphbaaLatRck
import Derived.Test.YtilokloemcphbaaLatOpn
namespace Go.Proofs.Ytilokloemcphbaa
open Go.RowKit

set_option maxRecDepth 100000 in
set_option maxHeartbeats 6400000 in
theorem checks_law (t : Lat) (k lo hi : Int) (an : Option Addr) (nn cn : Nat) (ap : Option Addr) (np cp : Nat) (ar : Option Addr) (nr cr : Nat) (w : World) (H1 : LO w k lo hi an nn cn ap np cp ar nr cr t) : Calls Try.prog 3 #[.agg #[.int .i64 k, .int .i64 lo, .int .i64 hi, .slice an nn cn, .slice ap np cp, .slice ar nr cr]] w (BoP true w) := by
  have HBB := hid_of (bel_alloc w (.cells #[.int .i64 k, .int .i64 lo, .int .i64 hi, .slice an nn cn, .slice ap np cp, .slice ar nr cr] 26))
  have HC := hid_of (fun (w' : World) (h : Below (w.alloc (.cells #[.int .i64 k, .int .i64 lo, .int .i64 hi, .slice an nn cn, .slice ap np cp, .slice ar nr cr] 26)).heap.size (w.alloc (.cells #[.int .i64 k, .int .i64 lo, .int .i64 hi, .slice an nn cn, .slice ap np cp, .slice ar nr cr] 26)) w') => box6 k lo hi an nn cn ap np cp ar nr cr h)
  have AW := hid_of (fun w => awake_any w)
  have CH := hid_of (fun (wz : World) (hz : Below (w.alloc (.cells #[.int .i64 k, .int .i64 lo, .int .i64 hi, .slice an nn cn, .slice ap np cp, .slice ar nr cr] 26)).heap.size (w.alloc (.cells #[.int .i64 k, .int .i64 lo, .int .i64 hi, .slice an nn cn, .slice ap np cp, .slice ar nr cr] 26)) wz) => check_any t k lo hi an nn cn ap np cp ar nr cr wz (H1.at (HBB.out.trans (hz.mono HBB.out.size))))
  have RH := hid_of (fun (wz : World) (hz : Below (w.alloc (.cells #[.int .i64 k, .int .i64 lo, .int .i64 hi, .slice an nn cn, .slice ap np cp, .slice ar nr cr] 26)).heap.size (w.alloc (.cells #[.int .i64 k, .int .i64 lo, .int .i64 hi, .slice an nn cn, .slice ap np cp, .slice ar nr cr] 26)) wz) => rcheck_any t k lo hi an nn cn ap np cp ar nr cr wz (H1.at (HBB.out.trans (hz.mono HBB.out.size))))
  obtain ⟨r, hr⟩ : ∃ r, r = chkL t := ⟨_, rfl⟩
  rw [← hr] at CH RH
  have hrr : (r == r) = true := beq_self_eq_true r
  have cs0 := HC.out (w.alloc (.cells #[.int .i64 k, .int .i64 lo, .int .i64 hi, .slice an nn cn, .slice ap np cp, .slice ar nr cr] 26)) (Below.refl _ _)
  clear hr H1
  go_enter Try.func3, Try.ntmps3
  go_wp2
  go_region_held3 (fun wz => wz.cell? ⟨w.heap.size, 0, none⟩ = some (.int .i64 k) ∧ wz.cell? ⟨w.heap.size, 1, none⟩ = some (.int .i64 lo) ∧ wz.cell? ⟨w.heap.size, 2, none⟩ = some (.int .i64 hi) ∧ wz.cell? ⟨w.heap.size, 3, none⟩ = some (.slice an nn cn) ∧ wz.cell? ⟨w.heap.size, 4, none⟩ = some (.slice ap np cp) ∧ wz.cell? ⟨w.heap.size, 5, none⟩ = some (.slice ar nr cr)) (first | exact cs0 | exact cs1 | exact cs2 | exact cs3 | go_keep) (first
      | (go_at_call 11; ((with_reducible refine (AW.out _).mono ?_); (rintro e w1 ⟨rfl, h1⟩); (have E1 := hid_of (undrew h1)); (have cs1 := HC.out w1 E1.out); clear h1))
      | (go_at_call 12; ((with_reducible refine (CH.out w1 E1.out).mono ?_); (rintro e w2 ⟨rfl, h2⟩); (have E2 := hid_of (E1.out.trans (h2.mono E1.out.size))); (have cs2 := HC.out w2 E2.out); clear h2))
      | (go_at_call 13; ((with_reducible refine (RH.out w1 E1.out).mono ?_); (rintro e w2 ⟨rfl, h2⟩); (have E2 := hid_of (E1.out.trans (h2.mono E1.out.size))); (have cs2 := HC.out w2 E2.out); clear h2))
      | (go_at_call 13; ((with_reducible refine (RH.out w2 E2.out).mono ?_); (rintro e w3 ⟨rfl, h3⟩); (have E3 := hid_of (E2.out.trans (h3.mono E2.out.size))); (have cs3 := HC.out w3 E3.out); clear h3))
      | (go_at_call 12; ((with_reducible refine (CH.out w2 E2.out).mono ?_); (rintro e w3 ⟨rfl, h3⟩); (have E3 := hid_of (E2.out.trans (h3.mono E2.out.size))); (have cs3 := HC.out w3 E3.out); clear h3)))
  all_goals go_wp2
  all_goals go_ret
  all_goals exact ⟨rfl, HBB.out.trans (E3.out.mono HBB.out.size)⟩
end Go.Proofs.Ytilokloemcphbaa
