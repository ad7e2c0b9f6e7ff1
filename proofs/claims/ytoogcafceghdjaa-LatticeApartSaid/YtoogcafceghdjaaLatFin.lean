/- Finite and Distributive of package lattice. Bounds on sizes alone. -/
import Derived.Test.YtoogcafceghdjaaLatAll
namespace Go.Proofs.Ytoogcafceghdjaa
open Go.RowKit

theorem bo_old {b : Bool} {w w1 w' : World} {e : Ending} (h : e = .returned (.bool b) ∧ Below w1.heap.size w1 w') (hb : Below w.heap.size w w1) : BoP b w e w' :=
  ⟨h.1, hb.trans (h.2.mono hb.size)⟩
theorem gt0 (l : List Str) (n : Nat) (h : n = l.length) : (!l.isEmpty) = decide (0 < n) := by
  cases l <;> simp at h ⊢ <;> omega
set_option maxRecDepth 100000 in
set_option maxHeartbeats 3200000 in
theorem finite_any : ∀ (t : Lat) (k lo hi : Int) (an : Option Addr) (nn cn : Nat) (ap : Option Addr) (np cp : Nat) (ar : Option Addr) (nr cr : Nat) (w : World), LO w k lo hi an nn cn ap np cp ar nr cr t → Calls Try.prog 17 #[.agg #[.int .i64 k, .int .i64 lo, .int .i64 hi, .slice an nn cn, .slice ap np cp, .slice ar nr cr]] w (BoP (finL t) w) := by
  refine lat_ind ?_
  intro k' lo' hi' ns' ps' rs' ih k lo hi an nn cn ap np cp ar nr cr w H
  obtain rfl : k = k' := H.hk
  have HN : Hid (nn = ns'.length) := hid_of H.ln
  have hnn : nn ≤ 9223372036854775807 := by have := (rds_open H.n); omega
  have CALL := hid_of (fun (wz : World) (hz : Below w.heap.size w wz) => all_any 17 finL (enters_of Try.func17 (by kernel_rfl) rfl) ap np cp ps' wz (H.p.at hz) ih)
  rw [← finsL_all] at CALL
  obtain ⟨q, hq⟩ : ∃ q, q = finsL ps' := ⟨_, rfl⟩
  rw [← hq] at CALL
  rw [finL, ← hq, gt0 ns' nn H.ln]
  clear H ih hq
  have HB := hid_of (bel_alloc w (.cells #[.int .i64 k, .int .i64 lo, .int .i64 hi, .slice an nn cn, .slice ap np cp, .slice ar nr cr] 26))
  rcases kinds k with rfl | rfl | rfl | rfl | rfl | rfl | rfl | rfl | rfl | rfl | hx
  case inr.inr.inr.inr.inr.inr.inr.inr.inr.inr =>
    obtain ⟨h1, h2, h3, h4, h5, h6, h7, h8, h9, h10⟩ := hx
    simp only [h1, h2, h3, h4, h5, h6, h7, h8, h10, or_self, if_false]
    go_enter Try.func17, Try.ntmps17
    go_wp2
    go_ret
    exact ⟨rfl, HB.out⟩
  all_goals simp only [Int.reduceEq, or_self, or_false, false_or, or_true, true_or, if_true, if_false]
  case inr.inr.inr.inr.inl =>
    by_cases h0 : nn = 0
    · subst h0
      rw [decide_eq_false (Nat.lt_irrefl 0), Bool.false_and]
      go_enter Try.func17, Try.ntmps17
      go_wp2
      go_ret
      exact ⟨rfl, HB.out⟩
    · have d0 : decide (0 < nn) = true := decide_eq_true (by omega)
      rw [d0, Bool.true_and]
      go_enter Try.func17, Try.ntmps17
      go_wp2_with (go_at_call 43; ((with_reducible refine (CALL.out _ HB.out).mono ?_); (rintro e w2 ⟨rfl, h2⟩)); (have H2 := hid_of h2); clear h2)
      go_ret
      exact ⟨rfl, HB.out.trans (H2.out.mono HB.out.size)⟩
  case inr.inr.inr.inr.inr.inl | inr.inr.inr.inr.inr.inr.inl =>
    go_enter Try.func17, Try.ntmps17
    go_wp2_with (go_at_call 43; ((with_reducible refine (CALL.out _ HB.out).mono ?_); (rintro e w2 ⟨rfl, h2⟩)); (have H2 := hid_of h2); clear h2)
    go_ret
    exact ⟨rfl, HB.out.trans (H2.out.mono HB.out.size)⟩
  all_goals go_enter Try.func17, Try.ntmps17
  all_goals go_wp2
  all_goals go_ret
  all_goals exact ⟨rfl, HB.out⟩
set_option maxRecDepth 100000 in
set_option maxHeartbeats 3200000 in
theorem dist_any : ∀ (t : Lat) (k lo hi : Int) (an : Option Addr) (nn cn : Nat) (ap : Option Addr) (np cp : Nat) (ar : Option Addr) (nr cr : Nat) (w : World), LO w k lo hi an nn cn ap np cp ar nr cr t → Calls Try.prog 18 #[.agg #[.int .i64 k, .int .i64 lo, .int .i64 hi, .slice an nn cn, .slice ap np cp, .slice ar nr cr]] w (BoP (distL t) w) := by
  refine lat_ind ?_
  intro k' lo' hi' ns' ps' rs' ih k lo hi an nn cn ap np cp ar nr cr w H
  obtain rfl : k = k' := H.hk
  have CALL := hid_of (fun (wz : World) (hz : Below w.heap.size w wz) => all_any 18 distL (enters_of Try.func18 (by kernel_rfl) rfl) ap np cp ps' wz (H.p.at hz) ih)
  rw [← distsL_all] at CALL
  obtain ⟨q, hq⟩ : ∃ q, q = distsL ps' := ⟨_, rfl⟩
  rw [← hq] at CALL
  rw [distL, ← hq]
  clear H ih hq
  have HB := hid_of (bel_alloc w (.cells #[.int .i64 k, .int .i64 lo, .int .i64 hi, .slice an nn cn, .slice ap np cp, .slice ar nr cr] 26))
  by_cases h8 : k = 8
  · subst h8
    go_enter Try.func18, Try.ntmps18
    go_wp2
    go_ret
    exact ⟨rfl, HB.out⟩
  by_cases h10 : k = 10
  · subst h10
    go_enter Try.func18, Try.ntmps18
    go_wp2
    go_ret
    exact ⟨rfl, HB.out⟩
  rw [if_neg (by omega)]
  have e8 : (k != 8) = true := bne_iff_ne.2 h8
  have e10 : (k != 10) = true := bne_iff_ne.2 h10
  clear h8 h10
  go_enter Try.func18, Try.ntmps18
  go_wp2_with (go_at_call 43; ((with_reducible refine (CALL.out _ HB.out).mono ?_); (rintro e w2 ⟨rfl, h2⟩)); (have H2 := hid_of h2); clear h2)
  go_ret
  exact ⟨rfl, HB.out.trans (H2.out.mono HB.out.size)⟩
end Go.Proofs.Ytoogcafceghdjaa
