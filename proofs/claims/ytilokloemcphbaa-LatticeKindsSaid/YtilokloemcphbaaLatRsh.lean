/- The reference's shape. Bounds on sizes alone. -/
import Derived.Test.YtilokloemcphbaaLatFld
namespace Go.Proofs.Ytilokloemcphbaa
open Go.RowKit

set_option maxRecDepth 100000 in
set_option maxHeartbeats 6400000 in
theorem rshape_any (k lo hi : Int) (an : Option Addr) (nn cn : Nat) (ap : Option Addr) (np cp : Nat) (ar : Option Addr) (nr cr : Nat) (w : World) : Calls Try.prog 83 #[.agg #[.int .i64 k, .int .i64 lo, .int .i64 hi, .slice an nn cn, .slice ap np cp, .slice ar nr cr]] w (BoP (fieldsB k lo hi nn np nr) w) := by
  obtain ⟨r, hr⟩ : ∃ r, r = fieldsB k lo hi nn np nr := ⟨_, rfl⟩
  rw [← hr]
  have HR := hid_of hr
  clear hr
  rcases kinds k with rfl | rfl | rfl | rfl | rfl | rfl | rfl | rfl | rfl | rfl | hx
  · rw [fb1] at HR
    by_cases hc : lo = 0
    case neg =>
      have RF : Hid (false = r) := hid_of (by rw [HR.out]; simp [hnB, hc])
      have f1 : (lo == 0) = false := beq_eq_false_iff_ne.2 hc
      have f2 : (lo != 0) = true := bne_iff_ne.2 hc
      clear hc
      go_enter Try.func83, Try.ntmps83
      go_wp2
      go_ret
      exact ⟨ret_b RF.out, bel_alloc w _⟩
    subst hc
    by_cases hc : hi = 0
    case neg =>
      have RF : Hid (false = r) := hid_of (by rw [HR.out]; simp [hnB, hc])
      have f1 : (hi == 0) = false := beq_eq_false_iff_ne.2 hc
      have f2 : (hi != 0) = true := bne_iff_ne.2 hc
      clear hc
      go_enter Try.func83, Try.ntmps83
      go_wp2
      go_ret
      exact ⟨ret_b RF.out, bel_alloc w _⟩
    subst hc
    by_cases hc : nr = 0
    case neg =>
      have RF : Hid (false = r) := hid_of (by rw [HR.out]; simp [hnB, hc])
      have f1 : (nr == 0) = false := beq_eq_false_iff_ne.2 hc
      have f2 : ((nr : Int) == 0) = false := beq_eq_false_iff_ne.2 (by omega)
      have f3 : ((nr : Int) != 0) = true := bne_iff_ne.2 (by omega)
      have f4 : (nr != 0) = true := bne_iff_ne.2 hc
      clear hc
      go_enter Try.func83, Try.ntmps83
      go_wp2
      go_ret
      exact ⟨ret_b RF.out, bel_alloc w _⟩
    subst hc
    by_cases hc : nn = 0
    case neg =>
      have RF : Hid (false = r) := hid_of (by rw [HR.out]; simp [hnB, hc])
      have f1 : (nn == 0) = false := beq_eq_false_iff_ne.2 hc
      have f2 : ((nn : Int) == 0) = false := beq_eq_false_iff_ne.2 (by omega)
      have f3 : ((nn : Int) != 0) = true := bne_iff_ne.2 (by omega)
      have f4 : (nn != 0) = true := bne_iff_ne.2 hc
      clear hc
      go_enter Try.func83, Try.ntmps83
      go_wp2
      go_ret
      exact ⟨ret_b RF.out, bel_alloc w _⟩
    subst hc
    by_cases hc : np = 0
    case neg =>
      have RF : Hid (false = r) := hid_of (by rw [HR.out]; simp [hnB, hc])
      have f1 : (np == 0) = false := beq_eq_false_iff_ne.2 hc
      have f2 : ((np : Int) == 0) = false := beq_eq_false_iff_ne.2 (by omega)
      have f3 : ((np : Int) != 0) = true := bne_iff_ne.2 (by omega)
      have f4 : (np != 0) = true := bne_iff_ne.2 hc
      clear hc
      go_enter Try.func83, Try.ntmps83
      go_wp2
      go_ret
      exact ⟨ret_b RF.out, bel_alloc w _⟩
    subst hc
    have RT : Hid (true = r) := hid_of (by rw [HR.out]; simp [hnB])
    go_enter Try.func83, Try.ntmps83
    go_wp2
    go_ret
    exact ⟨ret_b RT.out, bel_alloc w _⟩
  · rw [fb2] at HR
    by_cases hc : nr = 0
    case neg =>
      have RF : Hid (false = r) := hid_of (by rw [HR.out]; simp [hnB, hc])
      have f1 : (nr == 0) = false := beq_eq_false_iff_ne.2 hc
      have f2 : ((nr : Int) == 0) = false := beq_eq_false_iff_ne.2 (by omega)
      have f3 : ((nr : Int) != 0) = true := bne_iff_ne.2 (by omega)
      have f4 : (nr != 0) = true := bne_iff_ne.2 hc
      clear hc
      go_enter Try.func83, Try.ntmps83
      go_wp2
      go_ret
      exact ⟨ret_b RF.out, bel_alloc w _⟩
    subst hc
    by_cases hc : nn = 0
    case neg =>
      have RF : Hid (false = r) := hid_of (by rw [HR.out]; simp [hnB, hc])
      have f1 : (nn == 0) = false := beq_eq_false_iff_ne.2 hc
      have f2 : ((nn : Int) == 0) = false := beq_eq_false_iff_ne.2 (by omega)
      have f3 : ((nn : Int) != 0) = true := bne_iff_ne.2 (by omega)
      have f4 : (nn != 0) = true := bne_iff_ne.2 hc
      clear hc
      go_enter Try.func83, Try.ntmps83
      go_wp2
      go_ret
      exact ⟨ret_b RF.out, bel_alloc w _⟩
    subst hc
    by_cases hc : np = 0
    case neg =>
      have RF : Hid (false = r) := hid_of (by rw [HR.out]; simp [hnB, hc])
      have f1 : (np == 0) = false := beq_eq_false_iff_ne.2 hc
      have f2 : ((np : Int) == 0) = false := beq_eq_false_iff_ne.2 (by omega)
      have f3 : ((np : Int) != 0) = true := bne_iff_ne.2 (by omega)
      have f4 : (np != 0) = true := bne_iff_ne.2 hc
      clear hc
      go_enter Try.func83, Try.ntmps83
      go_wp2
      go_ret
      exact ⟨ret_b RF.out, bel_alloc w _⟩
    subst hc
    have RT : Hid (true = r) := hid_of (by rw [HR.out]; simp [hnB])
    go_enter Try.func83, Try.ntmps83
    go_wp2
    go_ret
    exact ⟨ret_b RT.out, bel_alloc w _⟩
  · rw [fb3] at HR
    by_cases hc : nr = 0
    case neg =>
      have RF : Hid (false = r) := hid_of (by rw [HR.out]; simp [hnB, hc])
      have f1 : (nr == 0) = false := beq_eq_false_iff_ne.2 hc
      have f2 : ((nr : Int) == 0) = false := beq_eq_false_iff_ne.2 (by omega)
      have f3 : ((nr : Int) != 0) = true := bne_iff_ne.2 (by omega)
      have f4 : (nr != 0) = true := bne_iff_ne.2 hc
      clear hc
      go_enter Try.func83, Try.ntmps83
      go_wp2
      go_ret
      exact ⟨ret_b RF.out, bel_alloc w _⟩
    subst hc
    by_cases hc : nn = 0
    case neg =>
      have RF : Hid (false = r) := hid_of (by rw [HR.out]; simp [hnB, hc])
      have f1 : (nn == 0) = false := beq_eq_false_iff_ne.2 hc
      have f2 : ((nn : Int) == 0) = false := beq_eq_false_iff_ne.2 (by omega)
      have f3 : ((nn : Int) != 0) = true := bne_iff_ne.2 (by omega)
      have f4 : (nn != 0) = true := bne_iff_ne.2 hc
      clear hc
      go_enter Try.func83, Try.ntmps83
      go_wp2
      go_ret
      exact ⟨ret_b RF.out, bel_alloc w _⟩
    subst hc
    by_cases hc : np = 0
    case neg =>
      have RF : Hid (false = r) := hid_of (by rw [HR.out]; simp [hnB, hc])
      have f1 : (np == 0) = false := beq_eq_false_iff_ne.2 hc
      have f2 : ((np : Int) == 0) = false := beq_eq_false_iff_ne.2 (by omega)
      have f3 : ((np : Int) != 0) = true := bne_iff_ne.2 (by omega)
      have f4 : (np != 0) = true := bne_iff_ne.2 hc
      clear hc
      go_enter Try.func83, Try.ntmps83
      go_wp2
      go_ret
      exact ⟨ret_b RF.out, bel_alloc w _⟩
    subst hc
    have RT : Hid (true = r) := hid_of (by rw [HR.out]; simp [hnB])
    go_enter Try.func83, Try.ntmps83
    go_wp2
    go_ret
    exact ⟨ret_b RT.out, bel_alloc w _⟩
  · rw [fb4] at HR
    by_cases hc : lo = 0
    case neg =>
      have RF : Hid (false = r) := hid_of (by rw [HR.out]; simp [hnB, hc])
      have f1 : (lo == 0) = false := beq_eq_false_iff_ne.2 hc
      have f2 : (lo != 0) = true := bne_iff_ne.2 hc
      clear hc
      go_enter Try.func83, Try.ntmps83
      go_wp2
      go_ret
      exact ⟨ret_b RF.out, bel_alloc w _⟩
    subst hc
    by_cases hc : hi = 0
    case neg =>
      have RF : Hid (false = r) := hid_of (by rw [HR.out]; simp [hnB, hc])
      have f1 : (hi == 0) = false := beq_eq_false_iff_ne.2 hc
      have f2 : (hi != 0) = true := bne_iff_ne.2 hc
      clear hc
      go_enter Try.func83, Try.ntmps83
      go_wp2
      go_ret
      exact ⟨ret_b RF.out, bel_alloc w _⟩
    subst hc
    by_cases hc : nr = 0
    case neg =>
      have RF : Hid (false = r) := hid_of (by rw [HR.out]; simp [hnB, hc])
      have f1 : (nr == 0) = false := beq_eq_false_iff_ne.2 hc
      have f2 : ((nr : Int) == 0) = false := beq_eq_false_iff_ne.2 (by omega)
      have f3 : ((nr : Int) != 0) = true := bne_iff_ne.2 (by omega)
      have f4 : (nr != 0) = true := bne_iff_ne.2 hc
      clear hc
      go_enter Try.func83, Try.ntmps83
      go_wp2
      go_ret
      exact ⟨ret_b RF.out, bel_alloc w _⟩
    subst hc
    by_cases hc : np = 0
    case neg =>
      have RF : Hid (false = r) := hid_of (by rw [HR.out]; simp [hnB, hc])
      have f1 : (np == 0) = false := beq_eq_false_iff_ne.2 hc
      have f2 : ((np : Int) == 0) = false := beq_eq_false_iff_ne.2 (by omega)
      have f3 : ((np : Int) != 0) = true := bne_iff_ne.2 (by omega)
      have f4 : (np != 0) = true := bne_iff_ne.2 hc
      clear hc
      go_enter Try.func83, Try.ntmps83
      go_wp2
      go_ret
      exact ⟨ret_b RF.out, bel_alloc w _⟩
    subst hc
    have RT : Hid (true = r) := hid_of (by rw [HR.out]; simp [hnB])
    go_enter Try.func83, Try.ntmps83
    go_wp2
    go_ret
    exact ⟨ret_b RT.out, bel_alloc w _⟩
  · rw [fb5] at HR
    by_cases hc : lo = 0
    case neg =>
      have RF : Hid (false = r) := hid_of (by rw [HR.out]; simp [hnB, hc])
      have f1 : (lo == 0) = false := beq_eq_false_iff_ne.2 hc
      have f2 : (lo != 0) = true := bne_iff_ne.2 hc
      clear hc
      go_enter Try.func83, Try.ntmps83
      go_wp2
      go_ret
      exact ⟨ret_b RF.out, bel_alloc w _⟩
    subst hc
    by_cases hc : hi = 0
    case neg =>
      have RF : Hid (false = r) := hid_of (by rw [HR.out]; simp [hnB, hc])
      have f1 : (hi == 0) = false := beq_eq_false_iff_ne.2 hc
      have f2 : (hi != 0) = true := bne_iff_ne.2 hc
      clear hc
      go_enter Try.func83, Try.ntmps83
      go_wp2
      go_ret
      exact ⟨ret_b RF.out, bel_alloc w _⟩
    subst hc
    by_cases hc : nr = 0
    case neg =>
      have RF : Hid (false = r) := hid_of (by rw [HR.out]; simp [hnB, hc])
      have f1 : (nr == 0) = false := beq_eq_false_iff_ne.2 hc
      have f2 : ((nr : Int) == 0) = false := beq_eq_false_iff_ne.2 (by omega)
      have f3 : ((nr : Int) != 0) = true := bne_iff_ne.2 (by omega)
      have f4 : (nr != 0) = true := bne_iff_ne.2 hc
      clear hc
      go_enter Try.func83, Try.ntmps83
      go_wp2
      go_ret
      exact ⟨ret_b RF.out, bel_alloc w _⟩
    subst hc
    by_cases hc : np = 1
    case neg =>
      have RF : Hid (false = r) := hid_of (by rw [HR.out]; simp [hnB, hc])
      have f1 : (np == 1) = false := beq_eq_false_iff_ne.2 hc
      have f2 : ((np : Int) == 1) = false := beq_eq_false_iff_ne.2 (by omega)
      clear hc
      go_enter Try.func83, Try.ntmps83
      go_wp2
      go_ret
      exact ⟨ret_b RF.out, bel_alloc w _⟩
    subst hc
    have RT : Hid (true = r) := hid_of (by rw [HR.out]; simp [hnB])
    go_enter Try.func83, Try.ntmps83
    go_wp2
    go_ret
    exact ⟨ret_b RT.out, bel_alloc w _⟩
  · rw [fb6] at HR
    by_cases hc : lo = 0
    case neg =>
      have RF : Hid (false = r) := hid_of (by rw [HR.out]; simp [hnB, hc])
      have f1 : (lo == 0) = false := beq_eq_false_iff_ne.2 hc
      have f2 : (lo != 0) = true := bne_iff_ne.2 hc
      clear hc
      go_enter Try.func83, Try.ntmps83
      go_wp2
      go_ret
      exact ⟨ret_b RF.out, bel_alloc w _⟩
    subst hc
    by_cases hc : hi = 0
    case neg =>
      have RF : Hid (false = r) := hid_of (by rw [HR.out]; simp [hnB, hc])
      have f1 : (hi == 0) = false := beq_eq_false_iff_ne.2 hc
      have f2 : (hi != 0) = true := bne_iff_ne.2 hc
      clear hc
      go_enter Try.func83, Try.ntmps83
      go_wp2
      go_ret
      exact ⟨ret_b RF.out, bel_alloc w _⟩
    subst hc
    by_cases hc : nr = 0
    case neg =>
      have RF : Hid (false = r) := hid_of (by rw [HR.out]; simp [hnB, hc])
      have f1 : (nr == 0) = false := beq_eq_false_iff_ne.2 hc
      have f2 : ((nr : Int) == 0) = false := beq_eq_false_iff_ne.2 (by omega)
      have f3 : ((nr : Int) != 0) = true := bne_iff_ne.2 (by omega)
      have f4 : (nr != 0) = true := bne_iff_ne.2 hc
      clear hc
      go_enter Try.func83, Try.ntmps83
      go_wp2
      go_ret
      exact ⟨ret_b RF.out, bel_alloc w _⟩
    subst hc
    by_cases hc : 0 < nn
    case neg =>
      have RF : Hid (false = r) := hid_of (by rw [HR.out]; simp [hnB, hc])
      have f1 : decide (0 < nn) = false := decide_eq_false hc
      have f2 : decide ((0 : Int) < (nn : Int)) = false := decide_eq_false (by omega)
      clear hc
      go_enter Try.func83, Try.ntmps83
      go_wp2
      go_ret
      exact ⟨ret_b RF.out, bel_alloc w _⟩
    have g1 : decide (0 < nn) = true := decide_eq_true hc
    have g2 : decide ((0 : Int) < (nn : Int)) = true := decide_eq_true (by omega)
    have hpos := hid_of hc
    clear hc
    by_cases hc : nn = np
    case neg =>
      have RF : Hid (false = r) := hid_of (by rw [HR.out]; rw [show (np == nn) = false from beq_eq_false_iff_ne.2 (fun e => hc e.symm)]; simp)
      have f1 : (nn == np) = false := beq_eq_false_iff_ne.2 hc
      have f2 : ((nn : Int) == (np : Int)) = false := beq_eq_false_iff_ne.2 (by omega)
      clear hc
      go_enter Try.func83, Try.ntmps83
      go_wp2
      go_ret
      exact ⟨ret_b RF.out, bel_alloc w _⟩
    subst hc
    have RT : Hid (true = r) := hid_of (by rw [HR.out]; simp [hnB, hpos.out])
    go_enter Try.func83, Try.ntmps83
    go_wp2
    go_ret
    exact ⟨ret_b RT.out, bel_alloc w _⟩
  · rw [fb7] at HR
    by_cases hc : lo = 0
    case neg =>
      have RF : Hid (false = r) := hid_of (by rw [HR.out]; simp [hnB, hc])
      have f1 : (lo == 0) = false := beq_eq_false_iff_ne.2 hc
      have f2 : (lo != 0) = true := bne_iff_ne.2 hc
      clear hc
      go_enter Try.func83, Try.ntmps83
      go_wp2
      go_ret
      exact ⟨ret_b RF.out, bel_alloc w _⟩
    subst hc
    by_cases hc : hi = 0
    case neg =>
      have RF : Hid (false = r) := hid_of (by rw [HR.out]; simp [hnB, hc])
      have f1 : (hi == 0) = false := beq_eq_false_iff_ne.2 hc
      have f2 : (hi != 0) = true := bne_iff_ne.2 hc
      clear hc
      go_enter Try.func83, Try.ntmps83
      go_wp2
      go_ret
      exact ⟨ret_b RF.out, bel_alloc w _⟩
    subst hc
    by_cases hc : nr = 0
    case neg =>
      have RF : Hid (false = r) := hid_of (by rw [HR.out]; simp [hnB, hc])
      have f1 : (nr == 0) = false := beq_eq_false_iff_ne.2 hc
      have f2 : ((nr : Int) == 0) = false := beq_eq_false_iff_ne.2 (by omega)
      have f3 : ((nr : Int) != 0) = true := bne_iff_ne.2 (by omega)
      have f4 : (nr != 0) = true := bne_iff_ne.2 hc
      clear hc
      go_enter Try.func83, Try.ntmps83
      go_wp2
      go_ret
      exact ⟨ret_b RF.out, bel_alloc w _⟩
    subst hc
    by_cases hc : nn = 0
    case neg =>
      have RF : Hid (false = r) := hid_of (by rw [HR.out]; simp [hnB, hc])
      have f1 : (nn == 0) = false := beq_eq_false_iff_ne.2 hc
      have f2 : ((nn : Int) == 0) = false := beq_eq_false_iff_ne.2 (by omega)
      have f3 : ((nn : Int) != 0) = true := bne_iff_ne.2 (by omega)
      have f4 : (nn != 0) = true := bne_iff_ne.2 hc
      clear hc
      go_enter Try.func83, Try.ntmps83
      go_wp2
      go_ret
      exact ⟨ret_b RF.out, bel_alloc w _⟩
    subst hc
    by_cases hc : np = 2
    case neg =>
      have RF : Hid (false = r) := hid_of (by rw [HR.out]; simp [hnB, hc])
      have f1 : (np == 2) = false := beq_eq_false_iff_ne.2 hc
      have f2 : ((np : Int) == 2) = false := beq_eq_false_iff_ne.2 (by omega)
      clear hc
      go_enter Try.func83, Try.ntmps83
      go_wp2
      go_ret
      exact ⟨ret_b RF.out, bel_alloc w _⟩
    subst hc
    have RT : Hid (true = r) := hid_of (by rw [HR.out]; simp [hnB])
    go_enter Try.func83, Try.ntmps83
    go_wp2
    go_ret
    exact ⟨ret_b RT.out, bel_alloc w _⟩
  · rw [fb8] at HR
    by_cases hc : lo = 0
    case neg =>
      have RF : Hid (false = r) := hid_of (by rw [HR.out]; simp [hnB, hc])
      have f1 : (lo == 0) = false := beq_eq_false_iff_ne.2 hc
      have f2 : (lo != 0) = true := bne_iff_ne.2 hc
      clear hc
      go_enter Try.func83, Try.ntmps83
      go_wp2
      go_ret
      exact ⟨ret_b RF.out, bel_alloc w _⟩
    subst hc
    by_cases hc : hi = 0
    case neg =>
      have RF : Hid (false = r) := hid_of (by rw [HR.out]; simp [hnB, hc])
      have f1 : (hi == 0) = false := beq_eq_false_iff_ne.2 hc
      have f2 : (hi != 0) = true := bne_iff_ne.2 hc
      clear hc
      go_enter Try.func83, Try.ntmps83
      go_wp2
      go_ret
      exact ⟨ret_b RF.out, bel_alloc w _⟩
    subst hc
    by_cases hc : nr = 0
    case neg =>
      have RF : Hid (false = r) := hid_of (by rw [HR.out]; simp [hnB, hc])
      have f1 : (nr == 0) = false := beq_eq_false_iff_ne.2 hc
      have f2 : ((nr : Int) == 0) = false := beq_eq_false_iff_ne.2 (by omega)
      have f3 : ((nr : Int) != 0) = true := bne_iff_ne.2 (by omega)
      have f4 : (nr != 0) = true := bne_iff_ne.2 hc
      clear hc
      go_enter Try.func83, Try.ntmps83
      go_wp2
      go_ret
      exact ⟨ret_b RF.out, bel_alloc w _⟩
    subst hc
    by_cases hc : np = 0
    case neg =>
      have RF : Hid (false = r) := hid_of (by rw [HR.out]; simp [hnB, hc])
      have f1 : (np == 0) = false := beq_eq_false_iff_ne.2 hc
      have f2 : ((np : Int) == 0) = false := beq_eq_false_iff_ne.2 (by omega)
      have f3 : ((np : Int) != 0) = true := bne_iff_ne.2 (by omega)
      have f4 : (np != 0) = true := bne_iff_ne.2 hc
      clear hc
      go_enter Try.func83, Try.ntmps83
      go_wp2
      go_ret
      exact ⟨ret_b RF.out, bel_alloc w _⟩
    subst hc
    have RT : Hid (true = r) := hid_of (by rw [HR.out]; simp [hnB])
    go_enter Try.func83, Try.ntmps83
    go_wp2
    go_ret
    exact ⟨ret_b RT.out, bel_alloc w _⟩
  · rw [fb9] at HR
    by_cases hc : lo = 0
    case neg =>
      have RF : Hid (false = r) := hid_of (by rw [HR.out]; simp [hnB, hc])
      have f1 : (lo == 0) = false := beq_eq_false_iff_ne.2 hc
      have f2 : (lo != 0) = true := bne_iff_ne.2 hc
      clear hc
      go_enter Try.func83, Try.ntmps83
      go_wp2
      go_ret
      exact ⟨ret_b RF.out, bel_alloc w _⟩
    subst hc
    by_cases hc : hi = 0
    case neg =>
      have RF : Hid (false = r) := hid_of (by rw [HR.out]; simp [hnB, hc])
      have f1 : (hi == 0) = false := beq_eq_false_iff_ne.2 hc
      have f2 : (hi != 0) = true := bne_iff_ne.2 hc
      clear hc
      go_enter Try.func83, Try.ntmps83
      go_wp2
      go_ret
      exact ⟨ret_b RF.out, bel_alloc w _⟩
    subst hc
    by_cases hc : nr = 0
    case neg =>
      have RF : Hid (false = r) := hid_of (by rw [HR.out]; simp [hnB, hc])
      have f1 : (nr == 0) = false := beq_eq_false_iff_ne.2 hc
      have f2 : ((nr : Int) == 0) = false := beq_eq_false_iff_ne.2 (by omega)
      have f3 : ((nr : Int) != 0) = true := bne_iff_ne.2 (by omega)
      have f4 : (nr != 0) = true := bne_iff_ne.2 hc
      clear hc
      go_enter Try.func83, Try.ntmps83
      go_wp2
      go_ret
      exact ⟨ret_b RF.out, bel_alloc w _⟩
    subst hc
    by_cases hc : nn = 0
    case neg =>
      have RF : Hid (false = r) := hid_of (by rw [HR.out]; simp [hnB, hc])
      have f1 : (nn == 0) = false := beq_eq_false_iff_ne.2 hc
      have f2 : ((nn : Int) == 0) = false := beq_eq_false_iff_ne.2 (by omega)
      have f3 : ((nn : Int) != 0) = true := bne_iff_ne.2 (by omega)
      have f4 : (nn != 0) = true := bne_iff_ne.2 hc
      clear hc
      go_enter Try.func83, Try.ntmps83
      go_wp2
      go_ret
      exact ⟨ret_b RF.out, bel_alloc w _⟩
    subst hc
    by_cases hc : np = 0
    case neg =>
      have RF : Hid (false = r) := hid_of (by rw [HR.out]; simp [hnB, hc])
      have f1 : (np == 0) = false := beq_eq_false_iff_ne.2 hc
      have f2 : ((np : Int) == 0) = false := beq_eq_false_iff_ne.2 (by omega)
      have f3 : ((np : Int) != 0) = true := bne_iff_ne.2 (by omega)
      have f4 : (np != 0) = true := bne_iff_ne.2 hc
      clear hc
      go_enter Try.func83, Try.ntmps83
      go_wp2
      go_ret
      exact ⟨ret_b RF.out, bel_alloc w _⟩
    subst hc
    have RT : Hid (true = r) := hid_of (by rw [HR.out]; simp [hnB])
    go_enter Try.func83, Try.ntmps83
    go_wp2
    go_ret
    exact ⟨ret_b RT.out, bel_alloc w _⟩
  · rw [fb10] at HR
    by_cases hc : lo = 0
    case neg =>
      have RF : Hid (false = r) := hid_of (by rw [HR.out]; simp [hnB, hc])
      have f1 : (lo == 0) = false := beq_eq_false_iff_ne.2 hc
      have f2 : (lo != 0) = true := bne_iff_ne.2 hc
      clear hc
      go_enter Try.func83, Try.ntmps83
      go_wp2
      go_ret
      exact ⟨ret_b RF.out, bel_alloc w _⟩
    subst hc
    by_cases hc : hi = 0
    case neg =>
      have RF : Hid (false = r) := hid_of (by rw [HR.out]; simp [hnB, hc])
      have f1 : (hi == 0) = false := beq_eq_false_iff_ne.2 hc
      have f2 : (hi != 0) = true := bne_iff_ne.2 hc
      clear hc
      go_enter Try.func83, Try.ntmps83
      go_wp2
      go_ret
      exact ⟨ret_b RF.out, bel_alloc w _⟩
    subst hc
    by_cases hc : 0 < nn
    case neg =>
      have RF : Hid (false = r) := hid_of (by rw [HR.out]; simp [hnB, hc])
      have f1 : decide (0 < nn) = false := decide_eq_false hc
      have f2 : decide ((0 : Int) < (nn : Int)) = false := decide_eq_false (by omega)
      clear hc
      go_enter Try.func83, Try.ntmps83
      go_wp2
      go_ret
      exact ⟨ret_b RF.out, bel_alloc w _⟩
    have g1 : decide (0 < nn) = true := decide_eq_true hc
    have g2 : decide ((0 : Int) < (nn : Int)) = true := decide_eq_true (by omega)
    have hpos := hid_of hc
    clear hc
    by_cases hc : np = 0
    case neg =>
      have RF : Hid (false = r) := hid_of (by rw [HR.out]; simp [hnB, hc])
      have f1 : (np == 0) = false := beq_eq_false_iff_ne.2 hc
      have f2 : ((np : Int) == 0) = false := beq_eq_false_iff_ne.2 (by omega)
      have f3 : ((np : Int) != 0) = true := bne_iff_ne.2 (by omega)
      have f4 : (np != 0) = true := bne_iff_ne.2 hc
      clear hc
      go_enter Try.func83, Try.ntmps83
      go_wp2
      go_ret
      exact ⟨ret_b RF.out, bel_alloc w _⟩
    subst hc
    have RT : Hid (true = r) := hid_of (by rw [HR.out]; simp [hnB, hpos.out])
    go_enter Try.func83, Try.ntmps83
    go_wp2
    go_ret
    exact ⟨ret_b RT.out, bel_alloc w _⟩
  · rw [fb0 _ _ _ _ _ hx] at HR
    obtain ⟨h1, h2, h3, h4, h5, h6, h7, h8, h9, h10⟩ := hx
    go_enter Try.func83, Try.ntmps83
    go_wp2
    all_goals go_ret
    all_goals exact ⟨ret_b HR.out.symm, bel_alloc w _⟩
end Go.Proofs.Ytilokloemcphbaa
