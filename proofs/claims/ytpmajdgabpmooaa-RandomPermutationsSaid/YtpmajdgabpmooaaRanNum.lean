/- choose, Choose, isIncreasing, factorial. Bounds on sizes alone. -/
import Derived.Test.YtpmajdgabpmooaaRanPermB
import Derived.Test.YtpmajdgabpmooaaRanChoose
namespace Go.Proofs.Ytpmajdgabpmooaa
open Go.RowKit

def chI (n : Nat) (k : Int) : Nat := if k < 0 then 0 else chN n k.toNat
theorem chI_nat (n k : Nat) : chI n (k : Int) = chN n k := by unfold chI; rw [if_neg (by omega)]; simp
theorem chI_lt {n : Nat} {k : Int} (h : n ≤ 60) : chI n k ≤ 576460752303423488 := by
  unfold chI; split
  · omega
  · exact chN_max h
theorem chN_lt64 {n k : Nat} (h : n ≤ 60) : chN n k < 18446744073709551616 := by have := chN_max (k := k) h; omega
theorem choose_step (n i : Nat) (h : n ≤ 60) (hi : i < n) : IntKind.u64.wrap ((IntKind.u64.wrap (((chN n i : Nat) : Int) * ((n : Int) - (i : Int)))).tdiv ((i : Int) + 1)) = ((chN n (i + 1) : Nat) : Int) := by
  have h1 := chN_fits (k := i) h
  have e1 : (n : Int) - (i : Int) = ((n - i : Nat) : Int) := by omega
  rw [e1, ← Int.natCast_mul, wrapu h1, Int.tdiv_eq_ediv_of_nonneg (by omega), show (i : Int) + 1 = ((i + 1 : Nat) : Int) by omega, ← Int.natCast_ediv, chN_div (Nat.le_of_lt hi)]
  exact wrapu (chN_lt64 h)
set_option maxHeartbeats 400000 in
theorem choose_any (n : Nat) (z k : Int) (w : World) (hz : z = n) (hn : n ≤ 60) (hk : -9223372036854775808 ≤ k) (hk2 : k ≤ 9223372036854775807) :
    Calls Try.prog 42 #[.int .i64 z, .int .i64 k] w fun e w' => e = .returned (.int .u64 ((chI n k : Nat) : Int)) ∧ w = w' := by
  subst hz
  by_cases h0 : k < 0
  · have HC : Hid (chI n k = 0) := hid_of (by unfold chI; rw [if_pos h0])
    go_enter Try.func42, Try.ntmps42
    go_wp2
    go_ret
    exact ⟨by rw [HC.out]; rfl, rfl⟩
  · obtain ⟨m, rfl⟩ := Int.eq_ofNat_of_zero_le (show 0 ≤ k by omega)
    by_cases h1 : n < m
    · have HC : Hid (chI n (m : Int) = 0) := hid_of (by rw [chI_nat]; exact chN_gt _ _ h1)
      have d0 : decide ((m : Int) < 0) = false := by simp
      have d1 : decide ((n : Int) < (m : Int)) = true := by simp; omega
      go_enter Try.func42, Try.ntmps42
      go_wp2
      go_ret
      exact ⟨by rw [HC.out]; rfl, rfl⟩
    · have d0 : decide ((m : Int) < 0) = false := by simp
      have d1 : decide ((n : Int) < (m : Int)) = false := by simp; omega
      have hm : m ≤ n := by omega
      rw [chI_nat]
      go_enter Try.func42, Try.ntmps42
      go_wp2
      go_loop [5, 15] (fun cv iv => ∃ i : Nat, i ≤ m ∧ iv = .int .i64 i ∧ cv = .int .u64 ((chN n i : Nat) : Int)) (fun _ iv => m - (intOf iv).toNat)
      case atStart => exact ⟨0, Nat.zero_le _, rfl, by rw [chN_zero]; rfl⟩
      case round =>
        obtain ⟨i, hi, rfl, rfl⟩ := hrel
        by_cases hlt : i < m
        · have hst := hid_of (choose_step n i hn (by omega))
          obtain ⟨c, hc⟩ : ∃ c, c = chN n i := ⟨_, rfl⟩
          rw [← hc] at hst ⊢
          have HCC := hid_of hc
          clear hc
          have hw : IntKind.u64.wrap ((n : Int) - (i : Int)) = (n : Int) - (i : Int) := IntWalk.u64_in _ (by omega)
          have hw1 : IntKind.u64.wrap ((i : Int) + 1) = (i : Int) + 1 := IntWalk.u64_in _ (by omega)
          go_wp2
          go_round
          case rel => exact ⟨i + 1, by omega, by go_num, by rw [← hst.out]⟩
          case measure => simp [intOf]; omega
        · obtain rfl : i = m := by omega
          go_wp2
          go_ret
          exact ⟨rfl, rfl⟩
theorem Choose_any (n : Nat) (z k : Int) (w : World) (hz : z = n) (hn : n ≤ 60) (hk : -9223372036854775808 ≤ k) (hk2 : k ≤ 9223372036854775807) :
    Calls Try.prog 27 #[.int .i64 z, .int .i64 k] w fun e w' => e = .returned (.tuple #[.int .u64 ((chI n k : Nat) : Int), .int .i64 0]) ∧ w = w' := by
  subst hz
  have d0 : decide ((n : Int) < 0) = false := by simp
  have d1 : decide ((60 : Int) < (n : Int)) = false := by simp; omega
  have HK : Hid (-9223372036854775808 ≤ k ∧ k ≤ 9223372036854775807) := hid_of ⟨hk, hk2⟩
  clear hk hk2
  go_enter Try.func27, Try.ntmps27
  go_wp2_with (go_at_call 42; refine (choose_any n _ k w rfl hn HK.out.1 HK.out.2).mono ?_; (rintro e w' ⟨rfl, rfl⟩))
  go_ret2
  exact ⟨rfl, rfl⟩
theorem Choose_bad (z k : Int) (w : World) (hz : z < 0 ∨ 60 < z) :
    Calls Try.prog 27 #[.int .i64 z, .int .i64 k] w fun e w' => e = .returned (.tuple #[.int .u64 0, .int .i64 1]) ∧ w = w' := by
  rcases hz with hz | hz
  · go_enter Try.func27, Try.ntmps27
    go_wp2
    go_ret2
    exact ⟨rfl, rfl⟩
  · have d0 : decide (z < 0) = false := by simp; omega
    have d1 : decide ((60 : Int) < z) = true := by simp; omega
    go_enter Try.func27, Try.ntmps27
    go_wp2
    go_ret2
    exact ⟨rfl, rfl⟩

/-- The first k elements of l are strictly increasing numbers from 0 to n - 1. -/
def incTo (n : Int) (l : List Int) (k : Nat) : Prop := ∀ i, i < k → (if i = 0 then 0 else l.getD (i - 1) 0 + 1) ≤ l.getD i 0 ∧ l.getD i 0 < n
def nextAt (l : List Int) (k : Nat) : Int := if k = 0 then 0 else l.getD (k - 1) 0 + 1
noncomputable def incB (n : Int) (l : List Int) : Bool := @decide (incTo n l l.length) (Classical.propDecidable _)
theorem incB_yes {n : Int} {l : List Int} (h : incTo n l l.length) : incB n l = true := by unfold incB; exact @decide_eq_true _ (Classical.propDecidable _) h
theorem incB_no {n : Int} {l : List Int} (h : ¬ incTo n l l.length) : incB n l = false := by unfold incB; exact @decide_eq_false _ (Classical.propDecidable _) h
theorem incB_iff {n : Int} {l : List Int} : incB n l = true ↔ incTo n l l.length := by unfold incB; exact @decide_eq_true_iff _ (Classical.propDecidable _)
theorem incTo_succ {n : Int} {l : List Int} {k : Nat} (h : incTo n l k) (h0 : nextAt l k ≤ l.getD k 0) (h1 : l.getD k 0 < n) : incTo n l (k + 1) := by
  intro i hi
  by_cases e : i = k
  · subst e; exact ⟨h0, h1⟩
  · exact h i (by omega)
theorem inc_pos {n : Int} {l : List Int} {k : Nat} (h : incTo n l k) : 0 ≤ nextAt l k ∧ (0 ≤ n → nextAt l k ≤ n) := by
  induction k with
  | zero => exact ⟨by simp [nextAt], by simp [nextAt]⟩
  | succ k ih =>
    obtain ⟨a, b⟩ := ih (fun i hi => h i (by omega))
    obtain ⟨c, d⟩ := h k (by omega)
    have e : nextAt l (k + 1) = l.getD k 0 + 1 := by simp [nextAt]
    have f : nextAt l k ≤ l.getD k 0 := c
    rw [e]
    exact ⟨by omega, fun _ => by omega⟩
theorem not_inc {n : Int} {l : List Int} {k : Nat} (hk : k < l.length) (h : l.getD k 0 < nextAt l k ∨ n ≤ l.getD k 0) : ¬ incTo n l l.length := by
  intro hok
  obtain ⟨a, b⟩ := hok k hk
  have a2 : nextAt l k ≤ l.getD k 0 := a
  omega

set_option maxRecDepth 100000 in
set_option maxHeartbeats 800000 in
theorem isInc_any (n : Int) (ao : Option Addr) (m cap : Nat) (l : List Int) (w : World) (R : Rd w (.slice ao m cap) (is l)) (hn : 0 ≤ n) (hn2 : n ≤ 60) :
    Calls Try.prog 46 #[.int .i64 n, .slice ao m cap] w fun e w' => e = .returned (.bool (incB n l)) ∧ w = w' := by
  obtain ⟨hm, h1, h2, h3⟩ := rd_open R
  have HM := hid_of hm
  clear R hm
  rcases h3 with h3 | ⟨g, o, rfl, hg, hc⟩
  · have H3 := hid_of h3
    clear h3
    go_enter Try.func46, Try.ntmps46
    go_wp2
    go_loop [5, 10] (fun nv iv => ∃ k : Nat, k ≤ m ∧ iv = .int .i64 k) (fun _ iv => m - (intOf iv).toNat)
    case atStart => exact ⟨0, Nat.zero_le _, rfl⟩
    case round =>
      obtain ⟨k, hk, rfl⟩ := hrel
      have hge : ¬ k < m := by have := H3.out; omega
      go_wp2
      go_ret
      refine ⟨ret_bool (incB_yes ?_).symm, rfl⟩
      intro i hi
      have := H3.out; have := HM.out; omega
  · have HC := hid_of hc
    clear hc
    go_enter Try.func46, Try.ntmps46
    go_wp2
    go_loop [5, 10] (fun nv iv => ∃ (k : Nat) (z : Int), k ≤ m ∧ iv = .int .i64 k ∧ nv = .int .i64 z ∧ Hid (z = nextAt l k) ∧ Hid (incTo n l k)) (fun _ iv => m - (intOf iv).toNat)
    case atStart => exact ⟨0, 0, Nat.zero_le _, rfl, rfl, hid_of rfl, hid_of (fun i hi => by omega)⟩
    case round =>
      obtain ⟨k, z, hk, rfl, rfl, hz, hok⟩ := hrel
      have hz0 : 0 ≤ z ∧ z ≤ n := by have := inc_pos hok.out; rw [← hz.out] at this; exact ⟨this.1, this.2 hn⟩
      obtain ⟨hz1, hz2⟩ := hz0
      by_cases hlt : k < m
      · have c1 := HC.out k hlt
        have hkl : Hid (k < l.length) := hid_of (by have := HM.out; omega)
        obtain ⟨x, hx⟩ : ∃ x, x = l.getD k 0 := ⟨_, rfl⟩
        rw [← hx] at c1
        have HX := hid_of hx
        clear hx
        by_cases x0 : x < z
        · have hF : Hid (incB n l = false) := hid_of (incB_no (not_inc hkl.out (.inl (by rw [← HX.out, ← hz.out]; exact x0))))
          go_wp2
          go_ret
          exact ⟨ret_bool hF.out.symm, rfl⟩
        · have x2 : decide (x < z) = false := by simp; omega
          by_cases x1 : n ≤ x
          · have hF : Hid (incB n l = false) := hid_of (incB_no (not_inc hkl.out (.inr (by rw [← HX.out]; exact x1))))
            go_wp2
            go_ret
            exact ⟨ret_bool hF.out.symm, rfl⟩
          · have x3 : decide (n ≤ x) = false := by simp; omega
            go_wp2
            go_round
            case rel => exact ⟨k + 1, _, by omega, by go_num, rfl, hid_of (by rw [HX.out]; simp [nextAt]), hid_of (incTo_succ hok.out (by rw [← HX.out, ← hz.out]; omega) (by rw [← HX.out]; omega))⟩
            case measure => simp [intOf]; omega
      · obtain rfl : k = m := by omega
        go_wp2
        go_ret
        exact ⟨ret_bool (incB_yes (by rw [← HM.out]; exact hok.out)).symm, rfl⟩
end Go.Proofs.Ytpmajdgabpmooaa
