/- hasItsNames, hasItsFields, nameLimit of package lattice. Bounds on sizes alone. -/
import Derived.Test.YtoogcafceghdjaaLatRls
namespace Go.Proofs.Ytoogcafceghdjaa
open Go.RowKit

def hnB (k : Int) (nn : Nat) : Bool := if k = 4 ∨ k = 8 ∨ k = 5 then true else if k = 6 ∨ k = 10 then decide (0 < nn) else nn == 0
def fieldsB (k lo hi : Int) (nn np nr : Nat) : Bool :=
  if k = 1 ∨ k = 9 ∨ k = 4 ∨ k = 8 then lo == 0 && hi == 0 && nr == 0 && np == 0 && hnB k nn
  else if k = 2 ∨ k = 3 then nr == 0 && np == 0 && hnB k nn
  else if k = 5 then lo == 0 && hi == 0 && nr == 0 && np == 1 && hnB k nn
  else if k = 6 then lo == 0 && hi == 0 && nr == 0 && np == nn && hnB k nn
  else if k = 7 then lo == 0 && hi == 0 && nr == 0 && np == 2 && hnB k nn
  else if k = 10 then lo == 0 && hi == 0 && np == 0 && hnB k nn
  else false
theorem fb1 (lo hi : Int) (nn np nr : Nat) : fieldsB 1 lo hi nn np nr = (lo == 0 && hi == 0 && nr == 0 && np == 0 && hnB 1 nn) := by rfl
theorem fb2 (lo hi : Int) (nn np nr : Nat) : fieldsB 2 lo hi nn np nr = (nr == 0 && np == 0 && hnB 2 nn) := by rfl
theorem fb3 (lo hi : Int) (nn np nr : Nat) : fieldsB 3 lo hi nn np nr = (nr == 0 && np == 0 && hnB 3 nn) := by rfl
theorem fb4 (lo hi : Int) (nn np nr : Nat) : fieldsB 4 lo hi nn np nr = (lo == 0 && hi == 0 && nr == 0 && np == 0 && hnB 4 nn) := by rfl
theorem fb5 (lo hi : Int) (nn np nr : Nat) : fieldsB 5 lo hi nn np nr = (lo == 0 && hi == 0 && nr == 0 && np == 1 && hnB 5 nn) := by rfl
theorem fb6 (lo hi : Int) (nn np nr : Nat) : fieldsB 6 lo hi nn np nr = (lo == 0 && hi == 0 && nr == 0 && np == nn && hnB 6 nn) := by rfl
theorem fb7 (lo hi : Int) (nn np nr : Nat) : fieldsB 7 lo hi nn np nr = (lo == 0 && hi == 0 && nr == 0 && np == 2 && hnB 7 nn) := by rfl
theorem fb8 (lo hi : Int) (nn np nr : Nat) : fieldsB 8 lo hi nn np nr = (lo == 0 && hi == 0 && nr == 0 && np == 0 && hnB 8 nn) := by rfl
theorem fb9 (lo hi : Int) (nn np nr : Nat) : fieldsB 9 lo hi nn np nr = (lo == 0 && hi == 0 && nr == 0 && np == 0 && hnB 9 nn) := by rfl
theorem fb10 (lo hi : Int) (nn np nr : Nat) : fieldsB 10 lo hi nn np nr = (lo == 0 && hi == 0 && np == 0 && hnB 10 nn) := by rfl
theorem fb0 {k : Int} (lo hi : Int) (nn np nr : Nat) (h : k ≠ 1 ∧ k ≠ 2 ∧ k ≠ 3 ∧ k ≠ 4 ∧ k ≠ 5 ∧ k ≠ 6 ∧ k ≠ 7 ∧ k ≠ 8 ∧ k ≠ 9 ∧ k ≠ 10) : fieldsB k lo hi nn np nr = false := by
  unfold fieldsB
  rw [if_neg (by omega), if_neg (by omega), if_neg (by omega), if_neg (by omega), if_neg (by omega), if_neg (by omega)]
theorem len0 {α : Type} (l : List α) : (l.length == 0) = decide (l = []) := by cases l <;> simp
theorem shape_fields (t : Lat) : shapeB t = fieldsB t.k t.lo t.hi t.ns.length t.ps.length t.rs.length := by
  obtain ⟨k, lo, hi, ns, ps, rs⟩ := t
  simp only [Lat.k, Lat.lo, Lat.hi, Lat.ns, Lat.ps, Lat.rs]
  rcases kinds k with rfl | rfl | rfl | rfl | rfl | rfl | rfl | rfl | rfl | rfl | hx
  case inr.inr.inr.inr.inr.inr.inr.inr.inr.inr =>
    rw [fb0 _ _ _ _ _ hx]
    refine Bool.eq_false_iff.2 fun h => ?_
    have := shape_k h
    simp only [Lat.k] at this
    omega
  all_goals
    simp only [fb1, fb2, fb3, fb4, fb5, fb6, fb7, fb8, fb9, fb10, shapeB, hnB, Lat.k, Lat.lo, Lat.hi, Lat.ns, Lat.ps, Lat.rs]
    rw [Bool.eq_iff_iff]
    cases ns <;> cases ps <;> cases rs <;> simp [and_assoc]
set_option maxRecDepth 100000 in
theorem hn_any (k lo hi : Int) (an : Option Addr) (nn cn : Nat) (ap : Option Addr) (np cp : Nat) (ar : Option Addr) (nr cr : Nat) (w : World) (q : Bool) (hq : q = hnB k nn) : Calls Try.prog 79 #[.agg #[.int .i64 k, .int .i64 lo, .int .i64 hi, .slice an nn cn, .slice ap np cp, .slice ar nr cr]] w (BoP q w) := by
  have HB := hid_of (bel_alloc w (.cells #[.int .i64 k, .int .i64 lo, .int .i64 hi, .slice an nn cn, .slice ap np cp, .slice ar nr cr] 26))
  rcases kinds k with rfl | rfl | rfl | rfl | rfl | rfl | rfl | rfl | rfl | rfl | hx
  case inr.inr.inr.inr.inr.inr.inr.inr.inr.inr =>
    have h : q = (nn == 0) := by rw [hq]; unfold hnB; rw [if_neg (by omega), if_neg (by omega)]
    have HQ := hid_of h
    obtain ⟨h1, h2, h3, h4, h5, h6, h7, h8, h9, h10⟩ := hx
    clear hq h
    go_enter Try.func79, Try.ntmps79
    go_wp2
    go_ret
    refine ⟨ret_b ?_, HB.out⟩
    rw [HQ.out]
    first | rfl | (rw [Bool.eq_iff_iff]; simp)
  all_goals
    have HQ := hid_of hq
    clear hq
    go_enter Try.func79, Try.ntmps79
    go_wp2
    go_ret
    refine ⟨ret_b ?_, HB.out⟩
    rw [HQ.out]
    first | rfl | (rw [Bool.eq_iff_iff]; simp [hnB])
set_option maxRecDepth 100000 in
theorem limit_any (k : Int) (w : World) : Calls Try.prog 64 #[.int .i64 k] w fun e w' => e = .returned (.int .i64 (limL k : Nat)) ∧ w = w' := by
  obtain ⟨r, hr⟩ : ∃ r, r = limL k := ⟨_, rfl⟩
  rw [← hr]
  have HR := hid_of hr
  clear hr
  by_cases h6 : k = 6
  · subst h6
    go_enter Try.func64, Try.ntmps64
    go_wp2
    go_ret
    exact ⟨by rw [HR.out]; rfl, rfl⟩
  by_cases h10 : k = 10
  · subst h10
    go_enter Try.func64, Try.ntmps64
    go_wp2
    go_ret
    exact ⟨by rw [HR.out]; rfl, rfl⟩
  have RE : Hid (r = 32) := hid_of (by rw [HR.out]; unfold limL; rw [if_neg h6, if_neg h10])
  have e6 : (k == 6) = false := beq_eq_false_iff_ne.2 h6
  have e10 : (k == 10) = false := beq_eq_false_iff_ne.2 h10
  go_enter Try.func64, Try.ntmps64
  go_wp2
  go_ret
  exact ⟨by rw [RE.out]; rfl, rfl⟩
set_option maxRecDepth 100000 in
set_option maxHeartbeats 6400000 in
theorem fields_any (k lo hi : Int) (an : Option Addr) (nn cn : Nat) (ap : Option Addr) (np cp : Nat) (ar : Option Addr) (nr cr : Nat) (w : World) : Calls Try.prog 63 #[.agg #[.int .i64 k, .int .i64 lo, .int .i64 hi, .slice an nn cn, .slice ap np cp, .slice ar nr cr]] w (BoP (fieldsB k lo hi nn np nr) w) := by
  obtain ⟨r, hr⟩ : ∃ r, r = fieldsB k lo hi nn np nr := ⟨_, rfl⟩
  rw [← hr]
  have HR := hid_of hr
  clear hr
  rcases kinds k with rfl | rfl | rfl | rfl | rfl | rfl | rfl | rfl | rfl | rfl | hx
  · rw [fb1] at HR
    by_cases hlo : lo = 0
    case neg =>
      have RF : Hid (false = r) := hid_of (by rw [HR.out]; simp [hlo])
      have f1 : (lo == 0) = false := beq_eq_false_iff_ne.2 hlo
      clear hlo
      go_enter Try.func63, Try.ntmps63
      go_wp2
      go_ret
      exact ⟨ret_b RF.out, bel_alloc w _⟩
    subst hlo
    by_cases hhi : hi = 0
    case neg =>
      have RF : Hid (false = r) := hid_of (by rw [HR.out]; simp [hhi])
      have f1 : (hi == 0) = false := beq_eq_false_iff_ne.2 hhi
      clear hhi
      go_enter Try.func63, Try.ntmps63
      go_wp2
      go_ret
      exact ⟨ret_b RF.out, bel_alloc w _⟩
    subst hhi
    by_cases hnr : nr = 0
    case neg =>
      have RF : Hid (false = r) := hid_of (by rw [HR.out]; simp [hnr])
      have f1 : (nr == 0) = false := beq_eq_false_iff_ne.2 hnr
      have f2 : ((nr : Int) == 0) = false := beq_eq_false_iff_ne.2 (by omega)
      clear hnr
      go_enter Try.func63, Try.ntmps63
      go_wp2
      go_ret
      exact ⟨ret_b RF.out, bel_alloc w _⟩
    subst hnr
    by_cases hnp : np = 0
    case neg =>
      have RF : Hid (false = r) := hid_of (by rw [HR.out]; simp [hnp])
      have f1 : (np == 0) = false := beq_eq_false_iff_ne.2 hnp
      have f2 : ((np : Int) == 0) = false := beq_eq_false_iff_ne.2 (by omega)
      clear hnp
      go_enter Try.func63, Try.ntmps63
      go_wp2
      go_ret
      exact ⟨ret_b RF.out, bel_alloc w _⟩
    subst hnp
    have HQ : Hid (hnB 1 nn = r) := hid_of (by rw [HR.out]; simp)
    obtain ⟨q, hq⟩ : ∃ q, q = hnB 1 nn := ⟨_, rfl⟩
    have HN := hid_of (fun lo hi an nn2 cn ap np2 cp ar nr cr w (h : nn2 = nn) => hn_any 1 lo hi an nn2 cn ap np2 cp ar nr cr w q (by rw [h]; exact hq))
    rw [← hq] at HQ
    clear hq HR
    go_enter Try.func63, Try.ntmps63
    go_wp2_with (go_at_call 79; ((with_reducible refine (HN.out _ _ _ _ _ _ _ _ _ _ _ _ rfl).mono ?_); (rintro e w2 ⟨rfl, h2⟩)); (have H2 := hid_of h2); clear h2)
    go_ret
    exact ⟨ret_b HQ.out, (bel_alloc w _).trans (H2.out.mono (by simp))⟩
  · rw [fb2] at HR
    by_cases hnr : nr = 0
    case neg =>
      have RF : Hid (false = r) := hid_of (by rw [HR.out]; simp [hnr])
      have f1 : (nr == 0) = false := beq_eq_false_iff_ne.2 hnr
      have f2 : ((nr : Int) == 0) = false := beq_eq_false_iff_ne.2 (by omega)
      clear hnr
      go_enter Try.func63, Try.ntmps63
      go_wp2
      go_ret
      exact ⟨ret_b RF.out, bel_alloc w _⟩
    subst hnr
    by_cases hnp : np = 0
    case neg =>
      have RF : Hid (false = r) := hid_of (by rw [HR.out]; simp [hnp])
      have f1 : (np == 0) = false := beq_eq_false_iff_ne.2 hnp
      have f2 : ((np : Int) == 0) = false := beq_eq_false_iff_ne.2 (by omega)
      clear hnp
      go_enter Try.func63, Try.ntmps63
      go_wp2
      go_ret
      exact ⟨ret_b RF.out, bel_alloc w _⟩
    subst hnp
    have HQ : Hid (hnB 2 nn = r) := hid_of (by rw [HR.out]; simp)
    obtain ⟨q, hq⟩ : ∃ q, q = hnB 2 nn := ⟨_, rfl⟩
    have HN := hid_of (fun lo hi an nn2 cn ap np2 cp ar nr cr w (h : nn2 = nn) => hn_any 2 lo hi an nn2 cn ap np2 cp ar nr cr w q (by rw [h]; exact hq))
    rw [← hq] at HQ
    clear hq HR
    go_enter Try.func63, Try.ntmps63
    go_wp2_with (go_at_call 79; ((with_reducible refine (HN.out _ _ _ _ _ _ _ _ _ _ _ _ rfl).mono ?_); (rintro e w2 ⟨rfl, h2⟩)); (have H2 := hid_of h2); clear h2)
    go_ret
    exact ⟨ret_b HQ.out, (bel_alloc w _).trans (H2.out.mono (by simp))⟩
  · rw [fb3] at HR
    by_cases hnr : nr = 0
    case neg =>
      have RF : Hid (false = r) := hid_of (by rw [HR.out]; simp [hnr])
      have f1 : (nr == 0) = false := beq_eq_false_iff_ne.2 hnr
      have f2 : ((nr : Int) == 0) = false := beq_eq_false_iff_ne.2 (by omega)
      clear hnr
      go_enter Try.func63, Try.ntmps63
      go_wp2
      go_ret
      exact ⟨ret_b RF.out, bel_alloc w _⟩
    subst hnr
    by_cases hnp : np = 0
    case neg =>
      have RF : Hid (false = r) := hid_of (by rw [HR.out]; simp [hnp])
      have f1 : (np == 0) = false := beq_eq_false_iff_ne.2 hnp
      have f2 : ((np : Int) == 0) = false := beq_eq_false_iff_ne.2 (by omega)
      clear hnp
      go_enter Try.func63, Try.ntmps63
      go_wp2
      go_ret
      exact ⟨ret_b RF.out, bel_alloc w _⟩
    subst hnp
    have HQ : Hid (hnB 3 nn = r) := hid_of (by rw [HR.out]; simp)
    obtain ⟨q, hq⟩ : ∃ q, q = hnB 3 nn := ⟨_, rfl⟩
    have HN := hid_of (fun lo hi an nn2 cn ap np2 cp ar nr cr w (h : nn2 = nn) => hn_any 3 lo hi an nn2 cn ap np2 cp ar nr cr w q (by rw [h]; exact hq))
    rw [← hq] at HQ
    clear hq HR
    go_enter Try.func63, Try.ntmps63
    go_wp2_with (go_at_call 79; ((with_reducible refine (HN.out _ _ _ _ _ _ _ _ _ _ _ _ rfl).mono ?_); (rintro e w2 ⟨rfl, h2⟩)); (have H2 := hid_of h2); clear h2)
    go_ret
    exact ⟨ret_b HQ.out, (bel_alloc w _).trans (H2.out.mono (by simp))⟩
  · rw [fb4] at HR
    by_cases hlo : lo = 0
    case neg =>
      have RF : Hid (false = r) := hid_of (by rw [HR.out]; simp [hlo])
      have f1 : (lo == 0) = false := beq_eq_false_iff_ne.2 hlo
      clear hlo
      go_enter Try.func63, Try.ntmps63
      go_wp2
      go_ret
      exact ⟨ret_b RF.out, bel_alloc w _⟩
    subst hlo
    by_cases hhi : hi = 0
    case neg =>
      have RF : Hid (false = r) := hid_of (by rw [HR.out]; simp [hhi])
      have f1 : (hi == 0) = false := beq_eq_false_iff_ne.2 hhi
      clear hhi
      go_enter Try.func63, Try.ntmps63
      go_wp2
      go_ret
      exact ⟨ret_b RF.out, bel_alloc w _⟩
    subst hhi
    by_cases hnr : nr = 0
    case neg =>
      have RF : Hid (false = r) := hid_of (by rw [HR.out]; simp [hnr])
      have f1 : (nr == 0) = false := beq_eq_false_iff_ne.2 hnr
      have f2 : ((nr : Int) == 0) = false := beq_eq_false_iff_ne.2 (by omega)
      clear hnr
      go_enter Try.func63, Try.ntmps63
      go_wp2
      go_ret
      exact ⟨ret_b RF.out, bel_alloc w _⟩
    subst hnr
    by_cases hnp : np = 0
    case neg =>
      have RF : Hid (false = r) := hid_of (by rw [HR.out]; simp [hnp])
      have f1 : (np == 0) = false := beq_eq_false_iff_ne.2 hnp
      have f2 : ((np : Int) == 0) = false := beq_eq_false_iff_ne.2 (by omega)
      clear hnp
      go_enter Try.func63, Try.ntmps63
      go_wp2
      go_ret
      exact ⟨ret_b RF.out, bel_alloc w _⟩
    subst hnp
    have HQ : Hid (hnB 4 nn = r) := hid_of (by rw [HR.out]; simp)
    obtain ⟨q, hq⟩ : ∃ q, q = hnB 4 nn := ⟨_, rfl⟩
    have HN := hid_of (fun lo hi an nn2 cn ap np2 cp ar nr cr w (h : nn2 = nn) => hn_any 4 lo hi an nn2 cn ap np2 cp ar nr cr w q (by rw [h]; exact hq))
    rw [← hq] at HQ
    clear hq HR
    go_enter Try.func63, Try.ntmps63
    go_wp2_with (go_at_call 79; ((with_reducible refine (HN.out _ _ _ _ _ _ _ _ _ _ _ _ rfl).mono ?_); (rintro e w2 ⟨rfl, h2⟩)); (have H2 := hid_of h2); clear h2)
    go_ret
    exact ⟨ret_b HQ.out, (bel_alloc w _).trans (H2.out.mono (by simp))⟩
  · rw [fb5] at HR
    by_cases hlo : lo = 0
    case neg =>
      have RF : Hid (false = r) := hid_of (by rw [HR.out]; simp [hlo])
      have f1 : (lo == 0) = false := beq_eq_false_iff_ne.2 hlo
      clear hlo
      go_enter Try.func63, Try.ntmps63
      go_wp2
      go_ret
      exact ⟨ret_b RF.out, bel_alloc w _⟩
    subst hlo
    by_cases hhi : hi = 0
    case neg =>
      have RF : Hid (false = r) := hid_of (by rw [HR.out]; simp [hhi])
      have f1 : (hi == 0) = false := beq_eq_false_iff_ne.2 hhi
      clear hhi
      go_enter Try.func63, Try.ntmps63
      go_wp2
      go_ret
      exact ⟨ret_b RF.out, bel_alloc w _⟩
    subst hhi
    by_cases hnr : nr = 0
    case neg =>
      have RF : Hid (false = r) := hid_of (by rw [HR.out]; simp [hnr])
      have f1 : (nr == 0) = false := beq_eq_false_iff_ne.2 hnr
      have f2 : ((nr : Int) == 0) = false := beq_eq_false_iff_ne.2 (by omega)
      clear hnr
      go_enter Try.func63, Try.ntmps63
      go_wp2
      go_ret
      exact ⟨ret_b RF.out, bel_alloc w _⟩
    subst hnr
    by_cases hnp : np = 1
    case neg =>
      have RF : Hid (false = r) := hid_of (by rw [HR.out]; simp [hnp])
      have f1 : (np == 1) = false := beq_eq_false_iff_ne.2 hnp
      have f2 : ((np : Int) == 1) = false := beq_eq_false_iff_ne.2 (by omega)
      clear hnp
      go_enter Try.func63, Try.ntmps63
      go_wp2
      go_ret
      exact ⟨ret_b RF.out, bel_alloc w _⟩
    subst hnp
    have HQ : Hid (hnB 5 nn = r) := hid_of (by rw [HR.out]; simp)
    obtain ⟨q, hq⟩ : ∃ q, q = hnB 5 nn := ⟨_, rfl⟩
    have HN := hid_of (fun lo hi an nn2 cn ap np2 cp ar nr cr w (h : nn2 = nn) => hn_any 5 lo hi an nn2 cn ap np2 cp ar nr cr w q (by rw [h]; exact hq))
    rw [← hq] at HQ
    clear hq HR
    go_enter Try.func63, Try.ntmps63
    go_wp2_with (go_at_call 79; ((with_reducible refine (HN.out _ _ _ _ _ _ _ _ _ _ _ _ rfl).mono ?_); (rintro e w2 ⟨rfl, h2⟩)); (have H2 := hid_of h2); clear h2)
    go_ret
    exact ⟨ret_b HQ.out, (bel_alloc w _).trans (H2.out.mono (by simp))⟩
  · rw [fb6] at HR
    by_cases hlo : lo = 0
    case neg =>
      have RF : Hid (false = r) := hid_of (by rw [HR.out]; simp [hlo])
      have f1 : (lo == 0) = false := beq_eq_false_iff_ne.2 hlo
      clear hlo
      go_enter Try.func63, Try.ntmps63
      go_wp2
      go_ret
      exact ⟨ret_b RF.out, bel_alloc w _⟩
    subst hlo
    by_cases hhi : hi = 0
    case neg =>
      have RF : Hid (false = r) := hid_of (by rw [HR.out]; simp [hhi])
      have f1 : (hi == 0) = false := beq_eq_false_iff_ne.2 hhi
      clear hhi
      go_enter Try.func63, Try.ntmps63
      go_wp2
      go_ret
      exact ⟨ret_b RF.out, bel_alloc w _⟩
    subst hhi
    by_cases hnr : nr = 0
    case neg =>
      have RF : Hid (false = r) := hid_of (by rw [HR.out]; simp [hnr])
      have f1 : (nr == 0) = false := beq_eq_false_iff_ne.2 hnr
      have f2 : ((nr : Int) == 0) = false := beq_eq_false_iff_ne.2 (by omega)
      clear hnr
      go_enter Try.func63, Try.ntmps63
      go_wp2
      go_ret
      exact ⟨ret_b RF.out, bel_alloc w _⟩
    subst hnr
    by_cases hnp : np = nn
    case neg =>
      have RF : Hid (false = r) := hid_of (by rw [HR.out]; simp [hnp])
      have f1 : (np == nn) = false := beq_eq_false_iff_ne.2 hnp
      have f2 : ((np : Int) == (nn : Int)) = false := beq_eq_false_iff_ne.2 (by omega)
      clear hnp
      go_enter Try.func63, Try.ntmps63
      go_wp2
      go_ret
      exact ⟨ret_b RF.out, bel_alloc w _⟩
    subst hnp
    have HQ : Hid (hnB 6 np = r) := hid_of (by rw [HR.out]; simp)
    obtain ⟨q, hq⟩ : ∃ q, q = hnB 6 np := ⟨_, rfl⟩
    have HN := hid_of (fun lo hi an nn2 cn ap np2 cp ar nr cr w (h : nn2 = np) => hn_any 6 lo hi an nn2 cn ap np2 cp ar nr cr w q (by rw [h]; exact hq))
    rw [← hq] at HQ
    clear hq HR
    go_enter Try.func63, Try.ntmps63
    go_wp2_with (go_at_call 79; ((with_reducible refine (HN.out _ _ _ _ _ _ _ _ _ _ _ _ rfl).mono ?_); (rintro e w2 ⟨rfl, h2⟩)); (have H2 := hid_of h2); clear h2)
    go_ret
    exact ⟨ret_b HQ.out, (bel_alloc w _).trans (H2.out.mono (by simp))⟩
  · rw [fb7] at HR
    by_cases hlo : lo = 0
    case neg =>
      have RF : Hid (false = r) := hid_of (by rw [HR.out]; simp [hlo])
      have f1 : (lo == 0) = false := beq_eq_false_iff_ne.2 hlo
      clear hlo
      go_enter Try.func63, Try.ntmps63
      go_wp2
      go_ret
      exact ⟨ret_b RF.out, bel_alloc w _⟩
    subst hlo
    by_cases hhi : hi = 0
    case neg =>
      have RF : Hid (false = r) := hid_of (by rw [HR.out]; simp [hhi])
      have f1 : (hi == 0) = false := beq_eq_false_iff_ne.2 hhi
      clear hhi
      go_enter Try.func63, Try.ntmps63
      go_wp2
      go_ret
      exact ⟨ret_b RF.out, bel_alloc w _⟩
    subst hhi
    by_cases hnr : nr = 0
    case neg =>
      have RF : Hid (false = r) := hid_of (by rw [HR.out]; simp [hnr])
      have f1 : (nr == 0) = false := beq_eq_false_iff_ne.2 hnr
      have f2 : ((nr : Int) == 0) = false := beq_eq_false_iff_ne.2 (by omega)
      clear hnr
      go_enter Try.func63, Try.ntmps63
      go_wp2
      go_ret
      exact ⟨ret_b RF.out, bel_alloc w _⟩
    subst hnr
    by_cases hnp : np = 2
    case neg =>
      have RF : Hid (false = r) := hid_of (by rw [HR.out]; simp [hnp])
      have f1 : (np == 2) = false := beq_eq_false_iff_ne.2 hnp
      have f2 : ((np : Int) == 2) = false := beq_eq_false_iff_ne.2 (by omega)
      clear hnp
      go_enter Try.func63, Try.ntmps63
      go_wp2
      go_ret
      exact ⟨ret_b RF.out, bel_alloc w _⟩
    subst hnp
    have HQ : Hid (hnB 7 nn = r) := hid_of (by rw [HR.out]; simp)
    obtain ⟨q, hq⟩ : ∃ q, q = hnB 7 nn := ⟨_, rfl⟩
    have HN := hid_of (fun lo hi an nn2 cn ap np2 cp ar nr cr w (h : nn2 = nn) => hn_any 7 lo hi an nn2 cn ap np2 cp ar nr cr w q (by rw [h]; exact hq))
    rw [← hq] at HQ
    clear hq HR
    go_enter Try.func63, Try.ntmps63
    go_wp2_with (go_at_call 79; ((with_reducible refine (HN.out _ _ _ _ _ _ _ _ _ _ _ _ rfl).mono ?_); (rintro e w2 ⟨rfl, h2⟩)); (have H2 := hid_of h2); clear h2)
    go_ret
    exact ⟨ret_b HQ.out, (bel_alloc w _).trans (H2.out.mono (by simp))⟩
  · rw [fb8] at HR
    by_cases hlo : lo = 0
    case neg =>
      have RF : Hid (false = r) := hid_of (by rw [HR.out]; simp [hlo])
      have f1 : (lo == 0) = false := beq_eq_false_iff_ne.2 hlo
      clear hlo
      go_enter Try.func63, Try.ntmps63
      go_wp2
      go_ret
      exact ⟨ret_b RF.out, bel_alloc w _⟩
    subst hlo
    by_cases hhi : hi = 0
    case neg =>
      have RF : Hid (false = r) := hid_of (by rw [HR.out]; simp [hhi])
      have f1 : (hi == 0) = false := beq_eq_false_iff_ne.2 hhi
      clear hhi
      go_enter Try.func63, Try.ntmps63
      go_wp2
      go_ret
      exact ⟨ret_b RF.out, bel_alloc w _⟩
    subst hhi
    by_cases hnr : nr = 0
    case neg =>
      have RF : Hid (false = r) := hid_of (by rw [HR.out]; simp [hnr])
      have f1 : (nr == 0) = false := beq_eq_false_iff_ne.2 hnr
      have f2 : ((nr : Int) == 0) = false := beq_eq_false_iff_ne.2 (by omega)
      clear hnr
      go_enter Try.func63, Try.ntmps63
      go_wp2
      go_ret
      exact ⟨ret_b RF.out, bel_alloc w _⟩
    subst hnr
    by_cases hnp : np = 0
    case neg =>
      have RF : Hid (false = r) := hid_of (by rw [HR.out]; simp [hnp])
      have f1 : (np == 0) = false := beq_eq_false_iff_ne.2 hnp
      have f2 : ((np : Int) == 0) = false := beq_eq_false_iff_ne.2 (by omega)
      clear hnp
      go_enter Try.func63, Try.ntmps63
      go_wp2
      go_ret
      exact ⟨ret_b RF.out, bel_alloc w _⟩
    subst hnp
    have HQ : Hid (hnB 8 nn = r) := hid_of (by rw [HR.out]; simp)
    obtain ⟨q, hq⟩ : ∃ q, q = hnB 8 nn := ⟨_, rfl⟩
    have HN := hid_of (fun lo hi an nn2 cn ap np2 cp ar nr cr w (h : nn2 = nn) => hn_any 8 lo hi an nn2 cn ap np2 cp ar nr cr w q (by rw [h]; exact hq))
    rw [← hq] at HQ
    clear hq HR
    go_enter Try.func63, Try.ntmps63
    go_wp2_with (go_at_call 79; ((with_reducible refine (HN.out _ _ _ _ _ _ _ _ _ _ _ _ rfl).mono ?_); (rintro e w2 ⟨rfl, h2⟩)); (have H2 := hid_of h2); clear h2)
    go_ret
    exact ⟨ret_b HQ.out, (bel_alloc w _).trans (H2.out.mono (by simp))⟩
  · rw [fb9] at HR
    by_cases hlo : lo = 0
    case neg =>
      have RF : Hid (false = r) := hid_of (by rw [HR.out]; simp [hlo])
      have f1 : (lo == 0) = false := beq_eq_false_iff_ne.2 hlo
      clear hlo
      go_enter Try.func63, Try.ntmps63
      go_wp2
      go_ret
      exact ⟨ret_b RF.out, bel_alloc w _⟩
    subst hlo
    by_cases hhi : hi = 0
    case neg =>
      have RF : Hid (false = r) := hid_of (by rw [HR.out]; simp [hhi])
      have f1 : (hi == 0) = false := beq_eq_false_iff_ne.2 hhi
      clear hhi
      go_enter Try.func63, Try.ntmps63
      go_wp2
      go_ret
      exact ⟨ret_b RF.out, bel_alloc w _⟩
    subst hhi
    by_cases hnr : nr = 0
    case neg =>
      have RF : Hid (false = r) := hid_of (by rw [HR.out]; simp [hnr])
      have f1 : (nr == 0) = false := beq_eq_false_iff_ne.2 hnr
      have f2 : ((nr : Int) == 0) = false := beq_eq_false_iff_ne.2 (by omega)
      clear hnr
      go_enter Try.func63, Try.ntmps63
      go_wp2
      go_ret
      exact ⟨ret_b RF.out, bel_alloc w _⟩
    subst hnr
    by_cases hnp : np = 0
    case neg =>
      have RF : Hid (false = r) := hid_of (by rw [HR.out]; simp [hnp])
      have f1 : (np == 0) = false := beq_eq_false_iff_ne.2 hnp
      have f2 : ((np : Int) == 0) = false := beq_eq_false_iff_ne.2 (by omega)
      clear hnp
      go_enter Try.func63, Try.ntmps63
      go_wp2
      go_ret
      exact ⟨ret_b RF.out, bel_alloc w _⟩
    subst hnp
    have HQ : Hid (hnB 9 nn = r) := hid_of (by rw [HR.out]; simp)
    obtain ⟨q, hq⟩ : ∃ q, q = hnB 9 nn := ⟨_, rfl⟩
    have HN := hid_of (fun lo hi an nn2 cn ap np2 cp ar nr cr w (h : nn2 = nn) => hn_any 9 lo hi an nn2 cn ap np2 cp ar nr cr w q (by rw [h]; exact hq))
    rw [← hq] at HQ
    clear hq HR
    go_enter Try.func63, Try.ntmps63
    go_wp2_with (go_at_call 79; ((with_reducible refine (HN.out _ _ _ _ _ _ _ _ _ _ _ _ rfl).mono ?_); (rintro e w2 ⟨rfl, h2⟩)); (have H2 := hid_of h2); clear h2)
    go_ret
    exact ⟨ret_b HQ.out, (bel_alloc w _).trans (H2.out.mono (by simp))⟩
  · rw [fb10] at HR
    by_cases hlo : lo = 0
    case neg =>
      have RF : Hid (false = r) := hid_of (by rw [HR.out]; simp [hlo])
      have f1 : (lo == 0) = false := beq_eq_false_iff_ne.2 hlo
      clear hlo
      go_enter Try.func63, Try.ntmps63
      go_wp2
      go_ret
      exact ⟨ret_b RF.out, bel_alloc w _⟩
    subst hlo
    by_cases hhi : hi = 0
    case neg =>
      have RF : Hid (false = r) := hid_of (by rw [HR.out]; simp [hhi])
      have f1 : (hi == 0) = false := beq_eq_false_iff_ne.2 hhi
      clear hhi
      go_enter Try.func63, Try.ntmps63
      go_wp2
      go_ret
      exact ⟨ret_b RF.out, bel_alloc w _⟩
    subst hhi
    by_cases hnp : np = 0
    case neg =>
      have RF : Hid (false = r) := hid_of (by rw [HR.out]; simp [hnp])
      have f1 : (np == 0) = false := beq_eq_false_iff_ne.2 hnp
      have f2 : ((np : Int) == 0) = false := beq_eq_false_iff_ne.2 (by omega)
      clear hnp
      go_enter Try.func63, Try.ntmps63
      go_wp2
      go_ret
      exact ⟨ret_b RF.out, bel_alloc w _⟩
    subst hnp
    have HQ : Hid (hnB 10 nn = r) := hid_of (by rw [HR.out]; simp)
    obtain ⟨q, hq⟩ : ∃ q, q = hnB 10 nn := ⟨_, rfl⟩
    have HN := hid_of (fun lo hi an nn2 cn ap np2 cp ar nr cr w (h : nn2 = nn) => hn_any 10 lo hi an nn2 cn ap np2 cp ar nr cr w q (by rw [h]; exact hq))
    rw [← hq] at HQ
    clear hq HR
    go_enter Try.func63, Try.ntmps63
    go_wp2_with (go_at_call 79; ((with_reducible refine (HN.out _ _ _ _ _ _ _ _ _ _ _ _ rfl).mono ?_); (rintro e w2 ⟨rfl, h2⟩)); (have H2 := hid_of h2); clear h2)
    go_ret
    exact ⟨ret_b HQ.out, (bel_alloc w _).trans (H2.out.mono (by simp))⟩
  · rw [fb0 _ _ _ _ _ hx] at HR
    obtain ⟨h1, h2, h3, h4, h5, h6, h7, h8, h9, h10⟩ := hx
    go_enter Try.func63, Try.ntmps63
    go_wp2
    go_ret
    exact ⟨ret_b HR.out.symm, bel_alloc w _⟩
end Go.Proofs.Ytoogcafceghdjaa
