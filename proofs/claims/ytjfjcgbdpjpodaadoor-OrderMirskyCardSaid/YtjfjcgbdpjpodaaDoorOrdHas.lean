/- has of the laws of order. Bounds on sizes alone. -/
import Derived.Test.YtjfjcgbdpjpodaaDoorOrdLch
namespace Go.Proofs.YtjfjcgbdpjpodaaDoor
open Go.RowKit

theorem eql_pr (s1 s2 t1 t2 : Int) (w : World) : (binOp .eql 44 (.agg #[.int .i64 s1, .int .i64 s2]) (.agg #[.int .i64 t1, .int .i64 t2])).run Tryd.prog w = .ok (.bool (decide ((s1, s2) = (t1, t2)))) w := by
  rw [run_eql_struct, eq_pr]
  by_cases q1 : s1 = t1 <;> by_cases q2 : s2 = t2 <;> simp [q1, q2, Result.andThen]
theorem eqge_pr (x y : Operand) (s t : Array Value) (w : World) : (eqGuard .eql 44 x y (.agg s) (.agg t)).run Tryd.prog w = .ok () w := run_eqGuard_agg w _ _ _ _ _ _ (by kernel_rfl)
set_option maxHeartbeats 800000 in
theorem hasP_any (ao : Option Addr) (n cap : Nat) (l : List Tk) (a b : Int) (w : World) (h : TRd w (.slice ao n cap) l) :
    Calls Tryd.prog 33 #[.slice ao n cap, .int .i64 a, .int .i64 b] w fun e w' => e = .returned (.bool (decide ((a, b) ∈ l))) ∧ w = w' := by
  obtain ⟨hn, hn1, hn2⟩ := h.cut
  obtain ⟨R, hR⟩ : ∃ R, R = decide ((a, b) ∈ l) := ⟨_, rfl⟩
  rw [← hR]
  have HR := hid_of hR
  have H := hid_of h
  have HN := hid_of hn
  clear h hn hR
  go_enter Tryd.func33, Tryd.ntmps33
  go_wp2
  go_loopw [7] (fun iv wr => ∃ k : Nat, k ≤ n ∧ iv = .int .i64 k ∧ Hid (∀ p ∈ l.take k, p ≠ (a, b)) ∧ w = wr) (fun iv _ => n - (intOf iv).toNat)
  case atStart => exact ⟨0, Nat.zero_le _, rfl, hid_of (by simp), rfl⟩
  case round =>
    obtain ⟨k, hk, rfl, hp, rfl⟩ := hrel
    by_cases hlt : k < n
    · have hd : decide (k < n) = true := by simp; omega
      obtain ⟨g, o, rfl, hg, hcell⟩ := H.out.open (by omega)
      obtain ⟨s, hs⟩ : ∃ s, l[k]? = some s := ⟨_, List.getElem?_eq_getElem (by have := HN.out; omega)⟩
      have c1 := (hcell k s hs).1
      have c2 := (hcell k s hs).2
      have HMS : Hid (s ∈ l ∧ ∀ p, p ∈ l.take (k + 1) → p ∈ l.take k ∨ p = s) := hid_of ⟨List.mem_of_getElem? hs, fun p hp => by
        rw [List.take_add_one, hs, List.mem_append] at hp
        simpa using hp⟩
      obtain ⟨s1, s2⟩ := s
      have b1 : (k : Int) < (n : Int) := by omega
      have b0 : (0 : Int) ≤ (k : Int) := by omega
      clear hcell hs
      obtain ⟨q, hq⟩ : ∃ q, q = decide ((s1, s2) = (a, b)) := ⟨_, rfl⟩
      have kn := eql_pr s1 s2 a b
      have kg := eqge_pr
      rw [← hq] at kn
      have HQ := hid_of hq
      clear hq
      cases q
      · have HE : Hid (∀ p ∈ l.take (k + 1), p ≠ (a, b)) := hid_of (fun p hp2 => by
          rcases HMS.out.2 p hp2 with h1 | h1
          · exact hp.out p h1
          · rw [h1]; intro h2; have := HQ.out; rw [decide_eq_true h2] at this; cases this)
        go_wp2
        go_roundw
        case rel => exact ⟨k + 1, by omega, by go_num, HE, by first | rfl | trivial⟩
        case measure => simp [intOf]; omega
      · have HE : Hid (R = true) := hid_of (by
          have h1 : (s1, s2) = (a, b) := by have := HQ.out; simpa using this.symm
          rw [HR.out, ← h1]
          exact decide_eq_true HMS.out.1)
        go_wp2
        go_ret
        exact ⟨by rw [HE.out]; rfl, rfl⟩
    · have hd : decide (k < n) = false := by simp; omega
      have HE : Hid (R = false) := hid_of (by
        rw [HR.out]
        refine decide_eq_false fun h1 => ?_
        have := hp.out (a, b) (by rw [List.take_of_length_le (by have := HN.out; omega)]; exact h1)
        exact this rfl)
      clear hp
      go_wp2
      go_ret
      exact ⟨by rw [HE.out]; rfl, rfl⟩
end Go.Proofs.YtjfjcgbdpjpodaaDoor
