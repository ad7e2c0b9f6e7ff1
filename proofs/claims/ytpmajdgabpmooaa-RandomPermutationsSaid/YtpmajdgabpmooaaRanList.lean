/- Lists of ints: numbers, equality, the test of a permutation, the rank. Bounds on sizes alone. -/
import Derived.Test.YtpmajdgabpmooaaRanSrc
import Derived.Test.YtpmajdgabpmooaaRanRank
namespace Go.Proofs.Ytpmajdgabpmooaa
open Go.RowKit

theorem intsE : Elem Try.prog 34 3 (.int .i64 0) 8 := ⟨Try.underlying34, by kernel_rfl, rfl⟩
/-- The cells of a list of ints. -/
def is (l : List Int) : List Value := l.map (Value.int .i64)
theorem is_length (l : List Int) : (is l).length = l.length := by simp [is]
theorem is_one (l : List Int) : ∀ u ∈ is l, u.oneCell' = true := by
  intro v hv; simp [is] at hv; obtain ⟨x, _, rfl⟩ := hv; rfl
theorem is_append (a b : List Int) : is (a ++ b) = is a ++ is b := by simp [is]
theorem is_at {l : List Int} {j : Nat} (h : j < l.length) : (is l)[j]? = some (.int .i64 (l.getD j 0)) := by simp [is, List.getD, h]

/-- A slice of ints that reads as l, taken apart. -/
theorem rd_open {w : World} {ao : Option Addr} {n cap : Nat} {l : List Int} (h : Rd w (.slice ao n cap) (is l)) :
    n = l.length ∧ n ≤ cap ∧ cap ≤ 9223372036854775807 ∧ (n = 0 ∨ ∃ g o, ao = some ⟨g, o, none⟩ ∧ g < w.heap.size ∧ ∀ j, j < n → w.cell? ⟨g, o + j, none⟩ = some (.int .i64 (l.getD j 0))) := by
  obtain ⟨a2, c2, h1, h2, h3, h4⟩ := h
  simp only [Value.slice.injEq, is_length] at h1 h2
  obtain ⟨rfl, rfl, rfl⟩ := h1
  refine ⟨rfl, h2, h3, ?_⟩
  rcases Nat.eq_zero_or_pos l.length with h0 | h0
  · exact .inl h0
  · obtain ⟨g, o, q1, q2, q3⟩ := h4 (by rw [is_length]; exact h0)
    exact .inr ⟨g, o, q1, q2, fun j hj => q3 j _ (is_at hj)⟩

theorem same_yes (a0 b0 : Option Addr) (n ca cb : Nat) (l : List Int) (w : World) (Ra : Rd w (.slice a0 n ca) (is l)) (Rb : Rd w (.slice b0 n cb) (is l)) :
    Calls Try.prog 24 #[.slice a0 n ca, .slice b0 n cb] w fun e w' => e = .returned (.bool true) ∧ Below w.heap.size w w' := by
  obtain ⟨hn, h1, h2, h3⟩ := rd_open Ra
  obtain ⟨_, h4, h5, h6⟩ := rd_open Rb
  have hne : ((n : Int) != (n : Int)) = false := by simp
  have HN := hid_of hn
  clear hn Ra Rb
  rcases h3 with h3 | ⟨g, o, rfl, hg, hc⟩
  · have H3 := hid_of h3
    clear h3
    go_enter Try.func24, Try.ntmps24
    go_wp2
    go_loopw [5] (fun iv wr => ∃ k : Nat, k ≤ n ∧ iv = .int .i64 k ∧ w = wr) (fun iv _ => n - (intOf iv).toNat)
    case atStart => exact ⟨0, Nat.zero_le _, rfl, rfl⟩
    case round =>
      obtain ⟨k, hk, rfl, rfl⟩ := hrel
      have hge : ¬ k < n := by have := H3.out; omega
      go_wp2
      go_ret
      exact ⟨rfl, Below.refl _ _⟩
  · rcases h6 with h6 | ⟨g2, o2, rfl, hg2, hc2⟩
    · have H3 := hid_of h6
      clear h6
      go_enter Try.func24, Try.ntmps24
      go_wp2
      go_loopw [5] (fun iv wr => ∃ k : Nat, k ≤ n ∧ iv = .int .i64 k ∧ w = wr) (fun iv _ => n - (intOf iv).toNat)
      case atStart => exact ⟨0, Nat.zero_le _, rfl, rfl⟩
      case round =>
        obtain ⟨k, hk, rfl, rfl⟩ := hrel
        have hge : ¬ k < n := by have := H3.out; omega
        go_wp2
        go_ret
        exact ⟨rfl, Below.refl _ _⟩
    · have HC := hid_of hc
      have HC2 := hid_of hc2
      clear hc hc2
      go_enter Try.func24, Try.ntmps24
      go_wp2
      go_loopw [5] (fun iv wr => ∃ k : Nat, k ≤ n ∧ iv = .int .i64 k ∧ Hid (Below w.heap.size w wr)) (fun iv _ => n - (intOf iv).toNat)
      case atStart => exact ⟨0, Nat.zero_le _, rfl, hid_of (Below.refl _ _)⟩
      case round =>
        obtain ⟨k, hk, rfl, hb⟩ := hrel
        by_cases hlt : k < n
        · have c1 := (hb.out.cell (p := ⟨g, o + k, none⟩) hg).trans (HC.out k hlt)
          have c2 := (hb.out.cell (p := ⟨g2, o2 + k, none⟩) hg2).trans (HC2.out k hlt)
          generalize l.getD k 0 = x at *
          have b1 : (k : Int) < (n : Int) := by omega
          have b0 : (0 : Int) ≤ (k : Int) := by omega
          have hx : (x != x) = false := by simp
          go_wp2
          go_quiet (fail)
          go_wp2
          go_roundw
          case rel => exact ⟨k + 1, by omega, by go_num, hid_of (bel_drewN hb.out _)⟩
          case measure => simp [intOf]; omega
        · obtain rfl : k = n := by omega
          go_wp2
          go_ret
          exact ⟨rfl, hb.out⟩
end Go.Proofs.Ytpmajdgabpmooaa
