/- The reference asks who is in a list of strings. Bounds on sizes alone. -/
import Derived.Test.YtjponegeidiheaaNmStr
namespace Go.Proofs.Ytjponegeidiheaa
open Go.RowKit

set_option maxRecDepth 100000 in
theorem rhas_any (ao : Option Addr) (n cap : Nat) (l : List Str) (x : Str) (w : World) (R : Rd w (.slice ao n cap) (ss l)) :
    Calls Try.prog 26 #[.slice ao n cap, .string (ba x)] w fun e w' => e = .returned (.bool (decide (x ∈ l))) ∧ w = w' := by
  obtain ⟨hn, h1, h2, h3⟩ := rds_open R
  obtain ⟨r, hr⟩ : ∃ r, r = decide (x ∈ l) := ⟨_, rfl⟩
  rw [← hr]
  have HR := hid_of hr
  have HN := hid_of hn
  clear hr R hn
  obtain ⟨bx, hbx⟩ : ∃ bx, bx = ba x := ⟨_, rfl⟩
  rw [← hbx]
  have HBX := hid_of hbx
  clear hbx
  rcases h3 with h3 | ⟨g, o, rfl, hg, hc⟩
  · have RF : Hid (r = false) := hid_of (by rw [HR.out, h3]; simp)
    obtain rfl : n = 0 := by rw [HN.out, h3]; rfl
    clear h3 HN
    go_enter Try.func26, Try.ntmps26
    go_wp2
    go_loop [5] (fun iv => iv = .int .i64 0) (fun iv => 0)
    case atStart => exact rfl
    case round =>
      obtain rfl := hrel
      go_wp2
      go_ret
      exact ⟨by rw [RF.out] <;> rfl, rfl⟩
  · have HC := hid_of hc
    clear hc
    go_enter Try.func26, Try.ntmps26
    go_wp2
    go_loop [5] (fun iv => ∃ k : Nat, k ≤ n ∧ iv = .int .i64 k ∧ Hid (x ∉ l.take k)) (fun iv => n - (intOf iv).toNat)
    case atStart => exact ⟨0, Nat.zero_le _, rfl, hid_of (by simp)⟩
    case round =>
      obtain ⟨k, hk, rfl, hx⟩ := hrel
      by_cases hlt : k < n
      · have hd : decide (k < n) = true := by simp; omega
        have hkl : Hid (k < l.length) := hid_of (by have := HN.out; omega)
        obtain ⟨bb, hb⟩ : ∃ bb, bb = ba (l[k]'hkl.out) := ⟨_, rfl⟩
        have c1 := HC.out k (l[k]'hkl.out) (List.getElem?_eq_getElem hkl.out)
        rw [← hb] at c1
        by_cases e : l[k]'hkl.out = x
        · have t1 := eq_t hb HBX.out e
          have RF : Hid (r = true) := hid_of (by rw [HR.out, ← e]; simp)
          clear hb e
          go_wp2
          go_ret
          exact ⟨by rw [RF.out] <;> rfl, rfl⟩
        · have t1 := eq_f hb HBX.out e
          have hx2 := hid_of (take_not hkl.out hx.out e)
          clear hb e
          go_wp2
          go_round
          case rel => exact ⟨k + 1, by omega, by go_num, hx2⟩
          case measure => simp [intOf]; omega
      · have hd : decide (k < n) = false := by simp; omega
        have RF : Hid (r = false) := hid_of (by
          rw [HR.out]; have := hx.out; rw [List.take_of_length_le (by have := HN.out; omega)] at this; exact decide_eq_false this)
        go_wp2
        go_ret
        exact ⟨by rw [RF.out] <;> rfl, rfl⟩
end Go.Proofs.Ytjponegeidiheaa
