/- The reference's Name. Bounds on sizes alone. -/
import Derived.Test.YtilokloemcphbaaLatREq
namespace Go.Proofs.Ytilokloemcphbaa
open Go.RowKit

set_option maxRecDepth 100000 in
theorem rname9_any (s : ByteArray) (w : World) (hs : s.size ≤ maxLen) : Calls Try.prog 94 #[.string s] w fun e w' => e = .returned (.bool (isName (strBytes s))) ∧ w' = w := by
  unfold maxLen at hs
  obtain ⟨r, hr⟩ : ∃ r, r = isName (strBytes s) := ⟨_, rfl⟩
  rw [← hr]
  have HR := hid_of hr
  clear hr
  by_cases h0 : s.size = 0
  · have RF : Hid (r = false) := hid_of (by
      rw [HR.out, Bool.eq_false_iff]; intro h; have := ((isName_iff _).1 h).1; rw [strBytes_length] at this; omega)
    have d0 : decide ((s.size : Int) < 1) = true := decide_eq_true (by omega)
    go_enter Try.func94, Try.ntmps94
    go_wp2
    go_ret
    exact ⟨by rw [RF.out] <;> rfl, rfl⟩
  by_cases h16 : 16 < s.size
  · have RF : Hid (r = false) := hid_of (by
      rw [HR.out, Bool.eq_false_iff]; intro h; have := ((isName_iff _).1 h).2.1; rw [strBytes_length] at this; omega)
    have d0 : decide ((s.size : Int) < 1) = false := decide_eq_false (by omega)
    have d1 : decide ((s.size : Int) > 16) = true := decide_eq_true (by omega)
    go_enter Try.func94, Try.ntmps94
    go_wp2
    go_ret
    exact ⟨by rw [RF.out] <;> rfl, rfl⟩
  have d0 : decide ((s.size : Int) < 1) = false := decide_eq_false (by omega)
  have d1 : decide ((s.size : Int) > 16) = false := decide_eq_false (by omega)
  have hp : 0 < s.size := by omega
  obtain ⟨y, hy⟩ : ∃ y : Int, y = ((s[0]).toNat : Int) := ⟨_, rfl⟩
  have HY : Hid ((strBytes s)[0]? = some y) := hid_of (by rw [strBytes_at s 0 hp, hy])
  have hys : ((s[0]).toNat : Int) = y := hy.symm
  clear hy
  have HP := hid_of hp
  have H16 := hid_of h16
  obtain ⟨q, hq⟩ : ∃ q, q = isl y := ⟨_, rfl⟩
  have HQ := hid_of hq
  have hsp : (q = true ∧ 97 ≤ y ∧ y ≤ 122) ∨ (q = false ∧ y < 97) ∨ (q = false ∧ 97 ≤ y ∧ 122 < y) := by
    rw [hq]
    by_cases h1 : 97 ≤ y
    · by_cases h2 : y ≤ 122
      · exact .inl ⟨by simp [isl]; omega, h1, h2⟩
      · exact .inr (.inr ⟨by simp [isl]; omega, h1, by omega⟩)
    · exact .inr (.inl ⟨by simp [isl]; omega, by omega⟩)
  clear hq
  rcases hsp with ⟨rfl, e1, e2⟩ | ⟨rfl, e1⟩ | ⟨rfl, e1, e2⟩
  rotate_left
  · have RF : Hid (r = false) := hid_of (by
      rw [HR.out, Bool.eq_false_iff]; intro h; have := ((isName_iff _).1 h).2.2.1 y HY.out; rw [← HQ.out] at this; exact absurd this (by simp))
    have dA : decide (y < 97) = true := decide_eq_true (by omega)
    go_enter Try.func94, Try.ntmps94
    go_wp2
    go_ret
    exact ⟨by rw [RF.out] <;> rfl, rfl⟩
  · have RF : Hid (r = false) := hid_of (by
      rw [HR.out, Bool.eq_false_iff]; intro h; have := ((isName_iff _).1 h).2.2.1 y HY.out; rw [← HQ.out] at this; exact absurd this (by simp))
    have dA : decide (y < 97) = false := decide_eq_false (by omega)
    have dB : decide (y > 122) = true := decide_eq_true (by omega)
    go_enter Try.func94, Try.ntmps94
    go_wp2
    go_ret
    exact ⟨by rw [RF.out] <;> rfl, rfl⟩
  have dA : decide (y < 97) = false := decide_eq_false (by omega)
  have dB : decide (y > 122) = false := decide_eq_false (by omega)
  go_enter Try.func94, Try.ntmps94
  go_wp2
  clear hys
  go_loopw [3] (fun iv wr => ∃ (i : Nat), i ≤ s.size ∧ iv = .int .i64 i ∧ wr = w ∧ Hid (∀ (j : Nat) (c : Int), j < i → (strBytes s)[j]? = some c → inw c = true)) (fun iv _ => s.size - (intOf iv).toNat)
  case atStart => exact ⟨0, Nat.zero_le _, rfl, rfl, hid_of (fun j c hj => by omega)⟩
  case round =>
    obtain ⟨i, hi, rfl, rfl, hall⟩ := hrel
    have HALL := hid_of hall.out
    clear hall
    by_cases hlt : i < s.size
    · obtain ⟨x, hx⟩ : ∃ x : Int, x = ((s[i]).toNat : Int) := ⟨_, rfl⟩
      have HX : Hid ((strBytes s)[i]? = some x) := hid_of (by rw [strBytes_at s i hlt, hx])
      have hxs : ((s[i]).toNat : Int) = x := hx.symm
      clear hx
      have HLT := hid_of hlt
      have hcs : (97 ≤ x ∧ x ≤ 122) ∨ (48 ≤ x ∧ x ≤ 57) ∨ (x = 45) ∨ (x < 48 ∧ x ≠ 45) ∨ (57 < x ∧ x < 97) ∨ (122 < x) := by omega
      rcases hcs with hcs | hcs | hcs | hcs | hcs | hcs
      · have HI : Hid (inw x = true) := hid_of (by unfold inw isl; simp; omega)
        have ta : decide (x < 97) = false := by simp; omega
        have tb : decide (x > 122) = false := by simp; omega
        clear hcs
        go_wp2
        go_roundw
        case rel => have := HLT.out; exact ⟨i + 1, by omega, by go_num, trivial, hid_of (fun j c hj hc => by
          by_cases e : j = i
          · subst e; rw [HX.out] at hc; cases hc; exact HI.out
          · exact HALL.out j c (by omega) hc)⟩
        case measure => have := HLT.out; simp [intOf]; omega
      · have HI : Hid (inw x = true) := hid_of (by unfold inw isl; simp; omega)
        have ta : decide (x < 97) = true := by simp; omega
        have tc : decide (x < 48) = false := by simp; omega
        have td : decide (x > 57) = false := by simp; omega
        clear hcs
        go_wp2
        go_roundw
        case rel => have := HLT.out; exact ⟨i + 1, by omega, by go_num, trivial, hid_of (fun j c hj hc => by
          by_cases e : j = i
          · subst e; rw [HX.out] at hc; cases hc; exact HI.out
          · exact HALL.out j c (by omega) hc)⟩
        case measure => have := HLT.out; simp [intOf]; omega
      · have HI : Hid (inw x = true) := hid_of (by unfold inw isl; simp; omega)
        have ta : decide (x < 97) = true := by simp; omega
        have tc : decide (x < 48) = true := by simp; omega
        have te : (x != 45) = false := by simp; omega
        clear hcs
        go_wp2
        go_roundw
        case rel => have := HLT.out; exact ⟨i + 1, by omega, by go_num, trivial, hid_of (fun j c hj hc => by
          by_cases e : j = i
          · subst e; rw [HX.out] at hc; cases hc; exact HI.out
          · exact HALL.out j c (by omega) hc)⟩
        case measure => have := HLT.out; simp [intOf]; omega
      · have HI : Hid (inw x = false) := hid_of (by unfold inw isl; simp; omega)
        have ta : decide (x < 97) = true := by simp; omega
        have tc : decide (x < 48) = true := by simp; omega
        have te : (x != 45) = true := by simp; omega
        clear hcs
        have RF : Hid (r = false) := hid_of (by
          rw [HR.out, Bool.eq_false_iff]; intro h; have := ((isName_iff _).1 h).2.2.2 i x HX.out; rw [HI.out] at this; exact absurd this (by simp))
        go_wp2
        go_ret
        exact ⟨by rw [RF.out] <;> rfl, rfl⟩
      · have HI : Hid (inw x = false) := hid_of (by unfold inw isl; simp; omega)
        have ta : decide (x < 97) = true := by simp; omega
        have tc : decide (x < 48) = false := by simp; omega
        have td : decide (x > 57) = true := by simp; omega
        have te : (x != 45) = true := by simp; omega
        clear hcs
        have RF : Hid (r = false) := hid_of (by
          rw [HR.out, Bool.eq_false_iff]; intro h; have := ((isName_iff _).1 h).2.2.2 i x HX.out; rw [HI.out] at this; exact absurd this (by simp))
        go_wp2
        go_ret
        exact ⟨by rw [RF.out] <;> rfl, rfl⟩
      · have HI : Hid (inw x = false) := hid_of (by unfold inw isl; simp; omega)
        have ta : decide (x < 97) = false := by simp; omega
        have tb : decide (x > 122) = true := by simp; omega
        have tc : decide (x < 48) = false := by simp; omega
        have td : decide (x > 57) = true := by simp; omega
        have te : (x != 45) = true := by simp; omega
        clear hcs
        have RF : Hid (r = false) := hid_of (by
          rw [HR.out, Bool.eq_false_iff]; intro h; have := ((isName_iff _).1 h).2.2.2 i x HX.out; rw [HI.out] at this; exact absurd this (by simp))
        go_wp2
        go_ret
        exact ⟨by rw [RF.out] <;> rfl, rfl⟩
    · obtain rfl : s.size = i := by omega
      have RT : Hid (r = true) := hid_of (by
        rw [HR.out, isName_iff, strBytes_length]
        exact ⟨HP.out, by have := H16.out; omega, fun c hc => by rw [HY.out] at hc; cases hc; exact HQ.out.symm, fun j c hc => HALL.out j c (by have := (List.getElem?_eq_some_iff.1 hc).1; rw [strBytes_length] at this; exact this) hc⟩)
      go_wp2
      go_ret
      exact ⟨by rw [RT.out] <;> rfl, rfl⟩
end Go.Proofs.Ytilokloemcphbaa
