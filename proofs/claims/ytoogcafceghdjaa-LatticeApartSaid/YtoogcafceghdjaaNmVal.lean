/- Valid of package names, and of its reference. No condition. -/
import Derived.Test.YtoogcafceghdjaaNmChr
namespace Go.Proofs.Ytoogcafceghdjaa
open Go.RowKit

theorem isName_iff (l : List Int) : isName l = true ↔ 0 < l.length ∧ l.length ≤ 16 ∧ (∀ c : Int, l[0]? = some c → isl c = true) ∧ ∀ (j : Nat) (c : Int), l[j]? = some c → inw c = true := by
  cases l with
  | nil => simp [isName]
  | cons c l =>
    have h : (∀ (j : Nat) (y : Int), (c :: l)[j]? = some y → inw y = true) ↔ (c :: l).all inw = true := by
      rw [List.all_eq_true]
      constructor
      · intro h y hy
        obtain ⟨j, hj⟩ := List.getElem?_of_mem hy
        exact h j y hj
      · intro h j y hj
        exact h y (List.mem_of_getElem? hj)
    rw [h]
    simp only [isName, Bool.and_eq_true, decide_eq_true_eq, List.length_cons]
    constructor
    · rintro ⟨⟨h1, h2⟩, h3⟩
      exact ⟨by omega, by omega, fun y hy => by simp at hy; rw [← hy]; exact h2, h3⟩
    · rintro ⟨_, h1, h2, h3⟩
      exact ⟨⟨by omega, h2 c (by simp)⟩, h3⟩

set_option maxRecDepth 100000 in
theorem valid_any (s : ByteArray) (w : World) (hs : s.size ≤ maxLen) : Calls Try.prog 80 #[.string s] w fun e w' => e = .returned (.bool (isName (strBytes s))) ∧ w' = w := by
  unfold maxLen at hs
  obtain ⟨r, hr⟩ : ∃ r, r = isName (strBytes s) := ⟨_, rfl⟩
  rw [← hr]
  have HR := hid_of hr
  have LET := hid_of isLetter_any
  have INW := hid_of inWord_any
  clear hr
  by_cases h0 : s.size = 0
  · have RF : Hid (r = false) := hid_of (by
      rw [HR.out, Bool.eq_false_iff]; intro h; have := ((isName_iff _).1 h).1; rw [strBytes_length] at this; omega)
    have d0 : decide ((s.size : Int) = 0) = true := decide_eq_true (by omega)
    go_enter Try.func80, Try.ntmps80
    go_wp2
    go_ret
    exact ⟨by rw [RF.out] <;> rfl, rfl⟩
  by_cases h16 : 16 < s.size
  · have RF : Hid (r = false) := hid_of (by
      rw [HR.out, Bool.eq_false_iff]; intro h; have := ((isName_iff _).1 h).2.1; rw [strBytes_length] at this; omega)
    have d0 : decide ((s.size : Int) = 0) = false := decide_eq_false (by omega)
    have d1 : decide ((s.size : Int) > 16) = true := decide_eq_true (by omega)
    go_enter Try.func80, Try.ntmps80
    go_wp2
    go_ret
    exact ⟨by rw [RF.out] <;> rfl, rfl⟩
  have d0 : decide ((s.size : Int) = 0) = false := decide_eq_false (by omega)
  have d1 : decide ((s.size : Int) > 16) = false := decide_eq_false (by omega)
  have d0b : ((s.size : Int) == 0) = false := beq_eq_false_iff_ne.2 (by omega)
  have hp : 0 < s.size := by omega
  obtain ⟨y, hy⟩ : ∃ y : Int, y = ((s[0]).toNat : Int) := ⟨_, rfl⟩
  have HY : Hid ((strBytes s)[0]? = some y) := hid_of (by rw [strBytes_at s 0 hp, hy])
  have hys : ((s[0]).toNat : Int) = y := hy.symm
  clear hy
  have HP := hid_of hp
  have H16 := hid_of h16
  obtain ⟨q, hq⟩ : ∃ q, q = isl y := ⟨_, rfl⟩
  have LY : Hid (∀ w, Calls Try.prog 87 #[.int .u8 y] w fun e w' => e = .returned (.bool q) ∧ w = w') := hid_of (fun w => by rw [hq]; exact (isLetter_any y w).mono fun _ _ h => ⟨h.1, h.2.symm⟩)
  have HQ := hid_of hq
  clear hq
  cases q
  · have RF : Hid (r = false) := hid_of (by
      rw [HR.out, Bool.eq_false_iff]; intro h; have := ((isName_iff _).1 h).2.2.1 y HY.out; rw [← HQ.out] at this; exact absurd this (by simp))
    go_enter Try.func80, Try.ntmps80
    go_wp2_with (go_at_call 87; ((with_reducible refine (LY.out w).mono ?_); (rintro e w' ⟨rfl, rfl⟩)))
    go_ret
    exact ⟨by rw [RF.out] <;> rfl, rfl⟩
  go_enter Try.func80, Try.ntmps80
  go_wp2_with (go_at_call 87; ((with_reducible refine (LY.out w).mono ?_); (rintro e w' ⟨rfl, rfl⟩)))
  clear hys
  go_loopw [3, 20] (fun xv iv wr => ∃ (i : Nat) (v : Value), xv = v ∧ i ≤ s.size ∧ iv = .int .i64 i ∧ wr = w ∧ Hid (∀ (j : Nat) (c : Int), j < i → (strBytes s)[j]? = some c → inw c = true)) (fun _ iv _ => s.size - (intOf iv).toNat)
  case atStart => exact ⟨0, _, rfl, Nat.zero_le _, rfl, rfl, hid_of (fun j c hj => by omega)⟩
  case round =>
    obtain ⟨i, v, rfl, hi, rfl, rfl, hall⟩ := hrel
    have HALL := hid_of hall.out
    clear hall
    by_cases hlt : i < s.size
    · obtain ⟨x, hx⟩ : ∃ x : Int, x = ((s[i]).toNat : Int) := ⟨_, rfl⟩
      have HX : Hid ((strBytes s)[i]? = some x) := hid_of (by rw [strBytes_at s i hlt, hx])
      have hxs : ((s[i]).toNat : Int) = x := hx.symm
      clear hx
      have HLT := hid_of hlt
      obtain ⟨q, hq⟩ : ∃ q, q = inw x := ⟨_, rfl⟩
      have IX : Hid (∀ w, Calls Try.prog 88 #[.int .u8 x] w fun e w' => e = .returned (.bool q) ∧ w = w') := hid_of (fun w => by rw [hq]; exact (inWord_any x w).mono fun _ _ h => ⟨h.1, h.2.symm⟩)
      have HQX := hid_of hq
      clear hq
      cases q
      · have RF : Hid (r = false) := hid_of (by
          rw [HR.out, Bool.eq_false_iff]; intro h; have := ((isName_iff _).1 h).2.2.2 i x HX.out; rw [← HQX.out] at this; exact absurd this (by simp))
        go_wp2_with (go_at_call 88; ((with_reducible refine (IX.out _).mono ?_); (rintro e w' ⟨rfl, rfl⟩)))
        go_ret
        exact ⟨by rw [RF.out] <;> rfl, rfl⟩
      · go_wp2_with (go_at_call 88; ((with_reducible refine (IX.out _).mono ?_); (rintro e w' ⟨rfl, rfl⟩)))
        go_roundw
        case rel => have := HLT.out; exact ⟨i + 1, _, rfl, by omega, by go_num, trivial, hid_of (fun j c hj hc => by
          by_cases e : j = i
          · subst e; rw [HX.out] at hc; cases hc; exact HQX.out.symm
          · exact HALL.out j c (by omega) hc)⟩
        case measure => have := HLT.out; simp [intOf]; omega
    · obtain rfl : s.size = i := by omega
      have RT : Hid (r = true) := hid_of (by
        rw [HR.out, isName_iff, strBytes_length]
        exact ⟨HP.out, by have := H16.out; omega, fun c hc => by rw [HY.out] at hc; cases hc; exact HQ.out.symm, fun j c hc => HALL.out j c (by have := (List.getElem?_eq_some_iff.1 hc).1; rw [strBytes_length] at this; exact this) hc⟩)
      go_wp2
      go_ret
      exact ⟨by rw [RT.out] <;> rfl, rfl⟩
end Go.Proofs.Ytoogcafceghdjaa
