/- The reference's Name, Set, Rule, Check. Bounds on sizes alone. -/
import Derived.Test.YtjponegeidiheaaClsHvy
import Derived.Test.YtjponegeidiheaaClsSrt
import Derived.Test.YtjponegeidiheaaClsEnt
namespace Go.Proofs.Ytjponegeidiheaa
open Go.RowKit

set_option maxRecDepth 100000 in
theorem rname_any (s : ByteArray) (w : World) (hs : s.size ≤ maxLen) : Calls Try.prog 42 #[.string s] w fun e w' => e = .returned (.bool (isName (strBytes s))) ∧ w' = w := by
  unfold maxLen at hs
  obtain ⟨r, hr⟩ : ∃ r, r = isName (strBytes s) := ⟨_, rfl⟩
  rw [← hr]
  have HR := hid_of hr
  clear hr
  by_cases h0 : s.size = 0
  · have RF : Hid (r = false) := hid_of (by
      rw [HR.out, Bool.eq_false_iff]; intro h; have := ((isName_iff _).1 h).1; rw [strBytes_length] at this; omega)
    have d0 : decide ((s.size : Int) < 1) = true := decide_eq_true (by omega)
    go_enter Try.func42, Try.ntmps42
    go_wp2
    go_ret
    exact ⟨by rw [RF.out] <;> rfl, rfl⟩
  by_cases h16 : 16 < s.size
  · have RF : Hid (r = false) := hid_of (by
      rw [HR.out, Bool.eq_false_iff]; intro h; have := ((isName_iff _).1 h).2.1; rw [strBytes_length] at this; omega)
    have d0 : decide ((s.size : Int) < 1) = false := decide_eq_false (by omega)
    have d1 : decide ((s.size : Int) > 16) = true := decide_eq_true (by omega)
    go_enter Try.func42, Try.ntmps42
    go_wp2
    go_ret
    exact ⟨by rw [RF.out] <;> rfl, rfl⟩
  have d0 : decide ((s.size : Int) < 1) = false := decide_eq_false (by omega)
  have d1 : decide ((s.size : Int) > 16) = false := decide_eq_false (by omega)
  have hp : 0 < s.size := by omega
  obtain ⟨y, hy⟩ : ∃ y : Int, y = ((s[0]).toNat : Int) := ⟨_, rfl⟩
  have HY : Hid ((strBytes s)[0]? = some y) := hid_of (by rw [strBytes_at s 0 hp, hy])
  have hys : ((s[0]).toNat : Int) = y := hy.symm
  clear hy
  have HP := hid_of hp
  have H16 := hid_of h16
  obtain ⟨q, hq⟩ : ∃ q, q = isl y := ⟨_, rfl⟩
  have HQ := hid_of hq
  have hsp : (q = true ∧ 97 ≤ y ∧ y ≤ 122) ∨ (q = false ∧ y < 97) ∨ (q = false ∧ 97 ≤ y ∧ 122 < y) := by
    rw [hq]
    by_cases h1 : 97 ≤ y
    · by_cases h2 : y ≤ 122
      · exact .inl ⟨by simp [isl]; omega, h1, h2⟩
      · exact .inr (.inr ⟨by simp [isl]; omega, h1, by omega⟩)
    · exact .inr (.inl ⟨by simp [isl]; omega, by omega⟩)
  clear hq
  rcases hsp with ⟨rfl, e1, e2⟩ | ⟨rfl, e1⟩ | ⟨rfl, e1, e2⟩
  rotate_left
  · have RF : Hid (r = false) := hid_of (by
      rw [HR.out, Bool.eq_false_iff]; intro h; have := ((isName_iff _).1 h).2.2.1 y HY.out; rw [← HQ.out] at this; exact absurd this (by simp))
    have dA : decide (y < 97) = true := decide_eq_true (by omega)
    go_enter Try.func42, Try.ntmps42
    go_wp2
    go_ret
    exact ⟨by rw [RF.out] <;> rfl, rfl⟩
  · have RF : Hid (r = false) := hid_of (by
      rw [HR.out, Bool.eq_false_iff]; intro h; have := ((isName_iff _).1 h).2.2.1 y HY.out; rw [← HQ.out] at this; exact absurd this (by simp))
    have dA : decide (y < 97) = false := decide_eq_false (by omega)
    have dB : decide (y > 122) = true := decide_eq_true (by omega)
    go_enter Try.func42, Try.ntmps42
    go_wp2
    go_ret
    exact ⟨by rw [RF.out] <;> rfl, rfl⟩
  have dA : decide (y < 97) = false := decide_eq_false (by omega)
  have dB : decide (y > 122) = false := decide_eq_false (by omega)
  go_enter Try.func42, Try.ntmps42
  go_wp2
  clear hys
  go_loopw [3] (fun iv wr => ∃ (i : Nat), i ≤ s.size ∧ iv = .int .i64 i ∧ wr = w ∧ Hid (∀ (j : Nat) (c : Int), j < i → (strBytes s)[j]? = some c → inw c = true)) (fun iv _ => s.size - (intOf iv).toNat)
  case atStart => exact ⟨0, Nat.zero_le _, rfl, rfl, hid_of (fun j c hj => by omega)⟩
  case round =>
    obtain ⟨i, hi, rfl, rfl, hall⟩ := hrel
    have HALL := hid_of hall.out
    clear hall
    by_cases hlt : i < s.size
    · obtain ⟨x, hx⟩ : ∃ x : Int, x = ((s[i]).toNat : Int) := ⟨_, rfl⟩
      have HX : Hid ((strBytes s)[i]? = some x) := hid_of (by rw [strBytes_at s i hlt, hx])
      have hxs : ((s[i]).toNat : Int) = x := hx.symm
      clear hx
      have HLT := hid_of hlt
      have hcs : (97 ≤ x ∧ x ≤ 122) ∨ (48 ≤ x ∧ x ≤ 57) ∨ (x = 45) ∨ (x < 48 ∧ x ≠ 45) ∨ (57 < x ∧ x < 97) ∨ (122 < x) := by omega
      rcases hcs with hcs | hcs | hcs | hcs | hcs | hcs
      · have HI : Hid (inw x = true) := hid_of (by unfold inw isl; simp; omega)
        have ta : decide (x < 97) = false := by simp; omega
        have tb : decide (x > 122) = false := by simp; omega
        clear hcs
        go_wp2
        go_roundw
        case rel => have := HLT.out; exact ⟨i + 1, by omega, by go_num, trivial, hid_of (fun j c hj hc => by
          by_cases e : j = i
          · subst e; rw [HX.out] at hc; cases hc; exact HI.out
          · exact HALL.out j c (by omega) hc)⟩
        case measure => have := HLT.out; simp [intOf]; omega
      · have HI : Hid (inw x = true) := hid_of (by unfold inw isl; simp; omega)
        have ta : decide (x < 97) = true := by simp; omega
        have tc : decide (x < 48) = false := by simp; omega
        have td : decide (x > 57) = false := by simp; omega
        clear hcs
        go_wp2
        go_roundw
        case rel => have := HLT.out; exact ⟨i + 1, by omega, by go_num, trivial, hid_of (fun j c hj hc => by
          by_cases e : j = i
          · subst e; rw [HX.out] at hc; cases hc; exact HI.out
          · exact HALL.out j c (by omega) hc)⟩
        case measure => have := HLT.out; simp [intOf]; omega
      · have HI : Hid (inw x = true) := hid_of (by unfold inw isl; simp; omega)
        have ta : decide (x < 97) = true := by simp; omega
        have tc : decide (x < 48) = true := by simp; omega
        have te : (x != 45) = false := by simp; omega
        clear hcs
        go_wp2
        go_roundw
        case rel => have := HLT.out; exact ⟨i + 1, by omega, by go_num, trivial, hid_of (fun j c hj hc => by
          by_cases e : j = i
          · subst e; rw [HX.out] at hc; cases hc; exact HI.out
          · exact HALL.out j c (by omega) hc)⟩
        case measure => have := HLT.out; simp [intOf]; omega
      · have HI : Hid (inw x = false) := hid_of (by unfold inw isl; simp; omega)
        have ta : decide (x < 97) = true := by simp; omega
        have tc : decide (x < 48) = true := by simp; omega
        have te : (x != 45) = true := by simp; omega
        clear hcs
        have RF : Hid (r = false) := hid_of (by
          rw [HR.out, Bool.eq_false_iff]; intro h; have := ((isName_iff _).1 h).2.2.2 i x HX.out; rw [HI.out] at this; exact absurd this (by simp))
        go_wp2
        go_ret
        exact ⟨by rw [RF.out] <;> rfl, rfl⟩
      · have HI : Hid (inw x = false) := hid_of (by unfold inw isl; simp; omega)
        have ta : decide (x < 97) = true := by simp; omega
        have tc : decide (x < 48) = false := by simp; omega
        have td : decide (x > 57) = true := by simp; omega
        have te : (x != 45) = true := by simp; omega
        clear hcs
        have RF : Hid (r = false) := hid_of (by
          rw [HR.out, Bool.eq_false_iff]; intro h; have := ((isName_iff _).1 h).2.2.2 i x HX.out; rw [HI.out] at this; exact absurd this (by simp))
        go_wp2
        go_ret
        exact ⟨by rw [RF.out] <;> rfl, rfl⟩
      · have HI : Hid (inw x = false) := hid_of (by unfold inw isl; simp; omega)
        have ta : decide (x < 97) = false := by simp; omega
        have tb : decide (x > 122) = true := by simp; omega
        have tc : decide (x < 48) = false := by simp; omega
        have td : decide (x > 57) = true := by simp; omega
        have te : (x != 45) = true := by simp; omega
        clear hcs
        have RF : Hid (r = false) := hid_of (by
          rw [HR.out, Bool.eq_false_iff]; intro h; have := ((isName_iff _).1 h).2.2.2 i x HX.out; rw [HI.out] at this; exact absurd this (by simp))
        go_wp2
        go_ret
        exact ⟨by rw [RF.out] <;> rfl, rfl⟩
    · obtain rfl : s.size = i := by omega
      have RT : Hid (r = true) := hid_of (by
        rw [HR.out, isName_iff, strBytes_length]
        exact ⟨HP.out, by have := H16.out; omega, fun c hc => by rw [HY.out] at hc; cases hc; exact HQ.out.symm, fun j c hc => HALL.out j c (by have := (List.getElem?_eq_some_iff.1 hc).1; rw [strBytes_length] at this; exact this) hc⟩)
      go_wp2
      go_ret
      exact ⟨by rw [RT.out] <;> rfl, rfl⟩

set_option maxRecDepth 100000 in
theorem rset_any (uo : Option Addr) (un uc : Nat) (U : List Str) (so : Option Addr) (sn sc : Nat) (s : List Str) (w : World) (hU : Rd w (.slice uo un uc) (ss U)) (hS : Rd w (.slice so sn sc) (ss s)) :
    Calls Try.prog 19 #[.slice uo un uc, .slice so sn sc] w fun e w' => e = .returned (.int .i64 (setE U s : Nat)) ∧ Below w.heap.size w w' := by
  obtain ⟨b, hb⟩ : ∃ b, b = ssB s := ⟨_, rfl⟩
  obtain ⟨c, hc⟩ : ∃ c, c = subB s U := ⟨_, rfl⟩
  have HA : Hid (Calls Try.prog 43 #[.slice so sn sc] w fun e w' => e = .returned (.bool b) ∧ Below w.heap.size w w') := hid_of (by rw [hb]; exact rsorted_any so sn sc s w hS)
  have HB : Hid (∀ W, Below w.heap.size w W → Calls Try.prog 25 #[.slice so sn sc, .slice uo un uc] W fun e w' => e = .returned (.bool c) ∧ W = w') := hid_of (fun W h => by rw [hc]; exact rsub_any so sn sc s uo un uc U W (hS.at h) (hU.at h))
  obtain ⟨q, hq⟩ : ∃ q, q = setE U s := ⟨_, rfl⟩
  rw [← hq]
  have HQ : Hid (q = if b = true then (if c = true then 0 else 3) else 1) := hid_of (by
    rw [hq, hb, hc]
    unfold setE ssB
    by_cases h1 : SS s
    · rw [if_neg (by simpa using h1)]
      by_cases h2 : ∀ x ∈ s, x ∈ U
      · rw [if_neg (by simpa using h2), decide_eq_true h1, subB_iff.2 h2]; rfl
      · rw [if_pos h2, decide_eq_true h1]
        have : subB s U = false := by rw [Bool.eq_false_iff]; intro h; exact h2 (subB_iff.1 h)
        rw [this]; rfl
    · rw [if_pos h1, decide_eq_false h1]; rfl)
  clear hU hS hb hc hq
  cases b <;> cases c
  all_goals
    go_enter Try.func19, Try.ntmps19
    go_wp2_with (first
      | (go_at_call 43; ((with_reducible refine (HA.out).mono ?_); (rintro ee w1 ⟨rfl, q1⟩)); have B1 := hid_of q1; clear q1)
      | (go_at_call 25; ((with_reducible refine (HB.out w1 B1.out).mono ?_); (rintro ee w' ⟨rfl, rfl⟩))))
    go_ret
    exact ⟨by rw [HQ.out]; rfl, B1.out⟩

set_option maxRecDepth 100000 in
theorem rrule_any (uo : Option Addr) (un uc : Nat) (U : List Str) (po : Option Addr) (pn pc : Nat) (p : List Str) (x : Str) (w : World) (hU : Rd w (.slice uo un uc) (ss U)) (hp : Rd w (.slice po pn pc) (ss p)) :
    Calls Try.prog 27 #[.slice uo un uc, .agg #[.slice po pn pc, .string (ba x)]] w fun e w' => e = .returned (.int .i64 (ruE U (p, x) : Nat)) ∧ Below w.heap.size w w' := by
  obtain ⟨bx, ebx⟩ : ∃ bx, bx = ba x := ⟨_, rfl⟩
  have B := bel_alloc w (.cells #[.slice po pn pc, .string (ba x)] 41)
  have e0 := heap_alloc_new w (.cells #[.slice po pn pc, .string (ba x)] 41)
  obtain ⟨s, hs⟩ : ∃ s, s = setE U p := ⟨_, rfl⟩
  obtain ⟨b, hb⟩ : ∃ b, b = decide (x ∈ U) := ⟨_, rfl⟩
  obtain ⟨q, hq⟩ : ∃ q, q = ruE U (p, x) := ⟨_, rfl⟩
  rw [← hq]
  have HQ : Hid (q = if s = 0 then (if b = true then 0 else 3) else s) := hid_of (by
    rw [hq, hs, hb]
    unfold ruE setE
    show (if ¬ SS p then 1 else if ¬ (∀ y ∈ p, y ∈ U) then 3 else if x ∉ U then 3 else 0) = _
    by_cases h1 : SS p
    · by_cases h2 : ∀ y ∈ p, y ∈ U
      · by_cases h3 : x ∈ U <;> simp [h1, h2, h3]
      · simp [h1, h2]
    · simp [h1])
  have HS : Hid (Calls Try.prog 19 #[.slice uo un uc, .slice po pn pc] (w.alloc (.cells #[.slice po pn pc, .string bx] 41)) fun e w1 => e = .returned (.int .i64 s) ∧ (w1.cell? ⟨w.heap.size, 1, none⟩ = some (.string bx)) ∧ Below w.heap.size w w1 ∧
      Hid (Calls Try.prog 26 #[.slice uo un uc, .string bx] w1 fun e w' => e = .returned (.bool b) ∧ w1 = w')) := hid_of (by
    rw [ebx, hs]
    refine (rset_any uo un uc U po pn pc p _ (hU.at B) (hp.at B)).mono fun e w1 ⟨h1, h2⟩ => ⟨h1, ?_, B.trans (h2.mono B.size), hid_of (by rw [hb]; exact rhas_any uo un uc U x w1 ((hU.at B).at h2))⟩
    exact blk_cell (cs := [.slice po pn pc, .string (ba x)]) ((h2.block _ (lt_of_block e0)).trans e0) (j := 1) rfl)
  rw [← ebx]
  have k0 := blk_cell (cs := [.slice po pn pc, .string (ba x)]) e0 (j := 0) rfl
  rw [← ebx] at k0
  clear hU hp B e0 ebx hs hb hq
  have u : s = 0 ∨ s ≠ 0 := by omega
  rcases u with rfl | u
  · cases b
    all_goals
      go_enter Try.func27, Try.ntmps27
      go_wp2_with (first
        | (go_at_call 19; ((with_reducible refine (HS.out).mono ?_); (rintro ee w1 ⟨rfl, k1, q1, H2⟩)); have B1 := hid_of q1; clear q1)
        | (go_at_call 26; ((with_reducible refine (H2.out).mono ?_); (rintro ee w' ⟨rfl, rfl⟩))))
      go_ret
      exact ⟨by rw [HQ.out]; rfl, B1.out⟩
  · have t1 : ((s : Int) == 0) = false := by simp; omega
    have HQ2 : Hid (q = s) := hid_of (by rw [HQ.out, if_neg u])
    clear u HQ
    go_enter Try.func27, Try.ntmps27
    go_wp2_with (first
      | (go_at_call 19; ((with_reducible refine (HS.out).mono ?_); (rintro ee w1 ⟨rfl, k1, q1, H2⟩)); have B1 := hid_of q1; clear q1))
    go_ret
    exact ⟨by rw [HQ2.out]; rfl, B1.out⟩
end Go.Proofs.Ytjponegeidiheaa
