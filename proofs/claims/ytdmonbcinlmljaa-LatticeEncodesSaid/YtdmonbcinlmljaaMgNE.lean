/- Texts in one: LatRnm, LatRis, LatRsh, LatRnd, LatRnf, LatRch, LatRno, LatRnx, LatRck, LatGe, LatRk. -/
import Derived.Test.YtdmonbcinlmljaaMgND
set_option linter.unusedVariables false
set_option linter.unusedSimpArgs false
/- The reference's Name. Bounds on sizes alone. -/
namespace Go.Proofs.Ytdmonbcinlmljaa
open Go.RowKit

set_option maxRecDepth 100000 in
theorem rname9_any (s : ByteArray) (w : World) (hs : s.size ≤ maxLen) : Calls Try.prog 75 #[.string s] w fun e w' => e = .returned (.bool (isName (strBytes s))) ∧ w' = w := by
  unfold maxLen at hs
  obtain ⟨r, hr⟩ : ∃ r, r = isName (strBytes s) := ⟨_, rfl⟩
  rw [← hr]
  have HR := hid_of hr
  clear hr
  by_cases h0 : s.size = 0
  · have RF : Hid (r = false) := hid_of (by
      rw [HR.out, Bool.eq_false_iff]; intro h; have := ((isName_iff _).1 h).1; rw [strBytes_length] at this; omega)
    have d0 : decide ((s.size : Int) < 1) = true := decide_eq_true (by omega)
    go_enter Try.func75, Try.ntmps75
    go_wp2
    go_ret
    exact ⟨by rw [RF.out] <;> rfl, rfl⟩
  by_cases h16 : 16 < s.size
  · have RF : Hid (r = false) := hid_of (by
      rw [HR.out, Bool.eq_false_iff]; intro h; have := ((isName_iff _).1 h).2.1; rw [strBytes_length] at this; omega)
    have d0 : decide ((s.size : Int) < 1) = false := decide_eq_false (by omega)
    have d1 : decide ((s.size : Int) > 16) = true := decide_eq_true (by omega)
    go_enter Try.func75, Try.ntmps75
    go_wp2
    go_ret
    exact ⟨by rw [RF.out] <;> rfl, rfl⟩
  have d0 : decide ((s.size : Int) < 1) = false := decide_eq_false (by omega)
  have d1 : decide ((s.size : Int) > 16) = false := decide_eq_false (by omega)
  have hp : 0 < s.size := by omega
  obtain ⟨y, hy⟩ : ∃ y : Int, y = ((s[0]).toNat : Int) := ⟨_, rfl⟩
  have HY : Hid ((strBytes s)[0]? = some y) := hid_of (by rw [strBytes_at s 0 hp, hy])
  have hys : ((s[0]).toNat : Int) = y := hy.symm
  clear hy
  have HP := hid_of hp
  have H16 := hid_of h16
  obtain ⟨q, hq⟩ : ∃ q, q = isl y := ⟨_, rfl⟩
  have HQ := hid_of hq
  have hsp : (q = true ∧ 97 ≤ y ∧ y ≤ 122) ∨ (q = false ∧ y < 97) ∨ (q = false ∧ 97 ≤ y ∧ 122 < y) := by
    rw [hq]
    by_cases h1 : 97 ≤ y
    · by_cases h2 : y ≤ 122
      · exact .inl ⟨by simp [isl]; omega, h1, h2⟩
      · exact .inr (.inr ⟨by simp [isl]; omega, h1, by omega⟩)
    · exact .inr (.inl ⟨by simp [isl]; omega, by omega⟩)
  clear hq
  rcases hsp with ⟨rfl, e1, e2⟩ | ⟨rfl, e1⟩ | ⟨rfl, e1, e2⟩
  rotate_left
  · have RF : Hid (r = false) := hid_of (by
      rw [HR.out, Bool.eq_false_iff]; intro h; have := ((isName_iff _).1 h).2.2.1 y HY.out; rw [← HQ.out] at this; exact absurd this (by simp))
    have dA : decide (y < 97) = true := decide_eq_true (by omega)
    go_enter Try.func75, Try.ntmps75
    go_wp2
    go_ret
    exact ⟨by rw [RF.out] <;> rfl, rfl⟩
  · have RF : Hid (r = false) := hid_of (by
      rw [HR.out, Bool.eq_false_iff]; intro h; have := ((isName_iff _).1 h).2.2.1 y HY.out; rw [← HQ.out] at this; exact absurd this (by simp))
    have dA : decide (y < 97) = false := decide_eq_false (by omega)
    have dB : decide (y > 122) = true := decide_eq_true (by omega)
    go_enter Try.func75, Try.ntmps75
    go_wp2
    go_ret
    exact ⟨by rw [RF.out] <;> rfl, rfl⟩
  have dA : decide (y < 97) = false := decide_eq_false (by omega)
  have dB : decide (y > 122) = false := decide_eq_false (by omega)
  go_enter Try.func75, Try.ntmps75
  go_wp2
  clear hys
  go_loopw [3] (fun iv wr => ∃ (i : Nat), i ≤ s.size ∧ iv = .int .i64 i ∧ wr = w ∧ Hid (∀ (j : Nat) (c : Int), j < i → (strBytes s)[j]? = some c → inw c = true)) (fun iv _ => s.size - (intOf iv).toNat)
  case atStart => exact ⟨0, Nat.zero_le _, rfl, rfl, hid_of (fun j c hj => by omega)⟩
  case round =>
    obtain ⟨i, hi, rfl, rfl, hall⟩ := hrel
    have HALL := hid_of hall.out
    clear hall
    by_cases hlt : i < s.size
    · obtain ⟨x, hx⟩ : ∃ x : Int, x = ((s[i]).toNat : Int) := ⟨_, rfl⟩
      have HX : Hid ((strBytes s)[i]? = some x) := hid_of (by rw [strBytes_at s i hlt, hx])
      have hxs : ((s[i]).toNat : Int) = x := hx.symm
      clear hx
      have HLT := hid_of hlt
      have hcs : (97 ≤ x ∧ x ≤ 122) ∨ (48 ≤ x ∧ x ≤ 57) ∨ (x = 45) ∨ (x < 48 ∧ x ≠ 45) ∨ (57 < x ∧ x < 97) ∨ (122 < x) := by omega
      rcases hcs with hcs | hcs | hcs | hcs | hcs | hcs
      · have HI : Hid (inw x = true) := hid_of (by unfold inw isl; simp; omega)
        have ta : decide (x < 97) = false := by simp; omega
        have tb : decide (x > 122) = false := by simp; omega
        clear hcs
        go_wp2
        go_roundw
        case rel => have := HLT.out; exact ⟨i + 1, by omega, by go_num, trivial, hid_of (fun j c hj hc => by
          by_cases e : j = i
          · subst e; rw [HX.out] at hc; cases hc; exact HI.out
          · exact HALL.out j c (by omega) hc)⟩
        case measure => have := HLT.out; simp [intOf]; omega
      · have HI : Hid (inw x = true) := hid_of (by unfold inw isl; simp; omega)
        have ta : decide (x < 97) = true := by simp; omega
        have tc : decide (x < 48) = false := by simp; omega
        have td : decide (x > 57) = false := by simp; omega
        clear hcs
        go_wp2
        go_roundw
        case rel => have := HLT.out; exact ⟨i + 1, by omega, by go_num, trivial, hid_of (fun j c hj hc => by
          by_cases e : j = i
          · subst e; rw [HX.out] at hc; cases hc; exact HI.out
          · exact HALL.out j c (by omega) hc)⟩
        case measure => have := HLT.out; simp [intOf]; omega
      · have HI : Hid (inw x = true) := hid_of (by unfold inw isl; simp; omega)
        have ta : decide (x < 97) = true := by simp; omega
        have tc : decide (x < 48) = true := by simp; omega
        have te : (x != 45) = false := by simp; omega
        clear hcs
        go_wp2
        go_roundw
        case rel => have := HLT.out; exact ⟨i + 1, by omega, by go_num, trivial, hid_of (fun j c hj hc => by
          by_cases e : j = i
          · subst e; rw [HX.out] at hc; cases hc; exact HI.out
          · exact HALL.out j c (by omega) hc)⟩
        case measure => have := HLT.out; simp [intOf]; omega
      · have HI : Hid (inw x = false) := hid_of (by unfold inw isl; simp; omega)
        have ta : decide (x < 97) = true := by simp; omega
        have tc : decide (x < 48) = true := by simp; omega
        have te : (x != 45) = true := by simp; omega
        clear hcs
        have RF : Hid (r = false) := hid_of (by
          rw [HR.out, Bool.eq_false_iff]; intro h; have := ((isName_iff _).1 h).2.2.2 i x HX.out; rw [HI.out] at this; exact absurd this (by simp))
        go_wp2
        go_ret
        exact ⟨by rw [RF.out] <;> rfl, rfl⟩
      · have HI : Hid (inw x = false) := hid_of (by unfold inw isl; simp; omega)
        have ta : decide (x < 97) = true := by simp; omega
        have tc : decide (x < 48) = false := by simp; omega
        have td : decide (x > 57) = true := by simp; omega
        have te : (x != 45) = true := by simp; omega
        clear hcs
        have RF : Hid (r = false) := hid_of (by
          rw [HR.out, Bool.eq_false_iff]; intro h; have := ((isName_iff _).1 h).2.2.2 i x HX.out; rw [HI.out] at this; exact absurd this (by simp))
        go_wp2
        go_ret
        exact ⟨by rw [RF.out] <;> rfl, rfl⟩
      · have HI : Hid (inw x = false) := hid_of (by unfold inw isl; simp; omega)
        have ta : decide (x < 97) = false := by simp; omega
        have tb : decide (x > 122) = true := by simp; omega
        have tc : decide (x < 48) = false := by simp; omega
        have td : decide (x > 57) = true := by simp; omega
        have te : (x != 45) = true := by simp; omega
        clear hcs
        have RF : Hid (r = false) := hid_of (by
          rw [HR.out, Bool.eq_false_iff]; intro h; have := ((isName_iff _).1 h).2.2.2 i x HX.out; rw [HI.out] at this; exact absurd this (by simp))
        go_wp2
        go_ret
        exact ⟨by rw [RF.out] <;> rfl, rfl⟩
    · obtain rfl : s.size = i := by omega
      have RT : Hid (r = true) := hid_of (by
        rw [HR.out, isName_iff, strBytes_length]
        exact ⟨HP.out, by have := H16.out; omega, fun c hc => by rw [HY.out] at hc; cases hc; exact HQ.out.symm, fun j c hc => HALL.out j c (by have := (List.getElem?_eq_some_iff.1 hc).1; rw [strBytes_length] at this; exact this) hc⟩)
      go_wp2
      go_ret
      exact ⟨by rw [RT.out] <;> rfl, rfl⟩
end Go.Proofs.Ytdmonbcinlmljaa

/- The reference's In and Rising. Bounds on sizes alone. -/
namespace Go.Proofs.Ytdmonbcinlmljaa
open Go.RowKit

set_option maxRecDepth 100000 in
theorem rin_any (l : List Str) (x : Str) (ao : Option Addr) (n cap : Nat) (w : World) (R : Rd w (.slice ao n cap) (ss l)) :
    Calls Try.prog 76 #[.slice ao n cap, .string (ba x)] w fun e w' => e = .returned (.bool (decide (x ∈ l))) ∧ w' = w := by
  obtain ⟨hn, _, hcap, h3⟩ := rds_open R
  obtain ⟨r, hr⟩ : ∃ r, r = decide (x ∈ l) := ⟨_, rfl⟩
  rw [← hr]
  have HR := hid_of hr
  have HN := hid_of hn
  have H3 := hid_of h3
  obtain ⟨bs, hbs⟩ : ∃ bs, bs = ba x := ⟨_, rfl⟩
  rw [← hbs]
  have HBS := hid_of hbs
  clear hr hn h3 R hbs
  go_enter Try.func76, Try.ntmps76
  go_wp2
  go_loopw [5] (fun iv wr => ∃ i : Nat, iv = .int .i64 i ∧ i ≤ n ∧ Hid (x ∉ l.take i) ∧ w = wr) (fun iv _ => n - (intOf iv).toNat)
  case atStart => exact ⟨0, rfl, Nat.zero_le _, hid_of (by simp), rfl⟩
  case round =>
    obtain ⟨i, rfl, hi, HM, rfl⟩ := hrel
    by_cases hlt : i < n
    · have d1 : decide (i < n) = true := decide_eq_true hlt
      have hlt' : (i : Int) < (n : Int) := by omega
      have HLT := hid_of hlt
      have hl : i < l.length := by have := HN.out; omega
      rcases H3.out with h3 | ⟨g, o, rfl, hg, hc⟩
      · exfalso; rw [h3] at hl; simp at hl
      have c1 := hc i _ (List.getElem?_eq_getElem hl)
      obtain ⟨bx, hx⟩ : ∃ bx, bx = ba l[i] := ⟨_, rfl⟩
      rw [← hx] at c1
      by_cases he : l[i] = x
      · have et := eq_t hx HBS.out he
        have RT : Hid (true = r) := hid_of (by rw [HR.out]; exact (decide_eq_true (by rw [← he]; exact List.getElem_mem hl)).symm)
        clear hlt hc hx he hl H3 hg
        go_wp2
        go_ret
        exact ⟨ret_b RT.out, rfl⟩
      · have et := eq_f hx HBS.out he
        have HE := hid_of (take_not hl HM.out he)
        clear hlt hc hx he hl H3 hg
        go_wp2
        go_roundw
        case rel => exact ⟨i + 1, by go_num, HLT.out, HE, by first | trivial | rfl⟩
        case measure => have := HLT.out; simp [intOf]; omega
    · have d1 : decide (i < n) = false := decide_eq_false hlt
      have RF : Hid (false = r) := hid_of (by
        rw [HR.out]
        refine (decide_eq_false (fun h => HM.out ?_)).symm
        rw [show i = l.length by have := HN.out; omega, List.take_length]; exact h)
      go_wp2
      go_ret
      exact ⟨ret_b RF.out, rfl⟩
/-- Valid names, strictly increasing. -/
def risB (l : List Str) : Bool := l.all nameB && ssB l
theorem ris_bad {l : List Str} {i : Nat} {x : Str} (h : l[i]? = some x) (hx : nameB x = false) : risB l = false := by
  unfold risB; rw [all_bad h hx, Bool.false_and]
set_option maxRecDepth 100000 in
set_option maxHeartbeats 3200000 in
theorem rising_any (l : List Str) (ao : Option Addr) (n cap : Nat) (w : World) (R : Rd w (.slice ao n cap) (ss l)) (on : Ok l) :
    Calls Try.prog 77 #[.slice ao n cap] w fun e w' => e = .returned (.bool (risB l)) ∧ ∃ m, w' = w.drewN m := by
  obtain ⟨hn, _, hcap, h3⟩ := rds_open R
  obtain ⟨r, hr⟩ : ∃ r, r = risB l := ⟨_, rfl⟩
  rw [← hr]
  have HR := hid_of hr
  have HN := hid_of hn
  have H3 := hid_of h3
  have ON := hid_of on
  clear hr hn h3 R on
  go_enter Try.func77, Try.ntmps77
  go_wp2
  go_loopw [3] (fun iv wr => ∃ k : Nat, iv = .int .i64 k ∧ k ≤ n ∧ Hid (ssTo l k) ∧ Hid (∀ j, j < k → ∀ p, l[j]? = some p → nameB p = true) ∧ Hid (∃ m, wr = w.drewN m)) (fun iv _ => n - (intOf iv).toNat)
  case atStart => exact ⟨0, rfl, Nat.zero_le _, hid_of (fun i hi => by omega), hid_of (fun j h => absurd h (Nat.not_lt_zero j)), hid_of ⟨0, rfl⟩⟩
  case round =>
    obtain ⟨k, rfl, hk, hs, hq, hb⟩ := hrel
    have hbb : Below w.heap.size w wr := by obtain ⟨md, hmd⟩ := hb.out; rw [hmd]; exact bel_drewN (Below.refl _ _) md
    have HB2 : Hid (∀ nq, ∃ m, wr.drewN nq = w.drewN m) := hid_of (fun nq => by obtain ⟨md, hmd⟩ := hb.out; exact ⟨md + nq, by rw [hmd, World.drewN_drewN]⟩)
    by_cases hlt : k < n
    · have hd : decide (k < n) = true := decide_eq_true hlt
      have HLT := hid_of hlt
      have hkl : k < l.length := by have := HN.out; omega
      rcases H3.out with h3 | ⟨g, o, rfl, hg, hc⟩
      · exfalso; rw [h3] at hkl; simp at hkl
      obtain ⟨x, hx⟩ : ∃ x, l[k]? = some x := ⟨_, List.getElem?_eq_getElem hkl⟩
      have c1 := (hbb.cell (p := ⟨g, o + k, none⟩) hg).trans (hc k _ hx)
      have hxl := ON.out x (List.mem_of_getElem? hx)
      have VC : Hid (∀ w, Calls Try.prog 75 #[.string (ba x)] w fun ee w' => ee = .returned (.bool (nameB x)) ∧ w' = w) := hid_of (fun w => rname9_any (ba x) w (by unfold maxLen; show x.toArray.size ≤ _; simpa using hxl))
      obtain ⟨qv, hqv⟩ : ∃ q, q = nameB x := ⟨_, rfl⟩
      rw [← hqv] at VC
      obtain ⟨bk, hbk⟩ : ∃ b, b = ba x := ⟨_, rfl⟩
      rw [← hbk] at c1 VC
      have b1 : (k : Int) < (n : Int) := by omega
      have b3 : (0 : Int) ≤ (k : Int) := by omega
      cases qv
      · have RF : Hid (false = r) := hid_of (by rw [HR.out, ris_bad hx hqv.symm])
        clear hc hx hxl hqv hbk hbb hlt hkl H3
        go_wp2
        go_quiet ((go_at_call 75; exact Calls.quiet_of_same (VC.out _)))
        go_wp2
        go_ret
        exact ⟨ret_b RF.out, HB2.out nq⟩
      have HQ2 : Hid (∀ j, j < k + 1 → ∀ p, l[j]? = some p → nameB p = true) := hid_of (fun j hj p hp => by
        by_cases e : j = k
        · subst e; rw [hx] at hp; cases hp; exact hqv.symm
        · exact hq.out j (by omega) p hp)
      by_cases h0 : k = 0
      · have g0 : decide (0 < k) = false := by simp; omega
        have HS2 : Hid (ssTo l (k + 1)) := hid_of (fun i hi => by omega)
        clear hc hx hxl hqv hbk hbb hlt hkl H3 h0
        go_wp2
        go_quiet ((go_at_call 75; exact Calls.quiet_of_same (VC.out _)))
        go_wp2
        go_roundw
        case rel => exact ⟨k + 1, by go_num, HLT.out, HS2, HQ2, hid_of (HB2.out nq)⟩
        case measure => have := HLT.out; simp [intOf]; omega
      · have g0 : decide (0 < k) = true := by simp; omega
        obtain ⟨p, hpk⟩ : ∃ p, p + 1 = k := ⟨k - 1, by omega⟩
        have hpl : p < l.length := by omega
        obtain ⟨bp, hbp⟩ : ∃ b, b = ba l[p] := ⟨_, rfl⟩
        have c2 := (hbb.cell (p := ⟨g, o + p, none⟩) hg).trans (hc p _ (List.getElem?_eq_getElem hpl))
        rw [← hbp] at c2
        have s1 : IntKind.i64.wrap ((k : Int) - 1) = (p : Int) := by rw [IntWalk.i64_in _ (by omega)]; omega
        have b2 : (p : Int) < (n : Int) := by omega
        have b4 : (0 : Int) ≤ (p : Int) := by omega
        have hxe : x = l[k] := by rw [List.getElem?_eq_getElem hkl] at hx; exact (Option.some.inj hx).symm
        by_cases e : l[p] < x
        · have t1 := lt_t hbp hbk e
          have HS2 := hid_of (ssTo_succ hs.out hpk (by rw [getD_of hpl, getD_of hkl, ← hxe]; exact e))
          clear hc hx hxl hqv hbk hbb hlt hkl H3 h0 hpk hbp hxe hpl e
          go_wp2
          go_quiet ((go_at_call 75; exact Calls.quiet_of_same (VC.out _)))
          clear s1
          go_wp2
          go_roundw
          case rel => exact ⟨k + 1, by go_num, HLT.out, HS2, HQ2, hid_of (HB2.out nq)⟩
          case measure => have := HLT.out; simp [intOf]; omega
        · have RF : Hid (false = r) := hid_of (by
            rw [HR.out]; unfold risB
            rw [ssB_no hpk hkl (by rw [getD_of hpl, getD_of hkl, ← hxe]; exact e), Bool.and_false])
          have t1 := lt_f hbp hbk e
          clear hc hx hxl hqv hbk hbb hlt hkl H3 h0 hpk hbp hxe hpl e
          go_wp2
          go_quiet ((go_at_call 75; exact Calls.quiet_of_same (VC.out _)))
          clear s1
          go_wp2
          go_ret
          exact ⟨ret_b RF.out, HB2.out nq⟩
    · have hd : decide (k < n) = false := decide_eq_false hlt
      have RT : Hid (true = r) := hid_of (by
        rw [HR.out]; unfold risB
        rw [ssB_yes HN.out (by rw [show n = k by omega]; exact hs.out), all_end HN.out (fun j hj p hp => hq.out j (by omega) p hp)]; rfl)
      clear hbb hlt
      go_wp2
      go_ret
      exact ⟨ret_b RT.out, hb.out⟩
end Go.Proofs.Ytdmonbcinlmljaa

/- The reference's shape. Bounds on sizes alone. -/
namespace Go.Proofs.Ytdmonbcinlmljaa
open Go.RowKit

set_option maxRecDepth 100000 in
set_option maxHeartbeats 6400000 in
theorem rshape_any (k lo hi : Int) (an : Option Addr) (nn cn : Nat) (ap : Option Addr) (np cp : Nat) (ar : Option Addr) (nr cr : Nat) (w : World) : Calls Try.prog 65 #[.agg #[.int .i64 k, .int .i64 lo, .int .i64 hi, .slice an nn cn, .slice ap np cp, .slice ar nr cr]] w (BoP (fieldsB k lo hi nn np nr) w) := by
  obtain ⟨r, hr⟩ : ∃ r, r = fieldsB k lo hi nn np nr := ⟨_, rfl⟩
  rw [← hr]
  have HR := hid_of hr
  clear hr
  rcases kinds k with rfl | rfl | rfl | rfl | rfl | rfl | rfl | rfl | rfl | rfl | hx
  · rw [fb1] at HR
    by_cases hc : lo = 0
    case neg =>
      have RF : Hid (false = r) := hid_of (by rw [HR.out]; simp [hnB, hc])
      have f1 : (lo == 0) = false := beq_eq_false_iff_ne.2 hc
      have f2 : (lo != 0) = true := bne_iff_ne.2 hc
      clear hc
      go_enter Try.func65, Try.ntmps65
      go_wp2
      go_ret
      exact ⟨ret_b RF.out, bel_alloc w _⟩
    subst hc
    by_cases hc : hi = 0
    case neg =>
      have RF : Hid (false = r) := hid_of (by rw [HR.out]; simp [hnB, hc])
      have f1 : (hi == 0) = false := beq_eq_false_iff_ne.2 hc
      have f2 : (hi != 0) = true := bne_iff_ne.2 hc
      clear hc
      go_enter Try.func65, Try.ntmps65
      go_wp2
      go_ret
      exact ⟨ret_b RF.out, bel_alloc w _⟩
    subst hc
    by_cases hc : nr = 0
    case neg =>
      have RF : Hid (false = r) := hid_of (by rw [HR.out]; simp [hnB, hc])
      have f1 : (nr == 0) = false := beq_eq_false_iff_ne.2 hc
      have f2 : ((nr : Int) == 0) = false := beq_eq_false_iff_ne.2 (by omega)
      have f3 : ((nr : Int) != 0) = true := bne_iff_ne.2 (by omega)
      have f4 : (nr != 0) = true := bne_iff_ne.2 hc
      clear hc
      go_enter Try.func65, Try.ntmps65
      go_wp2
      go_ret
      exact ⟨ret_b RF.out, bel_alloc w _⟩
    subst hc
    by_cases hc : nn = 0
    case neg =>
      have RF : Hid (false = r) := hid_of (by rw [HR.out]; simp [hnB, hc])
      have f1 : (nn == 0) = false := beq_eq_false_iff_ne.2 hc
      have f2 : ((nn : Int) == 0) = false := beq_eq_false_iff_ne.2 (by omega)
      have f3 : ((nn : Int) != 0) = true := bne_iff_ne.2 (by omega)
      have f4 : (nn != 0) = true := bne_iff_ne.2 hc
      clear hc
      go_enter Try.func65, Try.ntmps65
      go_wp2
      go_ret
      exact ⟨ret_b RF.out, bel_alloc w _⟩
    subst hc
    by_cases hc : np = 0
    case neg =>
      have RF : Hid (false = r) := hid_of (by rw [HR.out]; simp [hnB, hc])
      have f1 : (np == 0) = false := beq_eq_false_iff_ne.2 hc
      have f2 : ((np : Int) == 0) = false := beq_eq_false_iff_ne.2 (by omega)
      have f3 : ((np : Int) != 0) = true := bne_iff_ne.2 (by omega)
      have f4 : (np != 0) = true := bne_iff_ne.2 hc
      clear hc
      go_enter Try.func65, Try.ntmps65
      go_wp2
      go_ret
      exact ⟨ret_b RF.out, bel_alloc w _⟩
    subst hc
    have RT : Hid (true = r) := hid_of (by rw [HR.out]; simp [hnB])
    go_enter Try.func65, Try.ntmps65
    go_wp2
    go_ret
    exact ⟨ret_b RT.out, bel_alloc w _⟩
  · rw [fb2] at HR
    by_cases hc : nr = 0
    case neg =>
      have RF : Hid (false = r) := hid_of (by rw [HR.out]; simp [hnB, hc])
      have f1 : (nr == 0) = false := beq_eq_false_iff_ne.2 hc
      have f2 : ((nr : Int) == 0) = false := beq_eq_false_iff_ne.2 (by omega)
      have f3 : ((nr : Int) != 0) = true := bne_iff_ne.2 (by omega)
      have f4 : (nr != 0) = true := bne_iff_ne.2 hc
      clear hc
      go_enter Try.func65, Try.ntmps65
      go_wp2
      go_ret
      exact ⟨ret_b RF.out, bel_alloc w _⟩
    subst hc
    by_cases hc : nn = 0
    case neg =>
      have RF : Hid (false = r) := hid_of (by rw [HR.out]; simp [hnB, hc])
      have f1 : (nn == 0) = false := beq_eq_false_iff_ne.2 hc
      have f2 : ((nn : Int) == 0) = false := beq_eq_false_iff_ne.2 (by omega)
      have f3 : ((nn : Int) != 0) = true := bne_iff_ne.2 (by omega)
      have f4 : (nn != 0) = true := bne_iff_ne.2 hc
      clear hc
      go_enter Try.func65, Try.ntmps65
      go_wp2
      go_ret
      exact ⟨ret_b RF.out, bel_alloc w _⟩
    subst hc
    by_cases hc : np = 0
    case neg =>
      have RF : Hid (false = r) := hid_of (by rw [HR.out]; simp [hnB, hc])
      have f1 : (np == 0) = false := beq_eq_false_iff_ne.2 hc
      have f2 : ((np : Int) == 0) = false := beq_eq_false_iff_ne.2 (by omega)
      have f3 : ((np : Int) != 0) = true := bne_iff_ne.2 (by omega)
      have f4 : (np != 0) = true := bne_iff_ne.2 hc
      clear hc
      go_enter Try.func65, Try.ntmps65
      go_wp2
      go_ret
      exact ⟨ret_b RF.out, bel_alloc w _⟩
    subst hc
    have RT : Hid (true = r) := hid_of (by rw [HR.out]; simp [hnB])
    go_enter Try.func65, Try.ntmps65
    go_wp2
    go_ret
    exact ⟨ret_b RT.out, bel_alloc w _⟩
  · rw [fb3] at HR
    by_cases hc : nr = 0
    case neg =>
      have RF : Hid (false = r) := hid_of (by rw [HR.out]; simp [hnB, hc])
      have f1 : (nr == 0) = false := beq_eq_false_iff_ne.2 hc
      have f2 : ((nr : Int) == 0) = false := beq_eq_false_iff_ne.2 (by omega)
      have f3 : ((nr : Int) != 0) = true := bne_iff_ne.2 (by omega)
      have f4 : (nr != 0) = true := bne_iff_ne.2 hc
      clear hc
      go_enter Try.func65, Try.ntmps65
      go_wp2
      go_ret
      exact ⟨ret_b RF.out, bel_alloc w _⟩
    subst hc
    by_cases hc : nn = 0
    case neg =>
      have RF : Hid (false = r) := hid_of (by rw [HR.out]; simp [hnB, hc])
      have f1 : (nn == 0) = false := beq_eq_false_iff_ne.2 hc
      have f2 : ((nn : Int) == 0) = false := beq_eq_false_iff_ne.2 (by omega)
      have f3 : ((nn : Int) != 0) = true := bne_iff_ne.2 (by omega)
      have f4 : (nn != 0) = true := bne_iff_ne.2 hc
      clear hc
      go_enter Try.func65, Try.ntmps65
      go_wp2
      go_ret
      exact ⟨ret_b RF.out, bel_alloc w _⟩
    subst hc
    by_cases hc : np = 0
    case neg =>
      have RF : Hid (false = r) := hid_of (by rw [HR.out]; simp [hnB, hc])
      have f1 : (np == 0) = false := beq_eq_false_iff_ne.2 hc
      have f2 : ((np : Int) == 0) = false := beq_eq_false_iff_ne.2 (by omega)
      have f3 : ((np : Int) != 0) = true := bne_iff_ne.2 (by omega)
      have f4 : (np != 0) = true := bne_iff_ne.2 hc
      clear hc
      go_enter Try.func65, Try.ntmps65
      go_wp2
      go_ret
      exact ⟨ret_b RF.out, bel_alloc w _⟩
    subst hc
    have RT : Hid (true = r) := hid_of (by rw [HR.out]; simp [hnB])
    go_enter Try.func65, Try.ntmps65
    go_wp2
    go_ret
    exact ⟨ret_b RT.out, bel_alloc w _⟩
  · rw [fb4] at HR
    by_cases hc : lo = 0
    case neg =>
      have RF : Hid (false = r) := hid_of (by rw [HR.out]; simp [hnB, hc])
      have f1 : (lo == 0) = false := beq_eq_false_iff_ne.2 hc
      have f2 : (lo != 0) = true := bne_iff_ne.2 hc
      clear hc
      go_enter Try.func65, Try.ntmps65
      go_wp2
      go_ret
      exact ⟨ret_b RF.out, bel_alloc w _⟩
    subst hc
    by_cases hc : hi = 0
    case neg =>
      have RF : Hid (false = r) := hid_of (by rw [HR.out]; simp [hnB, hc])
      have f1 : (hi == 0) = false := beq_eq_false_iff_ne.2 hc
      have f2 : (hi != 0) = true := bne_iff_ne.2 hc
      clear hc
      go_enter Try.func65, Try.ntmps65
      go_wp2
      go_ret
      exact ⟨ret_b RF.out, bel_alloc w _⟩
    subst hc
    by_cases hc : nr = 0
    case neg =>
      have RF : Hid (false = r) := hid_of (by rw [HR.out]; simp [hnB, hc])
      have f1 : (nr == 0) = false := beq_eq_false_iff_ne.2 hc
      have f2 : ((nr : Int) == 0) = false := beq_eq_false_iff_ne.2 (by omega)
      have f3 : ((nr : Int) != 0) = true := bne_iff_ne.2 (by omega)
      have f4 : (nr != 0) = true := bne_iff_ne.2 hc
      clear hc
      go_enter Try.func65, Try.ntmps65
      go_wp2
      go_ret
      exact ⟨ret_b RF.out, bel_alloc w _⟩
    subst hc
    by_cases hc : np = 0
    case neg =>
      have RF : Hid (false = r) := hid_of (by rw [HR.out]; simp [hnB, hc])
      have f1 : (np == 0) = false := beq_eq_false_iff_ne.2 hc
      have f2 : ((np : Int) == 0) = false := beq_eq_false_iff_ne.2 (by omega)
      have f3 : ((np : Int) != 0) = true := bne_iff_ne.2 (by omega)
      have f4 : (np != 0) = true := bne_iff_ne.2 hc
      clear hc
      go_enter Try.func65, Try.ntmps65
      go_wp2
      go_ret
      exact ⟨ret_b RF.out, bel_alloc w _⟩
    subst hc
    have RT : Hid (true = r) := hid_of (by rw [HR.out]; simp [hnB])
    go_enter Try.func65, Try.ntmps65
    go_wp2
    go_ret
    exact ⟨ret_b RT.out, bel_alloc w _⟩
  · rw [fb5] at HR
    by_cases hc : lo = 0
    case neg =>
      have RF : Hid (false = r) := hid_of (by rw [HR.out]; simp [hnB, hc])
      have f1 : (lo == 0) = false := beq_eq_false_iff_ne.2 hc
      have f2 : (lo != 0) = true := bne_iff_ne.2 hc
      clear hc
      go_enter Try.func65, Try.ntmps65
      go_wp2
      go_ret
      exact ⟨ret_b RF.out, bel_alloc w _⟩
    subst hc
    by_cases hc : hi = 0
    case neg =>
      have RF : Hid (false = r) := hid_of (by rw [HR.out]; simp [hnB, hc])
      have f1 : (hi == 0) = false := beq_eq_false_iff_ne.2 hc
      have f2 : (hi != 0) = true := bne_iff_ne.2 hc
      clear hc
      go_enter Try.func65, Try.ntmps65
      go_wp2
      go_ret
      exact ⟨ret_b RF.out, bel_alloc w _⟩
    subst hc
    by_cases hc : nr = 0
    case neg =>
      have RF : Hid (false = r) := hid_of (by rw [HR.out]; simp [hnB, hc])
      have f1 : (nr == 0) = false := beq_eq_false_iff_ne.2 hc
      have f2 : ((nr : Int) == 0) = false := beq_eq_false_iff_ne.2 (by omega)
      have f3 : ((nr : Int) != 0) = true := bne_iff_ne.2 (by omega)
      have f4 : (nr != 0) = true := bne_iff_ne.2 hc
      clear hc
      go_enter Try.func65, Try.ntmps65
      go_wp2
      go_ret
      exact ⟨ret_b RF.out, bel_alloc w _⟩
    subst hc
    by_cases hc : np = 1
    case neg =>
      have RF : Hid (false = r) := hid_of (by rw [HR.out]; simp [hnB, hc])
      have f1 : (np == 1) = false := beq_eq_false_iff_ne.2 hc
      have f2 : ((np : Int) == 1) = false := beq_eq_false_iff_ne.2 (by omega)
      clear hc
      go_enter Try.func65, Try.ntmps65
      go_wp2
      go_ret
      exact ⟨ret_b RF.out, bel_alloc w _⟩
    subst hc
    have RT : Hid (true = r) := hid_of (by rw [HR.out]; simp [hnB])
    go_enter Try.func65, Try.ntmps65
    go_wp2
    go_ret
    exact ⟨ret_b RT.out, bel_alloc w _⟩
  · rw [fb6] at HR
    by_cases hc : lo = 0
    case neg =>
      have RF : Hid (false = r) := hid_of (by rw [HR.out]; simp [hnB, hc])
      have f1 : (lo == 0) = false := beq_eq_false_iff_ne.2 hc
      have f2 : (lo != 0) = true := bne_iff_ne.2 hc
      clear hc
      go_enter Try.func65, Try.ntmps65
      go_wp2
      go_ret
      exact ⟨ret_b RF.out, bel_alloc w _⟩
    subst hc
    by_cases hc : hi = 0
    case neg =>
      have RF : Hid (false = r) := hid_of (by rw [HR.out]; simp [hnB, hc])
      have f1 : (hi == 0) = false := beq_eq_false_iff_ne.2 hc
      have f2 : (hi != 0) = true := bne_iff_ne.2 hc
      clear hc
      go_enter Try.func65, Try.ntmps65
      go_wp2
      go_ret
      exact ⟨ret_b RF.out, bel_alloc w _⟩
    subst hc
    by_cases hc : nr = 0
    case neg =>
      have RF : Hid (false = r) := hid_of (by rw [HR.out]; simp [hnB, hc])
      have f1 : (nr == 0) = false := beq_eq_false_iff_ne.2 hc
      have f2 : ((nr : Int) == 0) = false := beq_eq_false_iff_ne.2 (by omega)
      have f3 : ((nr : Int) != 0) = true := bne_iff_ne.2 (by omega)
      have f4 : (nr != 0) = true := bne_iff_ne.2 hc
      clear hc
      go_enter Try.func65, Try.ntmps65
      go_wp2
      go_ret
      exact ⟨ret_b RF.out, bel_alloc w _⟩
    subst hc
    by_cases hc : 0 < nn
    case neg =>
      have RF : Hid (false = r) := hid_of (by rw [HR.out]; simp [hnB, hc])
      have f1 : decide (0 < nn) = false := decide_eq_false hc
      have f2 : decide ((0 : Int) < (nn : Int)) = false := decide_eq_false (by omega)
      clear hc
      go_enter Try.func65, Try.ntmps65
      go_wp2
      go_ret
      exact ⟨ret_b RF.out, bel_alloc w _⟩
    have g1 : decide (0 < nn) = true := decide_eq_true hc
    have g2 : decide ((0 : Int) < (nn : Int)) = true := decide_eq_true (by omega)
    have hpos := hid_of hc
    clear hc
    by_cases hc : nn = np
    case neg =>
      have RF : Hid (false = r) := hid_of (by rw [HR.out]; rw [show (np == nn) = false from beq_eq_false_iff_ne.2 (fun e => hc e.symm)]; simp)
      have f1 : (nn == np) = false := beq_eq_false_iff_ne.2 hc
      have f2 : ((nn : Int) == (np : Int)) = false := beq_eq_false_iff_ne.2 (by omega)
      clear hc
      go_enter Try.func65, Try.ntmps65
      go_wp2
      go_ret
      exact ⟨ret_b RF.out, bel_alloc w _⟩
    subst hc
    have RT : Hid (true = r) := hid_of (by rw [HR.out]; simp [hnB, hpos.out])
    go_enter Try.func65, Try.ntmps65
    go_wp2
    go_ret
    exact ⟨ret_b RT.out, bel_alloc w _⟩
  · rw [fb7] at HR
    by_cases hc : lo = 0
    case neg =>
      have RF : Hid (false = r) := hid_of (by rw [HR.out]; simp [hnB, hc])
      have f1 : (lo == 0) = false := beq_eq_false_iff_ne.2 hc
      have f2 : (lo != 0) = true := bne_iff_ne.2 hc
      clear hc
      go_enter Try.func65, Try.ntmps65
      go_wp2
      go_ret
      exact ⟨ret_b RF.out, bel_alloc w _⟩
    subst hc
    by_cases hc : hi = 0
    case neg =>
      have RF : Hid (false = r) := hid_of (by rw [HR.out]; simp [hnB, hc])
      have f1 : (hi == 0) = false := beq_eq_false_iff_ne.2 hc
      have f2 : (hi != 0) = true := bne_iff_ne.2 hc
      clear hc
      go_enter Try.func65, Try.ntmps65
      go_wp2
      go_ret
      exact ⟨ret_b RF.out, bel_alloc w _⟩
    subst hc
    by_cases hc : nr = 0
    case neg =>
      have RF : Hid (false = r) := hid_of (by rw [HR.out]; simp [hnB, hc])
      have f1 : (nr == 0) = false := beq_eq_false_iff_ne.2 hc
      have f2 : ((nr : Int) == 0) = false := beq_eq_false_iff_ne.2 (by omega)
      have f3 : ((nr : Int) != 0) = true := bne_iff_ne.2 (by omega)
      have f4 : (nr != 0) = true := bne_iff_ne.2 hc
      clear hc
      go_enter Try.func65, Try.ntmps65
      go_wp2
      go_ret
      exact ⟨ret_b RF.out, bel_alloc w _⟩
    subst hc
    by_cases hc : nn = 0
    case neg =>
      have RF : Hid (false = r) := hid_of (by rw [HR.out]; simp [hnB, hc])
      have f1 : (nn == 0) = false := beq_eq_false_iff_ne.2 hc
      have f2 : ((nn : Int) == 0) = false := beq_eq_false_iff_ne.2 (by omega)
      have f3 : ((nn : Int) != 0) = true := bne_iff_ne.2 (by omega)
      have f4 : (nn != 0) = true := bne_iff_ne.2 hc
      clear hc
      go_enter Try.func65, Try.ntmps65
      go_wp2
      go_ret
      exact ⟨ret_b RF.out, bel_alloc w _⟩
    subst hc
    by_cases hc : np = 2
    case neg =>
      have RF : Hid (false = r) := hid_of (by rw [HR.out]; simp [hnB, hc])
      have f1 : (np == 2) = false := beq_eq_false_iff_ne.2 hc
      have f2 : ((np : Int) == 2) = false := beq_eq_false_iff_ne.2 (by omega)
      clear hc
      go_enter Try.func65, Try.ntmps65
      go_wp2
      go_ret
      exact ⟨ret_b RF.out, bel_alloc w _⟩
    subst hc
    have RT : Hid (true = r) := hid_of (by rw [HR.out]; simp [hnB])
    go_enter Try.func65, Try.ntmps65
    go_wp2
    go_ret
    exact ⟨ret_b RT.out, bel_alloc w _⟩
  · rw [fb8] at HR
    by_cases hc : lo = 0
    case neg =>
      have RF : Hid (false = r) := hid_of (by rw [HR.out]; simp [hnB, hc])
      have f1 : (lo == 0) = false := beq_eq_false_iff_ne.2 hc
      have f2 : (lo != 0) = true := bne_iff_ne.2 hc
      clear hc
      go_enter Try.func65, Try.ntmps65
      go_wp2
      go_ret
      exact ⟨ret_b RF.out, bel_alloc w _⟩
    subst hc
    by_cases hc : hi = 0
    case neg =>
      have RF : Hid (false = r) := hid_of (by rw [HR.out]; simp [hnB, hc])
      have f1 : (hi == 0) = false := beq_eq_false_iff_ne.2 hc
      have f2 : (hi != 0) = true := bne_iff_ne.2 hc
      clear hc
      go_enter Try.func65, Try.ntmps65
      go_wp2
      go_ret
      exact ⟨ret_b RF.out, bel_alloc w _⟩
    subst hc
    by_cases hc : nr = 0
    case neg =>
      have RF : Hid (false = r) := hid_of (by rw [HR.out]; simp [hnB, hc])
      have f1 : (nr == 0) = false := beq_eq_false_iff_ne.2 hc
      have f2 : ((nr : Int) == 0) = false := beq_eq_false_iff_ne.2 (by omega)
      have f3 : ((nr : Int) != 0) = true := bne_iff_ne.2 (by omega)
      have f4 : (nr != 0) = true := bne_iff_ne.2 hc
      clear hc
      go_enter Try.func65, Try.ntmps65
      go_wp2
      go_ret
      exact ⟨ret_b RF.out, bel_alloc w _⟩
    subst hc
    by_cases hc : np = 0
    case neg =>
      have RF : Hid (false = r) := hid_of (by rw [HR.out]; simp [hnB, hc])
      have f1 : (np == 0) = false := beq_eq_false_iff_ne.2 hc
      have f2 : ((np : Int) == 0) = false := beq_eq_false_iff_ne.2 (by omega)
      have f3 : ((np : Int) != 0) = true := bne_iff_ne.2 (by omega)
      have f4 : (np != 0) = true := bne_iff_ne.2 hc
      clear hc
      go_enter Try.func65, Try.ntmps65
      go_wp2
      go_ret
      exact ⟨ret_b RF.out, bel_alloc w _⟩
    subst hc
    have RT : Hid (true = r) := hid_of (by rw [HR.out]; simp [hnB])
    go_enter Try.func65, Try.ntmps65
    go_wp2
    go_ret
    exact ⟨ret_b RT.out, bel_alloc w _⟩
  · rw [fb9] at HR
    by_cases hc : lo = 0
    case neg =>
      have RF : Hid (false = r) := hid_of (by rw [HR.out]; simp [hnB, hc])
      have f1 : (lo == 0) = false := beq_eq_false_iff_ne.2 hc
      have f2 : (lo != 0) = true := bne_iff_ne.2 hc
      clear hc
      go_enter Try.func65, Try.ntmps65
      go_wp2
      go_ret
      exact ⟨ret_b RF.out, bel_alloc w _⟩
    subst hc
    by_cases hc : hi = 0
    case neg =>
      have RF : Hid (false = r) := hid_of (by rw [HR.out]; simp [hnB, hc])
      have f1 : (hi == 0) = false := beq_eq_false_iff_ne.2 hc
      have f2 : (hi != 0) = true := bne_iff_ne.2 hc
      clear hc
      go_enter Try.func65, Try.ntmps65
      go_wp2
      go_ret
      exact ⟨ret_b RF.out, bel_alloc w _⟩
    subst hc
    by_cases hc : nr = 0
    case neg =>
      have RF : Hid (false = r) := hid_of (by rw [HR.out]; simp [hnB, hc])
      have f1 : (nr == 0) = false := beq_eq_false_iff_ne.2 hc
      have f2 : ((nr : Int) == 0) = false := beq_eq_false_iff_ne.2 (by omega)
      have f3 : ((nr : Int) != 0) = true := bne_iff_ne.2 (by omega)
      have f4 : (nr != 0) = true := bne_iff_ne.2 hc
      clear hc
      go_enter Try.func65, Try.ntmps65
      go_wp2
      go_ret
      exact ⟨ret_b RF.out, bel_alloc w _⟩
    subst hc
    by_cases hc : nn = 0
    case neg =>
      have RF : Hid (false = r) := hid_of (by rw [HR.out]; simp [hnB, hc])
      have f1 : (nn == 0) = false := beq_eq_false_iff_ne.2 hc
      have f2 : ((nn : Int) == 0) = false := beq_eq_false_iff_ne.2 (by omega)
      have f3 : ((nn : Int) != 0) = true := bne_iff_ne.2 (by omega)
      have f4 : (nn != 0) = true := bne_iff_ne.2 hc
      clear hc
      go_enter Try.func65, Try.ntmps65
      go_wp2
      go_ret
      exact ⟨ret_b RF.out, bel_alloc w _⟩
    subst hc
    by_cases hc : np = 0
    case neg =>
      have RF : Hid (false = r) := hid_of (by rw [HR.out]; simp [hnB, hc])
      have f1 : (np == 0) = false := beq_eq_false_iff_ne.2 hc
      have f2 : ((np : Int) == 0) = false := beq_eq_false_iff_ne.2 (by omega)
      have f3 : ((np : Int) != 0) = true := bne_iff_ne.2 (by omega)
      have f4 : (np != 0) = true := bne_iff_ne.2 hc
      clear hc
      go_enter Try.func65, Try.ntmps65
      go_wp2
      go_ret
      exact ⟨ret_b RF.out, bel_alloc w _⟩
    subst hc
    have RT : Hid (true = r) := hid_of (by rw [HR.out]; simp [hnB])
    go_enter Try.func65, Try.ntmps65
    go_wp2
    go_ret
    exact ⟨ret_b RT.out, bel_alloc w _⟩
  · rw [fb10] at HR
    by_cases hc : lo = 0
    case neg =>
      have RF : Hid (false = r) := hid_of (by rw [HR.out]; simp [hnB, hc])
      have f1 : (lo == 0) = false := beq_eq_false_iff_ne.2 hc
      have f2 : (lo != 0) = true := bne_iff_ne.2 hc
      clear hc
      go_enter Try.func65, Try.ntmps65
      go_wp2
      go_ret
      exact ⟨ret_b RF.out, bel_alloc w _⟩
    subst hc
    by_cases hc : hi = 0
    case neg =>
      have RF : Hid (false = r) := hid_of (by rw [HR.out]; simp [hnB, hc])
      have f1 : (hi == 0) = false := beq_eq_false_iff_ne.2 hc
      have f2 : (hi != 0) = true := bne_iff_ne.2 hc
      clear hc
      go_enter Try.func65, Try.ntmps65
      go_wp2
      go_ret
      exact ⟨ret_b RF.out, bel_alloc w _⟩
    subst hc
    by_cases hc : 0 < nn
    case neg =>
      have RF : Hid (false = r) := hid_of (by rw [HR.out]; simp [hnB, hc])
      have f1 : decide (0 < nn) = false := decide_eq_false hc
      have f2 : decide ((0 : Int) < (nn : Int)) = false := decide_eq_false (by omega)
      clear hc
      go_enter Try.func65, Try.ntmps65
      go_wp2
      go_ret
      exact ⟨ret_b RF.out, bel_alloc w _⟩
    have g1 : decide (0 < nn) = true := decide_eq_true hc
    have g2 : decide ((0 : Int) < (nn : Int)) = true := decide_eq_true (by omega)
    have hpos := hid_of hc
    clear hc
    by_cases hc : np = 0
    case neg =>
      have RF : Hid (false = r) := hid_of (by rw [HR.out]; simp [hnB, hc])
      have f1 : (np == 0) = false := beq_eq_false_iff_ne.2 hc
      have f2 : ((np : Int) == 0) = false := beq_eq_false_iff_ne.2 (by omega)
      have f3 : ((np : Int) != 0) = true := bne_iff_ne.2 (by omega)
      have f4 : (np != 0) = true := bne_iff_ne.2 hc
      clear hc
      go_enter Try.func65, Try.ntmps65
      go_wp2
      go_ret
      exact ⟨ret_b RF.out, bel_alloc w _⟩
    subst hc
    have RT : Hid (true = r) := hid_of (by rw [HR.out]; simp [hnB, hpos.out])
    go_enter Try.func65, Try.ntmps65
    go_wp2
    go_ret
    exact ⟨ret_b RT.out, bel_alloc w _⟩
  · rw [fb0 _ _ _ _ _ hx] at HR
    obtain ⟨h1, h2, h3, h4, h5, h6, h7, h8, h9, h10⟩ := hx
    go_enter Try.func65, Try.ntmps65
    go_wp2
    all_goals go_ret
    all_goals exact ⟨ret_b HR.out.symm, bel_alloc w _⟩
end Go.Proofs.Ytdmonbcinlmljaa

/- The reference's named. Bounds on sizes alone. -/
namespace Go.Proofs.Ytdmonbcinlmljaa
open Go.RowKit

def rruleB (ns : List Str) (x : Gr) : Bool := !x.1.isEmpty && risB x.1 && decide (x.2 ∈ ns) && x.1.all fun s => decide (s ∈ ns)
def rnamedB (t : Lat) : Bool := if t.k = 6 then t.ns.all nameB && decide t.ns.Nodup else risB t.ns && t.rs.all (rruleB t.ns)
theorem all_imp {α : Type} {f g : α → Bool} {l : List α} (h : ∀ x ∈ l, f x = g x) : l.all f = l.all g := by
  induction l with
  | nil => rfl
  | cons a l ih => rw [List.all_cons, List.all_cons, h a (by simp), ih fun x hx => h x (by simp [hx])]
theorem rnamed_eq {t : Lat} (hs : shapeB t = true) : rnamedB t = (namesB t && rulesB t.ns t.rs) := by
  unfold rnamedB namesB
  by_cases h6 : t.k = 6
  · have hr : t.rs = [] := by
      unfold shapeB at hs
      rw [if_neg (by omega), if_neg (by omega), if_neg (by omega), if_neg (by omega), if_pos h6] at hs
      exact (of_decide_eq_true hs).2.2.1
    rw [if_pos h6, decide_eq_true h6, hr]
    simp [rulesB]
  · rw [if_neg h6, decide_eq_false h6, Bool.false_or]
    unfold risB
    by_cases hn : t.ns.all nameB = true
    · by_cases hss : ssB t.ns = true
      · have hnd : decide t.ns.Nodup = true := decide_eq_true (ss_nodup (of_decide_eq_true hss))
        rw [hn, hss, hnd]
        simp only [Bool.true_and]
        unfold rulesB
        refine all_imp fun x _ => ?_
        unfold rruleB ruleB risB
        rw [List.all_append]
        simp only [List.all_cons, List.all_nil, Bool.and_true]
        by_cases hin : x.1.all (fun s => decide (s ∈ t.ns)) = true
        · have hv : x.1.all nameB = true := by
            rw [List.all_eq_true] at hin hn ⊢
            exact fun s h => hn s (of_decide_eq_true (hin s h))
          rw [hin, hv]
          cases x.1.isEmpty <;> cases ssB x.1 <;> simp
        · rw [Bool.not_eq_true] at hin
          rw [hin]
          simp
      · rw [Bool.not_eq_true] at hss
        rw [hss]
        simp
    · rw [Bool.not_eq_true] at hn
      rw [hn]
      simp
theorem Rd.take {w : World} {ao : Option Addr} {n cap i : Nat} {l : List Str} (h : Rd w (.slice ao n cap) (ss l)) (hi : i ≤ n) : Rd w (.slice ao i cap) (ss (l.take i)) := by
  obtain ⟨hn, h1, h2, h3⟩ := rds_open h
  have hlt : (l.take i).length = i := by rw [List.length_take]; omega
  refine ⟨ao, cap, by rw [ss_length, hlt], by rw [ss_length, hlt]; omega, h2, fun h0 => ?_⟩
  rw [ss_length, hlt] at h0
  rcases h3 with h3 | ⟨g, o, rfl, hg, hc⟩
  · rw [h3] at hn; simp at hn; omega
  · refine ⟨g, o, rfl, hg, fun j u hu => ?_⟩
    simp only [ss, List.getElem?_map] at hu
    obtain ⟨x, hx, rfl⟩ := Option.map_eq_some_iff.1 hu
    rw [List.getElem?_take] at hx
    split at hx
    · exact hc j x hx
    · cases hx
theorem nd_bad {t : Lat} {i : Nat} {x : Str} (h6 : t.k = 6) (hx : t.ns[i]? = some x) (hn : x ∈ t.ns.take i) : rnamedB t = false := by
  unfold rnamedB; rw [if_pos h6, decide_eq_false (nodup_bad hx hn), Bool.and_false]
theorem nd_inv {t : Lat} {i : Nat} {x : Str} (h6 : t.k = 6) (hx : t.ns[i]? = some x) (hn : nameB x = false) : rnamedB t = false := by
  unfold rnamedB; rw [if_pos h6, all_bad hx hn, Bool.false_and]
set_option maxRecDepth 100000 in
set_option maxHeartbeats 6400000 in
theorem rnamed6_any (t : Lat) (lo hi : Int) (an : Option Addr) (nn cn : Nat) (ap : Option Addr) (np cp : Nat) (ar : Option Addr) (nr cr : Nat) (w : World) (H : LO w 6 lo hi an nn cn ap np cp ar nr cr t) : Calls Try.prog 66 #[.agg #[.int .i64 6, .int .i64 lo, .int .i64 hi, .slice an nn cn, .slice ap np cp, .slice ar nr cr]] w (BoP (rnamedB t) w) := by
  obtain ⟨r, hr⟩ : ∃ r, r = rnamedB t := ⟨_, rfl⟩
  rw [← hr]
  have HR := hid_of hr
  have HH := hid_of H
  have HN := hid_of H.ln
  have H6 : Hid (t.k = 6) := hid_of H.hk.symm
  obtain ⟨hnl, hcn, hcap, h3⟩ := rds_open H.n
  have H3 := hid_of h3
  have HBW := hid_of (bel_alloc w (.cells #[.int .i64 6, .int .i64 lo, .int .i64 hi, .slice an nn cn, .slice ap np cp, .slice ar nr cr] 26))
  have HX : Hid (∀ wz, Below (w.alloc (.cells #[.int .i64 6, .int .i64 lo, .int .i64 hi, .slice an nn cn, .slice ap np cp, .slice ar nr cr] 26)).heap.size (w.alloc (.cells #[.int .i64 6, .int .i64 lo, .int .i64 hi, .slice an nn cn, .slice ap np cp, .slice ar nr cr] 26)) wz → _) := hid_of (fun wz hz => box6 6 lo hi an nn cn ap np cp ar nr cr hz)
  obtain ⟨WW, hWW⟩ : ∃ WW, WW = (w.alloc (.cells #[.int .i64 6, .int .i64 lo, .int .i64 hi, .slice an nn cn, .slice ap np cp, .slice ar nr cr] 26)) := ⟨_, rfl⟩
  have K0 : Hid (Below WW.heap.size WW (w.alloc (.cells #[.int .i64 6, .int .i64 lo, .int .i64 hi, .slice an nn cn, .slice ap np cp, .slice ar nr cr] 26))) := hid_of (by rw [← hWW]; exact Below.refl _ _)
  rw [← hWW] at HX HBW
  clear hr H hWW h3 hnl
  go_enter Try.func66, Try.ntmps66
  go_wp2
  go_loopw [3] (fun iv wr => ∃ i : Nat, iv = .int .i64 i ∧ i ≤ nn ∧ Hid ((∀ x ∈ t.ns.take i, nameB x = true) ∧ (t.ns.take i).Nodup) ∧ Hid (Below WW.heap.size WW wr)) (fun iv _ => nn - (intOf iv).toNat)
  case atStart => exact ⟨0, rfl, Nat.zero_le _, hid_of ⟨by simp, by simp⟩, K0⟩
  case round =>
    obtain ⟨i, rfl, hin, hq, hb⟩ := hrel
    obtain ⟨p0, p1, p2, p3, p4, p5⟩ := HX.out wr hb.out
    have hbw : Below w.heap.size w wr := HBW.out.trans (hb.out.mono HBW.out.size)
    by_cases hlt : i < nn
    · have d1 : decide (i < nn) = true := decide_eq_true hlt
      have hlt' : (i : Int) < (nn : Int) := by omega
      have h0i : (0 : Int) ≤ (i : Int) := by omega
      have hic : (i : Int) ≤ (cn : Int) := by omega
      have HLT := hid_of hlt
      have hl : i < t.ns.length := by have := HN.out; omega
      rcases H3.out with h3 | ⟨g, o, rfl, hg, hc⟩
      · exfalso; rw [h3] at hl; simp at hl
      obtain ⟨x, hx⟩ : ∃ x, t.ns[i]? = some x := ⟨_, List.getElem?_eq_getElem hl⟩
      have c1 := (hbw.cell (p := ⟨g, o + i, none⟩) hg).trans (hc i _ hx)
      have hxl := HH.out.on x (List.mem_of_getElem? hx)
      have VC : Hid (∀ w, Calls Try.prog 75 #[.string (ba x)] w fun ee w' => ee = .returned (.bool (nameB x)) ∧ w' = w) := hid_of (fun w => rname9_any (ba x) w (by unfold maxLen; show x.toArray.size ≤ _; simpa using hxl))
      have IC : Hid (∀ m, Calls Try.prog 76 #[.slice (some ⟨g, o, none⟩) i cn, .string (ba x)] (wr.drewN m) fun ee w' => ee = .returned (.bool (decide (x ∈ t.ns.take i))) ∧ w' = wr.drewN m) := hid_of (fun m => rin_any _ x (some ⟨g, o, none⟩) i cn _ ((HH.out.n.at (bel_drewN hbw m)).take (by omega)))
      obtain ⟨qv, hqv⟩ : ∃ q, q = nameB x := ⟨_, rfl⟩
      obtain ⟨qi, hqi⟩ : ∃ q, q = decide (x ∈ t.ns.take i) := ⟨_, rfl⟩
      rw [← hqv] at VC
      rw [← hqi] at IC
      obtain ⟨bk, hbk⟩ : ∃ b, b = ba x := ⟨_, rfl⟩
      rw [← hbk] at c1 VC IC
      have HXX := hid_of hx
      cases qv
      · have RF : Hid (false = r) := hid_of (by rw [HR.out, nd_inv H6.out hx hqv.symm])
        clear hc hx hxl hqv hqi hbk hlt hl H3 hbw IC
        go_wp2
        go_quiet ((go_at_call 75; exact Calls.quiet_of_same (VC.out _)))
        go_wp2
        go_ret
        exact ⟨ret_b RF.out, HBW.out.trans ((bel_drewN hb.out nq).mono HBW.out.size)⟩
      cases qi
      case true =>
        have RF : Hid (false = r) := hid_of (by rw [HR.out, nd_bad H6.out hx (of_decide_eq_true hqi.symm)])
        clear hc hx hxl hqv hqi hbk hlt hl H3 hbw
        go_wp2
        go_quiet (first | ((go_at_call 75; exact Calls.quiet_of_same (VC.out _))) | ((go_at_call 76; exact Calls.quiet_of_same (IC.out _))))
        go_wp2
        go_ret
        exact ⟨ret_b RF.out, HBW.out.trans ((bel_drewN hb.out nq).mono HBW.out.size)⟩
      have HQ2 : Hid ((∀ x ∈ t.ns.take (i + 1), nameB x = true) ∧ (t.ns.take (i + 1)).Nodup) := hid_of ⟨fun y hy => by
        rw [take_next hx, List.mem_append, List.mem_singleton] at hy
        rcases hy with hy | rfl
        · exact hq.out.1 y hy
        · exact hqv.symm, nodup_next hq.out.2 hx (of_decide_eq_false hqi.symm)⟩
      clear hc hx hxl hqv hqi hbk hlt hl H3 hbw
      go_wp2
      go_quiet (first | ((go_at_call 75; exact Calls.quiet_of_same (VC.out _))) | ((go_at_call 76; exact Calls.quiet_of_same (IC.out _))))
      go_wp2
      go_roundw
      case rel => exact ⟨i + 1, by go_num, HLT.out, HQ2, hid_of (bel_drewN hb.out nq)⟩
      case measure => have := HLT.out; simp [intOf]; omega
    · have d1 : decide (i < nn) = false := decide_eq_false hlt
      have RT : Hid (true = r) := hid_of (by
        have e : i = t.ns.length := by have := HN.out; omega
        have h := hq.out
        rw [e, List.take_length] at h
        rw [HR.out]; unfold rnamedB
        rw [if_pos H6.out, List.all_eq_true.2 h.1, decide_eq_true h.2]; rfl)
      clear hlt
      go_wp2
      go_ret
      exact ⟨ret_b RT.out, hbw⟩
end Go.Proofs.Ytdmonbcinlmljaa

/- The reference's named, of all kinds. Bounds on sizes alone. -/
namespace Go.Proofs.Ytdmonbcinlmljaa
open Go.RowKit

theorem rr_bad {t : Lat} {i : Nat} {x : Gr} (h6 : t.k ≠ 6) (hx : t.rs[i]? = some x) (hn : rruleB t.ns x = false) : rnamedB t = false := by
  unfold rnamedB; rw [if_neg h6, all_bad hx hn, Bool.and_false]
theorem rr_ok {ns : List Str} {x : Gr} (h0 : x.1 ≠ []) (h1 : risB x.1 = true) (h2 : x.2 ∈ ns) (h3 : x.1.all (fun s => decide (s ∈ ns)) = true) : rruleB ns x = true := by
  unfold rruleB
  rw [h1, decide_eq_true h2, h3]
  cases hx : x.1 with
  | nil => exact absurd hx h0
  | cons a l => rfl
set_option maxRecDepth 100000 in
set_option maxHeartbeats 6400000 in
theorem rnamed_any (t : Lat) (k lo hi : Int) (an : Option Addr) (nn cn : Nat) (ap : Option Addr) (np cp : Nat) (ar : Option Addr) (nr cr : Nat) (w : World) (H : LO w k lo hi an nn cn ap np cp ar nr cr t) : Calls Try.prog 66 #[.agg #[.int .i64 k, .int .i64 lo, .int .i64 hi, .slice an nn cn, .slice ap np cp, .slice ar nr cr]] w (BoP (rnamedB t) w) := by
  by_cases h6 : k = 6
  · subst h6
    exact rnamed6_any t lo hi an nn cn ap np cp ar nr cr w H
  obtain ⟨r, hr⟩ : ∃ r, r = rnamedB t := ⟨_, rfl⟩
  rw [← hr]
  have HR := hid_of hr
  have HH := hid_of H
  have H6 : Hid (t.k ≠ 6) := hid_of (by rw [← H.hk]; exact h6)
  have e6 : (k == 6) = false := beq_eq_false_iff_ne.2 h6
  have hrl := H.r.len
  have HRL := hid_of hrl.1
  have hcr : nr ≤ 9223372036854775807 := by omega
  have HBW := hid_of (bel_alloc w (.cells #[.int .i64 k, .int .i64 lo, .int .i64 hi, .slice an nn cn, .slice ap np cp, .slice ar nr cr] 26))
  have HX : Hid (∀ wz, Below (w.alloc (.cells #[.int .i64 k, .int .i64 lo, .int .i64 hi, .slice an nn cn, .slice ap np cp, .slice ar nr cr] 26)).heap.size (w.alloc (.cells #[.int .i64 k, .int .i64 lo, .int .i64 hi, .slice an nn cn, .slice ap np cp, .slice ar nr cr] 26)) wz → _) := hid_of (fun wz hz => box6 k lo hi an nn cn ap np cp ar nr cr hz)
  have RC0 := hid_of (rising_any t.ns an nn cn (w.alloc (.cells #[.int .i64 k, .int .i64 lo, .int .i64 hi, .slice an nn cn, .slice ap np cp, .slice ar nr cr] 26)) (H.n.at HBW.out) H.on)
  obtain ⟨WW, hWW⟩ : ∃ WW, WW = (w.alloc (.cells #[.int .i64 k, .int .i64 lo, .int .i64 hi, .slice an nn cn, .slice ap np cp, .slice ar nr cr] 26)) := ⟨_, rfl⟩
  have K0 : Hid (∀ m, Below WW.heap.size WW ((w.alloc (.cells #[.int .i64 k, .int .i64 lo, .int .i64 hi, .slice an nn cn, .slice ap np cp, .slice ar nr cr] 26)).drewN m)) := hid_of (fun m => by rw [← hWW]; exact bel_drewN (Below.refl _ _) m)
  rw [← hWW] at HX HBW
  obtain ⟨q0, hq0⟩ : ∃ q, q = risB t.ns := ⟨_, rfl⟩
  rw [← hq0] at RC0
  have HQ0 := hid_of hq0
  have RC := RC0
  clear hr H hWW h6 hrl hq0
  cases q0
  · have RF : Hid (false = r) := hid_of (by rw [HR.out]; unfold rnamedB; rw [if_neg H6.out, ← HQ0.out]; rfl)
    go_enter Try.func66, Try.ntmps66
    go_wp2_with (go_at_call 77; ((with_reducible refine (RC.out).mono ?_); (rintro e w2 ⟨rfl, m2, rfl⟩)))
    go_ret
    exact ⟨ret_b RF.out, HBW.out.trans ((K0.out m2).mono HBW.out.size)⟩
  go_enter Try.func66, Try.ntmps66
  go_wp2_with (go_at_call 77; ((with_reducible refine (RC.out).mono ?_); (rintro e w2 ⟨rfl, m2, rfl⟩)))
  go_loopw [4] (fun iv wr => ∃ i : Nat, iv = .int .i64 i ∧ i ≤ nr ∧ Hid (∀ j, j < i → ∀ p, t.rs[j]? = some p → rruleB t.ns p = true) ∧ Hid (Below WW.heap.size WW wr)) (fun iv _ => nr - (intOf iv).toNat)
  case atStart => exact ⟨0, rfl, Nat.zero_le _, hid_of (fun j h => absurd h (Nat.not_lt_zero j)), hid_of (K0.out m2)⟩
  case round =>
    clear RC RC0 K0
    obtain ⟨i, rfl, hin, hq, hb⟩ := hrel
    obtain ⟨p0, p1, p2, p3, p4, p5⟩ := HX.out wr hb.out
    have hbw : Below w.heap.size w wr := HBW.out.trans (hb.out.mono HBW.out.size)
    by_cases hlt : i < nr
    · have d1 : decide (i < nr) = true := decide_eq_true hlt
      have hlt' : (i : Int) < (nr : Int) := by omega
      have HLT := hid_of hlt
      have hl : i < t.rs.length := by have := HRL.out; omega
      obtain ⟨x, hx⟩ : ∃ x, t.rs[i]? = some x := ⟨_, List.getElem?_eq_getElem hl⟩
      obtain ⟨g, o, aA, kA, dA, rfl, RA, hcA⟩ := HH.out.r.get hx
      obtain ⟨c0, c1⟩ := hcA _ hbw
      have HXX := hid_of hx
      have HOX := hid_of (HH.out.or x (List.mem_of_getElem? hx))
      obtain ⟨bx, hbx⟩ : ∃ bx, bx = ba x.2 := ⟨_, rfl⟩
      have HBX2 := hid_of hbx
      rw [← hbx] at c1
      have HKA := hid_of (rds_open RA).1
      have HRA := hid_of RA
      have HBWR := hid_of hbw
      have HWB : Hid (Below WW.heap.size WW (wr.alloc (.cells #[.slice aA kA dA, .string bx] 47))) := hid_of (hb.out.alloc hb.out.size _)
      have HWBw : Hid (Below w.heap.size w (wr.alloc (.cells #[.slice aA kA dA, .string bx] 47))) := hid_of (hbw.alloc hbw.size _)
      obtain ⟨o0, o1, o2, o3, o4, o5⟩ := HX.out (wr.alloc (.cells #[.slice aA kA dA, .string bx] 47)) HWB.out
      have HBC : Hid (∀ w', Below (wr.alloc (.cells #[.slice aA kA dA, .string bx] 47)).heap.size (wr.alloc (.cells #[.slice aA kA dA, .string bx] 47)) w' → w'.cell? ⟨wr.heap.size, 0, none⟩ = some (.slice aA kA dA) ∧ w'.cell? ⟨wr.heap.size, 1, none⟩ = some (.string bx)) := hid_of (fun w' h =>
        ⟨blk_kept (cs := [.slice aA kA dA, .string bx]) (heap_alloc_new wr _) h rfl, blk_kept (cs := [.slice aA kA dA, .string bx]) (heap_alloc_new wr _) h rfl⟩)
      clear hlt hl hx hcA hbx RA hbw
      by_cases hk0 : kA = 0
      · subst hk0
        have RF : Hid (false = r) := hid_of (by rw [HR.out, rr_bad H6.out HXX.out (by unfold rruleB; rw [List.eq_nil_of_length_eq_zero HKA.out.symm]; rfl)])
        go_wp2
        go_ret
        exact ⟨ret_b RF.out, HWBw.out⟩
      have ek : (kA == 0) = false := beq_eq_false_iff_ne.2 hk0
      have ek' : ((kA : Int) == 0) = false := beq_eq_false_iff_ne.2 (by omega)
      have HK0 := hid_of hk0
      have RC := hid_of (rising_any x.1 aA kA dA (wr.alloc (.cells #[.slice aA kA dA, .string bx] 47)) (HRA.out.at HWBw.out) HOX.out.1)
      have IC : Hid (∀ m, Calls Try.prog 76 #[.slice an nn cn, .string bx] ((wr.alloc (.cells #[.slice aA kA dA, .string bx] 47)).drewN m) fun ee w' => ee = .returned (.bool (decide (x.2 ∈ t.ns))) ∧ (wr.alloc (.cells #[.slice aA kA dA, .string bx] 47)).drewN m = w') := hid_of (fun m => by
        have h := rin_any t.ns x.2 an nn cn ((wr.alloc (.cells #[.slice aA kA dA, .string bx] 47)).drewN m) (HH.out.n.at (bel_drewN HWBw.out m))
        rw [← HBX2.out] at h
        exact h.mono fun _ _ h => ⟨h.1, h.2.symm⟩)
      obtain ⟨q1, hq1⟩ : ∃ q, q = risB x.1 := ⟨_, rfl⟩
      obtain ⟨q2, hq2⟩ : ∃ q, q = decide (x.2 ∈ t.ns) := ⟨_, rfl⟩
      rw [← hq1] at RC
      rw [← hq2] at IC
      have HQ1 := hid_of hq1
      have HQ2 := hid_of hq2
      clear hk0 hq1 hq2
      cases q1
      · have RF : Hid (false = r) := hid_of (by rw [HR.out, rr_bad H6.out HXX.out (by unfold rruleB; rw [← HQ1.out]; simp)])
        go_wp2_with (go_at_call 77; ((with_reducible refine (RC.out).mono ?_); (rintro e w2 ⟨rfl, m2, rfl⟩)))
        go_ret
        exact ⟨ret_b RF.out, bel_drewN HWBw.out m2⟩
      cases q2
      · have RF : Hid (false = r) := hid_of (by rw [HR.out, rr_bad H6.out HXX.out (by unfold rruleB; rw [← HQ2.out]; simp)])
        go_wp2_with (first | (go_at_call 77; ((with_reducible refine (RC.out).mono ?_); (rintro e w2 ⟨rfl, m2, rfl⟩))) | (go_at_call 76; ((with_reducible refine (IC.out m2).mono ?_); (rintro e w3 ⟨rfl, rfl⟩))))
        go_ret
        exact ⟨ret_b RF.out, bel_drewN HWBw.out m2⟩
      go_wp2_with (first | (go_at_call 77; ((with_reducible refine (RC.out).mono ?_); (rintro e w2 ⟨rfl, m2, rfl⟩))) | (go_at_call 76; ((with_reducible refine (IC.out m2).mono ?_); (rintro e w3 ⟨rfl, rfl⟩))))
      have KS : Hid (Below (wr.alloc (.cells #[.slice aA kA dA, .string bx] 47)).heap.size (wr.alloc (.cells #[.slice aA kA dA, .string bx] 47)) ((wr.alloc (.cells #[.slice aA kA dA, .string bx] 47)).drewN m2)) := hid_of (bel_drewN (Below.refl _ _) m2)
      obtain ⟨BB, hBB⟩ : ∃ BB, BB = (wr.alloc (.cells #[.slice aA kA dA, .string bx] 47)) := ⟨_, rfl⟩
      rw [← hBB] at HBC HWB HWBw
      have KS2 : Hid (Below BB.heap.size BB ((wr.alloc (.cells #[.slice aA kA dA, .string bx] 47)).drewN m2)) := hid_of (by rw [hBB]; exact KS.out)
      clear KS hBB c0 c1 o0 o1 o2 o3 o4 o5 p0 p1 p2 p3 p4 p5
      go_loopw [6] (fun iv wz => ∃ j : Nat, iv = .int .i64 j ∧ j ≤ kA ∧ Hid (∀ jj, jj < j → ∀ s, x.1[jj]? = some s → decide (s ∈ t.ns) = true) ∧ Hid (Below BB.heap.size BB wz)) (fun iv _ => kA - (intOf iv).toNat)
      case atStart => exact ⟨0, rfl, Nat.zero_le _, hid_of (fun j h => absurd h (Nat.not_lt_zero j)), KS2⟩
      case round =>
        clear KS2 RC IC
        obtain ⟨j, rfl, hjn, hjq, hbj⟩ := hrel
        have hbW : Below WW.heap.size WW wr := HWB.out.trans (hbj.out.mono HWB.out.size)
        have hbw : Below w.heap.size w wr := HWBw.out.trans (hbj.out.mono HWBw.out.size)
        have HbW := hid_of hbW
        have Hbw := hid_of hbw
        obtain ⟨p0, p1, p2, p3, p4, p5⟩ := HX.out wr hbW
        obtain ⟨c0, c1⟩ := HBC.out wr hbj.out
        by_cases hjlt : j < kA
        · have d2 : decide (j < kA) = true := decide_eq_true hjlt
          have hjlt' : (j : Int) < (kA : Int) := by omega
          have HJLT := hid_of hjlt
          obtain ⟨s, hs⟩ : ∃ s, x.1[j]? = some s := ⟨_, List.getElem?_eq_getElem (by have := HKA.out; omega)⟩
          obtain ⟨_, _, _, h3⟩ := rds_open (HRA.out.at hbw)
          rcases h3 with h3 | ⟨g5, o5, rfl, _, hc5⟩
          · exfalso; rw [h3] at hs; simp at hs
          have cs := hc5 j s hs
          have IC : Hid (∀ m, Calls Try.prog 76 #[.slice an nn cn, .string (ba s)] (wr.drewN m) fun ee w' => ee = .returned (.bool (decide (s ∈ t.ns))) ∧ w' = wr.drewN m) := hid_of (fun m => rin_any t.ns s an nn cn _ (HH.out.n.at (bel_drewN hbw m)))
          obtain ⟨bs, hbs⟩ : ∃ bs, bs = ba s := ⟨_, rfl⟩
          rw [← hbs] at cs IC
          obtain ⟨q3, hq3⟩ : ∃ q, q = decide (s ∈ t.ns) := ⟨_, rfl⟩
          rw [← hq3] at IC
          have HSX := hid_of hs
          have HQ3 := hid_of hq3
          clear hs hjlt hbs hq3 hc5 hbW hbw
          cases q3
          · have RF : Hid (false = r) := hid_of (by
              rw [HR.out, rr_bad H6.out HXX.out (by unfold rruleB; rw [all_bad (f := fun s => decide (s ∈ t.ns)) HSX.out HQ3.out.symm, Bool.and_false])])
            go_wp2
            go_quiet ((go_at_call 76; exact Calls.quiet_of_same (IC.out _)))
            go_wp2
            go_ret
            exact ⟨ret_b RF.out, bel_drewN Hbw.out nq⟩
          · go_wp2
            go_quiet ((go_at_call 76; exact Calls.quiet_of_same (IC.out _)))
            go_wp2
            go_roundw
            case rel => exact ⟨j + 1, by go_num, HJLT.out, hid_of (fun jj hjj s' hs' => by
              by_cases e : jj = j
              · subst e
                rw [HSX.out] at hs'
                cases hs'
                exact HQ3.out.symm
              · exact hjq.out jj (by omega) s' hs'), hid_of (bel_drewN hbj.out nq)⟩
            case measure => have := HJLT.out; simp [intOf]; omega
        · have d2 : decide (j < kA) = false := decide_eq_false hjlt
          have RO : Hid (rruleB t.ns x = true) := hid_of (rr_ok (fun h => HK0.out (by rw [HKA.out, h]; rfl)) HQ1.out.symm (of_decide_eq_true HQ2.out.symm) (all_end (f := fun s => decide (s ∈ t.ns)) HKA.out (fun jj hjj s hs => hjq.out jj (by omega) s hs)))
          clear hjlt hbW hbw
          go_wp2
          go_roundw
          case rel => exact ⟨i + 1, by go_num, HLT.out, hid_of (fun jj hjj p hp => by
              by_cases e : jj = i
              · subst e
                rw [HXX.out] at hp
                cases hp
                exact RO.out
              · exact hq.out jj (by omega) p hp), HbW⟩
          case measure => have := HLT.out; simp [intOf]; omega
    · have d1 : decide (i < nr) = false := decide_eq_false hlt
      have RT : Hid (true = r) := hid_of (by
        rw [HR.out]; unfold rnamedB
        rw [if_neg H6.out, ← HQ0.out, all_end HRL.out (fun j hj p hp => hq.out j (by omega) p hp)]; rfl)
      clear hlt
      go_wp2
      go_ret
      exact ⟨ret_b RT.out, hbw⟩
end Go.Proofs.Ytdmonbcinlmljaa

/- The reference's Chain and Distributive. Bounds on sizes alone. -/
namespace Go.Proofs.Ytdmonbcinlmljaa
open Go.RowKit

set_option maxRecDepth 100000 in
set_option maxHeartbeats 3200000 in
theorem rchain_any : ∀ (t : Lat) (k lo hi : Int) (an : Option Addr) (nn cn : Nat) (ap : Option Addr) (np cp : Nat) (ar : Option Addr) (nr cr : Nat) (w : World), LO w k lo hi an nn cn ap np cp ar nr cr t → Calls Try.prog 67 #[.agg #[.int .i64 k, .int .i64 lo, .int .i64 hi, .slice an nn cn, .slice ap np cp, .slice ar nr cr]] w (BoP (chainL t) w) := by
  refine lat_ind ?_
  intro k' lo' hi' ns' ps' rs' ih k lo hi an nn cn ap np cp ar nr cr w H
  obtain rfl : k = k' := H.hk
  have HB := hid_of (bel_alloc w (.cells #[.int .i64 k, .int .i64 lo, .int .i64 hi, .slice an nn cn, .slice ap np cp, .slice ar nr cr] 26))
  rw [chainL]
  by_cases h7 : k = 7
  case neg =>
    rw [if_neg h7]
    clear H ih
    rcases kinds k with rfl | rfl | rfl | rfl | rfl | rfl | rfl | rfl | rfl | rfl | hx
    case inr.inr.inr.inr.inr.inr.inr.inr.inr.inr =>
      obtain ⟨h1, h2, h3, h4, h5, h6, h7', h8, h9, h10⟩ := hx
      rw [decide_eq_false (by omega)]
      have g1 : (k == 1) = false := beq_eq_false_iff_ne.2 h1
      have g2 : (k == 2) = false := beq_eq_false_iff_ne.2 h2
      have g3 : (k == 3) = false := beq_eq_false_iff_ne.2 h3
      have g7 : (k == 7) = false := beq_eq_false_iff_ne.2 h7
      go_enter Try.func67, Try.ntmps67
      go_wp2
      go_ret
      exact ⟨rfl, HB.out⟩
    case inr.inr.inr.inr.inr.inr.inl => exact absurd rfl h7
    all_goals
      clear h7
      go_enter Try.func67, Try.ntmps67
      go_wp2
      go_ret
      exact ⟨rfl, HB.out⟩
  subst h7
  rw [if_pos rfl, chainsL_all]
  have hl := H.p.len
  simp only [Lat.ps] at hl
  by_cases h2 : np = 2
  case neg =>
    have e2 : (np == 2) = false := beq_eq_false_iff_ne.2 h2
    have e3 : ((np : Int) == 2) = false := beq_eq_false_iff_ne.2 (by omega)
    rw [decide_eq_false (by omega), Bool.false_and]
    clear h2 hl H ih
    go_enter Try.func67, Try.ntmps67
    go_wp2
    go_ret
    exact ⟨rfl, HB.out⟩
  subst h2
  rw [decide_eq_true hl.1.symm, Bool.true_and]
  obtain ⟨p0, p1, rfl⟩ : ∃ p0 p1, ps' = [p0, p1] := by
    match ps', hl.1 with
    | [a, b], _ => exact ⟨a, b, rfl⟩
  obtain ⟨g, o, kA, loA, hiA, anA, nnA, cnA, apA, npA, cpA, arA, nrA, crA, rfl, LA, hcA⟩ := H.p.get (show [p0, p1][0]? = some p0 from rfl)
  obtain ⟨gB, oB, kB, loB, hiB, anB, nnB, cnB, apB, npB, cpB, arB, nrB, crB, eB, LB, hcB⟩ := H.p.get (show [p0, p1][1]? = some p1 from rfl)
  simp only [Option.some.injEq, Addr.mk.injEq, and_true] at eB
  obtain ⟨rfl, rfl⟩ := eB
  have CA := hid_of (fun (wz : World) (hz : Below w.heap.size w wz) => ih p0 (by simp) kA loA hiA anA nnA cnA apA npA cpA arA nrA crA wz (LA.at hz))
  have CB := hid_of (fun (wz : World) (hz : Below w.heap.size w wz) => ih p1 (by simp) kB loB hiB anB nnB cnB apB npB cpB arB nrB crB wz (LB.at hz))
  simp only [List.all_cons, List.all_nil, Bool.and_true]
  obtain ⟨qa, hqa⟩ : ∃ q, q = chainL p0 := ⟨_, rfl⟩
  obtain ⟨qb, hqb⟩ : ∃ q, q = chainL p1 := ⟨_, rfl⟩
  rw [← hqa] at CA ⊢
  rw [← hqb] at CB ⊢
  obtain ⟨a0, a1, a2, a3, a4, a5⟩ := hcA _ HB.out
  have HC : Hid (∀ w', Below (w.alloc (.cells #[.int .i64 7, .int .i64 lo, .int .i64 hi, .slice an nn cn, .slice (some ⟨g, o, none⟩) 2 cp, .slice ar nr cr] 26)).heap.size (w.alloc (.cells #[.int .i64 7, .int .i64 lo, .int .i64 hi, .slice an nn cn, .slice (some ⟨g, o, none⟩) 2 cp, .slice ar nr cr] 26)) w' → w'.cell? ⟨w.heap.size, 4, none⟩ = some (.slice (some ⟨g, o, none⟩) 2 cp)) := hid_of (fun w' h =>
    blk_kept (cs := [.int .i64 7, .int .i64 lo, .int .i64 hi, .slice an nn cn, .slice (some ⟨g, o, none⟩) 2 cp, .slice ar nr cr]) (heap_alloc_new w _) h rfl)
  have HCB := hid_of hcB
  clear hqa hqb hcA hcB H ih hl LA LB
  simp only [Nat.zero_mul, Nat.one_mul, Nat.add_zero] at a0 a1 a2 a3 a4 a5 HCB
  cases qa
  · rw [Bool.false_and]
    go_enter Try.func67, Try.ntmps67
    go_wp2_with (go_at_call 67; ((with_reducible refine (CA.out _ HB.out).mono ?_); (rintro e w2 ⟨rfl, h2⟩)); (have H2 := hid_of (HB.out.trans (h2.mono HB.out.size))); clear h2)
    go_ret
    exact ⟨rfl, H2.out⟩
  · rw [Bool.true_and]
    go_enter Try.func67, Try.ntmps67
    go_wp2_with (first
      | (go_at_call 67; ((with_reducible refine (CA.out _ HB.out).mono ?_); (rintro e w2 ⟨rfl, h2⟩)); (have H2 := hid_of (HB.out.trans (h2.mono HB.out.size))); (have s4 := HC.out w2 h2); (obtain ⟨b0, b1, b2, b3, b4, b5⟩ := HCB.out w2 H2.out); clear h2)
      | (go_at_call 67; ((with_reducible refine (CB.out _ H2.out).mono ?_); (rintro e w3 ⟨rfl, h3⟩)); (have H3 := hid_of (H2.out.trans (h3.mono H2.out.size))); clear h3))
    go_ret
    exact ⟨rfl, H3.out⟩
end Go.Proofs.Ytdmonbcinlmljaa

/- The reference's node. Bounds on sizes alone. -/
namespace Go.Proofs.Ytdmonbcinlmljaa
open Go.RowKit

def rnodeE (t : Lat) (d c : Nat) : Int := if 6 < d ∨ 64 ≤ c then 6 else nodeE t
set_option maxRecDepth 100000 in
set_option maxHeartbeats 6400000 in
theorem rnode6 (t : Lat) (k lo hi : Int) (an : Option Addr) (nn cn : Nat) (ap : Option Addr) (np cp : Nat) (ar : Option Addr) (nr cr : Nat) (d c : Nat) (w : World) (H : LO w k lo hi an nn cn ap np cp ar nr cr t) (hd : d ≤ 9) (hc : c ≤ 64) (hk : k = 6) : Calls Try.prog 48 #[.agg #[.int .i64 k, .int .i64 lo, .int .i64 hi, .slice an nn cn, .slice ap np cp, .slice ar nr cr], .int .i64 (d : Nat), .int .i64 (c : Nat)] w (ErP (rnodeE t d c) w) := by
  obtain ⟨r, hr⟩ : ∃ r, r = rnodeE t d c := ⟨_, rfl⟩
  rw [← hr]
  have HB := hid_of (bel_alloc w (.cells #[.int .i64 k, .int .i64 lo, .int .i64 hi, .slice an nn cn, .slice ap np cp, .slice ar nr cr] 26))
  have HC : Hid (∀ w', Below (w.alloc (.cells #[.int .i64 k, .int .i64 lo, .int .i64 hi, .slice an nn cn, .slice ap np cp, .slice ar nr cr] 26)).heap.size (w.alloc (.cells #[.int .i64 k, .int .i64 lo, .int .i64 hi, .slice an nn cn, .slice ap np cp, .slice ar nr cr] 26)) w' → _) := hid_of (fun w' h => box6 k lo hi an nn cn ap np cp ar nr cr h)
  have FA := hid_of (fun w => rshape_any k lo hi an nn cn ap np cp ar nr cr w)
  have hlim : limL k = 8 := by unfold limL; rw [if_pos hk]
  have HLK : Hid (limL t.k = 8) := hid_of (by rw [← H.hk]; exact hlim)
  have e6 : (k == 6) = true := beq_iff_eq.2 hk
  have e10 : (k == 10) = false := beq_eq_false_iff_ne.2 (by omega)
  have e7 : (k == 7) = false := beq_eq_false_iff_ne.2 (by omega)
  have hcn : nn ≤ 9223372036854775807 := by have := rds_open H.n; omega
  have hcr : nr ≤ 9223372036854775807 := by have := H.r.len; omega
  have hcp : np ≤ 9223372036854775807 := by have := H.p.len; omega
  have HH := hid_of H
  have HK := hid_of hk
  unfold rnodeE at hr
  clear hlim
  by_cases hdc : 6 < d
  · have RE : Hid (6 = r) := hid_of (by rw [hr, if_pos (.inl hdc)])
    have d1 : decide (6 < d) = true := decide_eq_true hdc
    have d1i : decide ((6 : Int) < (d : Int)) = true := decide_eq_true (by omega)
    clear hr hdc H hk
    go_enter Try.func48, Try.ntmps48
    go_wp2
    go_ret
    exact ⟨ret_i RE.out, HB.out⟩
  by_cases hcc : 64 ≤ c
  · have RE : Hid (6 = r) := hid_of (by rw [hr, if_pos (.inr hcc)])
    have d1 : decide (6 < d) = false := decide_eq_false hdc
    have d1i : decide ((6 : Int) < (d : Int)) = false := decide_eq_false (by omega)
    have d2 : decide (64 ≤ c) = true := decide_eq_true hcc
    have d2i : decide ((64 : Int) ≤ (c : Int)) = true := decide_eq_true (by omega)
    clear hr hdc hcc H hk
    go_enter Try.func48, Try.ntmps48
    go_wp2
    go_ret
    exact ⟨ret_i RE.out, HB.out⟩
  rw [if_neg (by omega)] at hr
  have HR := hid_of (hr.trans (nodeE.eq_1 t))
  have d1 : decide (6 < d) = false := decide_eq_false hdc
  have d1i : decide ((6 : Int) < (d : Int)) = false := decide_eq_false (by omega)
  have d2 : decide (64 ≤ c) = false := decide_eq_false hcc
  have d2i : decide ((64 : Int) ≤ (c : Int)) = false := decide_eq_false (by omega)
  have hsf : shapeB t = fieldsB k lo hi nn np nr := by rw [shape_fields, H.hk, H.hlo, H.hhi, H.ln, H.lp, H.lr]
  obtain ⟨qf, hqf⟩ : ∃ q, q = fieldsB k lo hi nn np nr := ⟨_, rfl⟩
  rw [← hqf] at hsf FA
  have HSF := hid_of hsf
  clear hr hqf hsf hdc hcc H hk
  cases qf
  · have RE : Hid (1 = r) := hid_of (by rw [HR.out, if_pos HSF.out])
    go_enter Try.func48, Try.ntmps48
    go_wp2_with (go_at_call 65; ((with_reducible refine (FA.out _).mono ?_); (rintro e w2 ⟨rfl, h2⟩)); (have K2 := hid_of h2); (obtain ⟨s0, s1, s2, s3, s4, s5⟩ := HC.out w2 h2); clear h2)
    go_ret
    exact ⟨ret_i RE.out, HB.out.trans (K2.out.mono HB.out.size)⟩
  have HR2 : Hid (r = _) := hid_of (HR.out.trans (if_neg (by rw [HSF.out]; simp)))
  by_cases h1 : 8 < nn
  · have RE : Hid (6 = r) := hid_of (by rw [HR2.out, if_pos (.inl (by rw [HLK.out, ← HH.out.ln]; exact h1))])
    have l1 : decide (8 < nn) = true := decide_eq_true h1
    have l1i : decide ((8 : Int) < (nn : Int)) = true := decide_eq_true (by omega)
    clear h1
    go_enter Try.func48, Try.ntmps48
    go_wp2_with (go_at_call 65; ((with_reducible refine (FA.out _).mono ?_); (rintro e w2 ⟨rfl, h2⟩)); (have K2 := hid_of h2); (obtain ⟨s0, s1, s2, s3, s4, s5⟩ := HC.out w2 h2); clear h2)
    go_ret
    exact ⟨ret_i RE.out, HB.out.trans (K2.out.mono HB.out.size)⟩
  have l1 : decide (8 < nn) = false := decide_eq_false h1
  have l1i : decide ((8 : Int) < (nn : Int)) = false := decide_eq_false (by omega)
  by_cases h2 : 32 < nr
  · have RE : Hid (6 = r) := hid_of (by rw [HR2.out, if_pos (.inr (by rw [← HH.out.lr]; exact h2))])
    have l2 : decide (32 < nr) = true := decide_eq_true h2
    have l2i : decide ((32 : Int) < (nr : Int)) = true := decide_eq_true (by omega)
    clear h1 h2
    go_enter Try.func48, Try.ntmps48
    go_wp2_with (go_at_call 65; ((with_reducible refine (FA.out _).mono ?_); (rintro e w2 ⟨rfl, h2⟩)); (have K2 := hid_of h2); (obtain ⟨s0, s1, s2, s3, s4, s5⟩ := HC.out w2 h2); clear h2)
    go_ret
    exact ⟨ret_i RE.out, HB.out.trans (K2.out.mono HB.out.size)⟩
  have l2 : decide (32 < nr) = false := decide_eq_false h2
  have l2i : decide ((32 : Int) < (nr : Int)) = false := decide_eq_false (by omega)
  have HR3 : Hid (r = _) := hid_of (HR2.out.trans (if_neg (by rw [HLK.out, ← HH.out.ln, ← HH.out.lr]; omega)))
  have NM := hid_of (fun (wz : World) (hz : Below (w.alloc (.cells #[.int .i64 k, .int .i64 lo, .int .i64 hi, .slice an nn cn, .slice ap np cp, .slice ar nr cr] 26)).heap.size (w.alloc (.cells #[.int .i64 k, .int .i64 lo, .int .i64 hi, .slice an nn cn, .slice ap np cp, .slice ar nr cr] 26)) wz) => rnamed_any t k lo hi an nn cn ap np cp ar nr cr wz (HH.out.at (HB.out.trans (hz.mono HB.out.size))))
  rw [rnamed_eq HSF.out] at NM
  obtain ⟨qn, hqn⟩ : ∃ q, q = (namesB t && rulesB t.ns t.rs) := ⟨_, rfl⟩
  rw [← hqn] at NM HR3
  clear hqn h1 h2
  cases qn
  · have RE : Hid (3 = r) := hid_of (by rw [HR3.out, if_pos rfl])
    go_enter Try.func48, Try.ntmps48
    go_wp2_with (first | (go_at_call 65; ((with_reducible refine (FA.out _).mono ?_); (rintro e w2 ⟨rfl, h2⟩)); (have K2 := hid_of h2); (obtain ⟨s0, s1, s2, s3, s4, s5⟩ := HC.out w2 h2); clear h2) | (go_at_call 66; ((with_reducible refine (NM.out _ K2.out).mono ?_); (rintro e w4 ⟨rfl, h4⟩)); (have K4 := hid_of (K2.out.trans (h4.mono K2.out.size))); (obtain ⟨v0, v1, v2, v3, v4, v5⟩ := HC.out w4 K4.out); clear h4 s0 s1 s2 s3 s4 s5))
    go_ret
    exact ⟨ret_i RE.out, HB.out.trans (K4.out.mono HB.out.size)⟩
  have HR4 : Hid (r = _) := hid_of (HR3.out.trans (if_neg (by simp)))
  by_cases h1 : hi < lo
  · have RE : Hid (5 = r) := hid_of (by rw [HR4.out, if_pos (by rw [← HH.out.hlo, ← HH.out.hhi]; exact .inl h1)])
    have d3 : decide (hi < lo) = true := decide_eq_true h1
    clear h1
    go_enter Try.func48, Try.ntmps48
    go_wp2_with (first | (go_at_call 65; ((with_reducible refine (FA.out _).mono ?_); (rintro e w2 ⟨rfl, h2⟩)); (have K2 := hid_of h2); (obtain ⟨s0, s1, s2, s3, s4, s5⟩ := HC.out w2 h2); clear h2) | (go_at_call 66; ((with_reducible refine (NM.out _ K2.out).mono ?_); (rintro e w4 ⟨rfl, h4⟩)); (have K4 := hid_of (K2.out.trans (h4.mono K2.out.size))); (obtain ⟨v0, v1, v2, v3, v4, v5⟩ := HC.out w4 K4.out); clear h4 s0 s1 s2 s3 s4 s5))
    go_ret
    exact ⟨ret_i RE.out, HB.out.trans (K4.out.mono HB.out.size)⟩
  have d3 : decide (hi < lo) = false := decide_eq_false h1
  by_cases h2 : lo < -1000000000
  · have RE : Hid (5 = r) := hid_of (by rw [HR4.out, if_pos (by rw [← HH.out.hlo, ← HH.out.hhi]; exact .inr (.inl h2))])
    have d4 : decide (lo < -1000000000) = true := decide_eq_true h2
    clear h1 h2
    go_enter Try.func48, Try.ntmps48
    go_wp2_with (first | (go_at_call 65; ((with_reducible refine (FA.out _).mono ?_); (rintro e w2 ⟨rfl, h2⟩)); (have K2 := hid_of h2); (obtain ⟨s0, s1, s2, s3, s4, s5⟩ := HC.out w2 h2); clear h2) | (go_at_call 66; ((with_reducible refine (NM.out _ K2.out).mono ?_); (rintro e w4 ⟨rfl, h4⟩)); (have K4 := hid_of (K2.out.trans (h4.mono K2.out.size))); (obtain ⟨v0, v1, v2, v3, v4, v5⟩ := HC.out w4 K4.out); clear h4 s0 s1 s2 s3 s4 s5))
    go_ret
    exact ⟨ret_i RE.out, HB.out.trans (K4.out.mono HB.out.size)⟩
  have d4 : decide (lo < -1000000000) = false := decide_eq_false h2
  by_cases h3 : 1000000000 < hi
  · have RE : Hid (5 = r) := hid_of (by rw [HR4.out, if_pos (by rw [← HH.out.hlo, ← HH.out.hhi]; exact .inr (.inr h3))])
    have d5 : decide (1000000000 < hi) = true := decide_eq_true h3
    clear h1 h2 h3
    go_enter Try.func48, Try.ntmps48
    go_wp2_with (first | (go_at_call 65; ((with_reducible refine (FA.out _).mono ?_); (rintro e w2 ⟨rfl, h2⟩)); (have K2 := hid_of h2); (obtain ⟨s0, s1, s2, s3, s4, s5⟩ := HC.out w2 h2); clear h2) | (go_at_call 66; ((with_reducible refine (NM.out _ K2.out).mono ?_); (rintro e w4 ⟨rfl, h4⟩)); (have K4 := hid_of (K2.out.trans (h4.mono K2.out.size))); (obtain ⟨v0, v1, v2, v3, v4, v5⟩ := HC.out w4 K4.out); clear h4 s0 s1 s2 s3 s4 s5))
    go_ret
    exact ⟨ret_i RE.out, HB.out.trans (K4.out.mono HB.out.size)⟩
  have d5 : decide (1000000000 < hi) = false := decide_eq_false h3
  have HR5 : Hid (r = _) := hid_of (HR4.out.trans (if_neg (by rw [← HH.out.hlo, ← HH.out.hhi]; omega)))
  clear h1 h2 h3
  have RE : Hid (0 = r) := hid_of (by rw [HR5.out, if_neg (by rw [← HH.out.hk, HK.out]; simp)])
  go_enter Try.func48, Try.ntmps48
  go_wp2_with (first | (go_at_call 65; ((with_reducible refine (FA.out _).mono ?_); (rintro e w2 ⟨rfl, h2⟩)); (have K2 := hid_of h2); (obtain ⟨s0, s1, s2, s3, s4, s5⟩ := HC.out w2 h2); clear h2) | (go_at_call 66; ((with_reducible refine (NM.out _ K2.out).mono ?_); (rintro e w4 ⟨rfl, h4⟩)); (have K4 := hid_of (K2.out.trans (h4.mono K2.out.size))); (obtain ⟨v0, v1, v2, v3, v4, v5⟩ := HC.out w4 K4.out); clear h4 s0 s1 s2 s3 s4 s5))
  go_ret
  exact ⟨ret_i RE.out, HB.out.trans (K4.out.mono HB.out.size)⟩
set_option maxRecDepth 100000 in
set_option maxHeartbeats 6400000 in
theorem rnode10 (t : Lat) (k lo hi : Int) (an : Option Addr) (nn cn : Nat) (ap : Option Addr) (np cp : Nat) (ar : Option Addr) (nr cr : Nat) (d c : Nat) (w : World) (H : LO w k lo hi an nn cn ap np cp ar nr cr t) (hd : d ≤ 9) (hc : c ≤ 64) (hk : k = 10) : Calls Try.prog 48 #[.agg #[.int .i64 k, .int .i64 lo, .int .i64 hi, .slice an nn cn, .slice ap np cp, .slice ar nr cr], .int .i64 (d : Nat), .int .i64 (c : Nat)] w (ErP (rnodeE t d c) w) := by
  obtain ⟨r, hr⟩ : ∃ r, r = rnodeE t d c := ⟨_, rfl⟩
  rw [← hr]
  have HB := hid_of (bel_alloc w (.cells #[.int .i64 k, .int .i64 lo, .int .i64 hi, .slice an nn cn, .slice ap np cp, .slice ar nr cr] 26))
  have HC : Hid (∀ w', Below (w.alloc (.cells #[.int .i64 k, .int .i64 lo, .int .i64 hi, .slice an nn cn, .slice ap np cp, .slice ar nr cr] 26)).heap.size (w.alloc (.cells #[.int .i64 k, .int .i64 lo, .int .i64 hi, .slice an nn cn, .slice ap np cp, .slice ar nr cr] 26)) w' → _) := hid_of (fun w' h => box6 k lo hi an nn cn ap np cp ar nr cr h)
  have FA := hid_of (fun w => rshape_any k lo hi an nn cn ap np cp ar nr cr w)
  have hlim : limL k = 12 := by unfold limL; rw [if_neg (by omega), if_pos hk]
  have HLK : Hid (limL t.k = 12) := hid_of (by rw [← H.hk]; exact hlim)
  have e6 : (k == 6) = false := beq_eq_false_iff_ne.2 (by omega)
  have e10 : (k == 10) = true := beq_iff_eq.2 hk
  have e7 : (k == 7) = false := beq_eq_false_iff_ne.2 (by omega)
  have hcn : nn ≤ 9223372036854775807 := by have := rds_open H.n; omega
  have hcr : nr ≤ 9223372036854775807 := by have := H.r.len; omega
  have hcp : np ≤ 9223372036854775807 := by have := H.p.len; omega
  have HH := hid_of H
  have HK := hid_of hk
  unfold rnodeE at hr
  clear hlim
  by_cases hdc : 6 < d
  · have RE : Hid (6 = r) := hid_of (by rw [hr, if_pos (.inl hdc)])
    have d1 : decide (6 < d) = true := decide_eq_true hdc
    have d1i : decide ((6 : Int) < (d : Int)) = true := decide_eq_true (by omega)
    clear hr hdc H hk
    go_enter Try.func48, Try.ntmps48
    go_wp2
    go_ret
    exact ⟨ret_i RE.out, HB.out⟩
  by_cases hcc : 64 ≤ c
  · have RE : Hid (6 = r) := hid_of (by rw [hr, if_pos (.inr hcc)])
    have d1 : decide (6 < d) = false := decide_eq_false hdc
    have d1i : decide ((6 : Int) < (d : Int)) = false := decide_eq_false (by omega)
    have d2 : decide (64 ≤ c) = true := decide_eq_true hcc
    have d2i : decide ((64 : Int) ≤ (c : Int)) = true := decide_eq_true (by omega)
    clear hr hdc hcc H hk
    go_enter Try.func48, Try.ntmps48
    go_wp2
    go_ret
    exact ⟨ret_i RE.out, HB.out⟩
  rw [if_neg (by omega)] at hr
  have HR := hid_of (hr.trans (nodeE.eq_1 t))
  have d1 : decide (6 < d) = false := decide_eq_false hdc
  have d1i : decide ((6 : Int) < (d : Int)) = false := decide_eq_false (by omega)
  have d2 : decide (64 ≤ c) = false := decide_eq_false hcc
  have d2i : decide ((64 : Int) ≤ (c : Int)) = false := decide_eq_false (by omega)
  have hsf : shapeB t = fieldsB k lo hi nn np nr := by rw [shape_fields, H.hk, H.hlo, H.hhi, H.ln, H.lp, H.lr]
  obtain ⟨qf, hqf⟩ : ∃ q, q = fieldsB k lo hi nn np nr := ⟨_, rfl⟩
  rw [← hqf] at hsf FA
  have HSF := hid_of hsf
  clear hr hqf hsf hdc hcc H hk
  cases qf
  · have RE : Hid (1 = r) := hid_of (by rw [HR.out, if_pos HSF.out])
    go_enter Try.func48, Try.ntmps48
    go_wp2_with (go_at_call 65; ((with_reducible refine (FA.out _).mono ?_); (rintro e w2 ⟨rfl, h2⟩)); (have K2 := hid_of h2); (obtain ⟨s0, s1, s2, s3, s4, s5⟩ := HC.out w2 h2); clear h2)
    go_ret
    exact ⟨ret_i RE.out, HB.out.trans (K2.out.mono HB.out.size)⟩
  have HR2 : Hid (r = _) := hid_of (HR.out.trans (if_neg (by rw [HSF.out]; simp)))
  by_cases h1 : 12 < nn
  · have RE : Hid (6 = r) := hid_of (by rw [HR2.out, if_pos (.inl (by rw [HLK.out, ← HH.out.ln]; exact h1))])
    have l1 : decide (12 < nn) = true := decide_eq_true h1
    have l1i : decide ((12 : Int) < (nn : Int)) = true := decide_eq_true (by omega)
    clear h1
    go_enter Try.func48, Try.ntmps48
    go_wp2_with (go_at_call 65; ((with_reducible refine (FA.out _).mono ?_); (rintro e w2 ⟨rfl, h2⟩)); (have K2 := hid_of h2); (obtain ⟨s0, s1, s2, s3, s4, s5⟩ := HC.out w2 h2); clear h2)
    go_ret
    exact ⟨ret_i RE.out, HB.out.trans (K2.out.mono HB.out.size)⟩
  have l1 : decide (12 < nn) = false := decide_eq_false h1
  have l1i : decide ((12 : Int) < (nn : Int)) = false := decide_eq_false (by omega)
  by_cases h2 : 32 < nr
  · have RE : Hid (6 = r) := hid_of (by rw [HR2.out, if_pos (.inr (by rw [← HH.out.lr]; exact h2))])
    have l2 : decide (32 < nr) = true := decide_eq_true h2
    have l2i : decide ((32 : Int) < (nr : Int)) = true := decide_eq_true (by omega)
    clear h1 h2
    go_enter Try.func48, Try.ntmps48
    go_wp2_with (go_at_call 65; ((with_reducible refine (FA.out _).mono ?_); (rintro e w2 ⟨rfl, h2⟩)); (have K2 := hid_of h2); (obtain ⟨s0, s1, s2, s3, s4, s5⟩ := HC.out w2 h2); clear h2)
    go_ret
    exact ⟨ret_i RE.out, HB.out.trans (K2.out.mono HB.out.size)⟩
  have l2 : decide (32 < nr) = false := decide_eq_false h2
  have l2i : decide ((32 : Int) < (nr : Int)) = false := decide_eq_false (by omega)
  have HR3 : Hid (r = _) := hid_of (HR2.out.trans (if_neg (by rw [HLK.out, ← HH.out.ln, ← HH.out.lr]; omega)))
  have NM := hid_of (fun (wz : World) (hz : Below (w.alloc (.cells #[.int .i64 k, .int .i64 lo, .int .i64 hi, .slice an nn cn, .slice ap np cp, .slice ar nr cr] 26)).heap.size (w.alloc (.cells #[.int .i64 k, .int .i64 lo, .int .i64 hi, .slice an nn cn, .slice ap np cp, .slice ar nr cr] 26)) wz) => rnamed_any t k lo hi an nn cn ap np cp ar nr cr wz (HH.out.at (HB.out.trans (hz.mono HB.out.size))))
  rw [rnamed_eq HSF.out] at NM
  obtain ⟨qn, hqn⟩ : ∃ q, q = (namesB t && rulesB t.ns t.rs) := ⟨_, rfl⟩
  rw [← hqn] at NM HR3
  clear hqn h1 h2
  cases qn
  · have RE : Hid (3 = r) := hid_of (by rw [HR3.out, if_pos rfl])
    go_enter Try.func48, Try.ntmps48
    go_wp2_with (first | (go_at_call 65; ((with_reducible refine (FA.out _).mono ?_); (rintro e w2 ⟨rfl, h2⟩)); (have K2 := hid_of h2); (obtain ⟨s0, s1, s2, s3, s4, s5⟩ := HC.out w2 h2); clear h2) | (go_at_call 66; ((with_reducible refine (NM.out _ K2.out).mono ?_); (rintro e w4 ⟨rfl, h4⟩)); (have K4 := hid_of (K2.out.trans (h4.mono K2.out.size))); (obtain ⟨v0, v1, v2, v3, v4, v5⟩ := HC.out w4 K4.out); clear h4 s0 s1 s2 s3 s4 s5))
    go_ret
    exact ⟨ret_i RE.out, HB.out.trans (K4.out.mono HB.out.size)⟩
  have HR4 : Hid (r = _) := hid_of (HR3.out.trans (if_neg (by simp)))
  by_cases h1 : hi < lo
  · have RE : Hid (5 = r) := hid_of (by rw [HR4.out, if_pos (by rw [← HH.out.hlo, ← HH.out.hhi]; exact .inl h1)])
    have d3 : decide (hi < lo) = true := decide_eq_true h1
    clear h1
    go_enter Try.func48, Try.ntmps48
    go_wp2_with (first | (go_at_call 65; ((with_reducible refine (FA.out _).mono ?_); (rintro e w2 ⟨rfl, h2⟩)); (have K2 := hid_of h2); (obtain ⟨s0, s1, s2, s3, s4, s5⟩ := HC.out w2 h2); clear h2) | (go_at_call 66; ((with_reducible refine (NM.out _ K2.out).mono ?_); (rintro e w4 ⟨rfl, h4⟩)); (have K4 := hid_of (K2.out.trans (h4.mono K2.out.size))); (obtain ⟨v0, v1, v2, v3, v4, v5⟩ := HC.out w4 K4.out); clear h4 s0 s1 s2 s3 s4 s5))
    go_ret
    exact ⟨ret_i RE.out, HB.out.trans (K4.out.mono HB.out.size)⟩
  have d3 : decide (hi < lo) = false := decide_eq_false h1
  by_cases h2 : lo < -1000000000
  · have RE : Hid (5 = r) := hid_of (by rw [HR4.out, if_pos (by rw [← HH.out.hlo, ← HH.out.hhi]; exact .inr (.inl h2))])
    have d4 : decide (lo < -1000000000) = true := decide_eq_true h2
    clear h1 h2
    go_enter Try.func48, Try.ntmps48
    go_wp2_with (first | (go_at_call 65; ((with_reducible refine (FA.out _).mono ?_); (rintro e w2 ⟨rfl, h2⟩)); (have K2 := hid_of h2); (obtain ⟨s0, s1, s2, s3, s4, s5⟩ := HC.out w2 h2); clear h2) | (go_at_call 66; ((with_reducible refine (NM.out _ K2.out).mono ?_); (rintro e w4 ⟨rfl, h4⟩)); (have K4 := hid_of (K2.out.trans (h4.mono K2.out.size))); (obtain ⟨v0, v1, v2, v3, v4, v5⟩ := HC.out w4 K4.out); clear h4 s0 s1 s2 s3 s4 s5))
    go_ret
    exact ⟨ret_i RE.out, HB.out.trans (K4.out.mono HB.out.size)⟩
  have d4 : decide (lo < -1000000000) = false := decide_eq_false h2
  by_cases h3 : 1000000000 < hi
  · have RE : Hid (5 = r) := hid_of (by rw [HR4.out, if_pos (by rw [← HH.out.hlo, ← HH.out.hhi]; exact .inr (.inr h3))])
    have d5 : decide (1000000000 < hi) = true := decide_eq_true h3
    clear h1 h2 h3
    go_enter Try.func48, Try.ntmps48
    go_wp2_with (first | (go_at_call 65; ((with_reducible refine (FA.out _).mono ?_); (rintro e w2 ⟨rfl, h2⟩)); (have K2 := hid_of h2); (obtain ⟨s0, s1, s2, s3, s4, s5⟩ := HC.out w2 h2); clear h2) | (go_at_call 66; ((with_reducible refine (NM.out _ K2.out).mono ?_); (rintro e w4 ⟨rfl, h4⟩)); (have K4 := hid_of (K2.out.trans (h4.mono K2.out.size))); (obtain ⟨v0, v1, v2, v3, v4, v5⟩ := HC.out w4 K4.out); clear h4 s0 s1 s2 s3 s4 s5))
    go_ret
    exact ⟨ret_i RE.out, HB.out.trans (K4.out.mono HB.out.size)⟩
  have d5 : decide (1000000000 < hi) = false := decide_eq_false h3
  have HR5 : Hid (r = _) := hid_of (HR4.out.trans (if_neg (by rw [← HH.out.hlo, ← HH.out.hhi]; omega)))
  clear h1 h2 h3
  have RE : Hid (0 = r) := hid_of (by rw [HR5.out, if_neg (by rw [← HH.out.hk, HK.out]; simp)])
  go_enter Try.func48, Try.ntmps48
  go_wp2_with (first | (go_at_call 65; ((with_reducible refine (FA.out _).mono ?_); (rintro e w2 ⟨rfl, h2⟩)); (have K2 := hid_of h2); (obtain ⟨s0, s1, s2, s3, s4, s5⟩ := HC.out w2 h2); clear h2) | (go_at_call 66; ((with_reducible refine (NM.out _ K2.out).mono ?_); (rintro e w4 ⟨rfl, h4⟩)); (have K4 := hid_of (K2.out.trans (h4.mono K2.out.size))); (obtain ⟨v0, v1, v2, v3, v4, v5⟩ := HC.out w4 K4.out); clear h4 s0 s1 s2 s3 s4 s5))
  go_ret
  exact ⟨ret_i RE.out, HB.out.trans (K4.out.mono HB.out.size)⟩
end Go.Proofs.Ytdmonbcinlmljaa

/- The reference's node. Bounds on sizes alone. -/
namespace Go.Proofs.Ytdmonbcinlmljaa
open Go.RowKit

set_option maxRecDepth 100000 in
set_option maxHeartbeats 6400000 in
theorem rnodeX (t : Lat) (k lo hi : Int) (an : Option Addr) (nn cn : Nat) (ap : Option Addr) (np cp : Nat) (ar : Option Addr) (nr cr : Nat) (d c : Nat) (w : World) (H : LO w k lo hi an nn cn ap np cp ar nr cr t) (hd : d ≤ 9) (hc : c ≤ 64) (hk : k ≠ 6 ∧ k ≠ 10) : Calls Try.prog 48 #[.agg #[.int .i64 k, .int .i64 lo, .int .i64 hi, .slice an nn cn, .slice ap np cp, .slice ar nr cr], .int .i64 (d : Nat), .int .i64 (c : Nat)] w (ErP (rnodeE t d c) w) := by
  obtain ⟨r, hr⟩ : ∃ r, r = rnodeE t d c := ⟨_, rfl⟩
  rw [← hr]
  have HB := hid_of (bel_alloc w (.cells #[.int .i64 k, .int .i64 lo, .int .i64 hi, .slice an nn cn, .slice ap np cp, .slice ar nr cr] 26))
  have HC : Hid (∀ w', Below (w.alloc (.cells #[.int .i64 k, .int .i64 lo, .int .i64 hi, .slice an nn cn, .slice ap np cp, .slice ar nr cr] 26)).heap.size (w.alloc (.cells #[.int .i64 k, .int .i64 lo, .int .i64 hi, .slice an nn cn, .slice ap np cp, .slice ar nr cr] 26)) w' → _) := hid_of (fun w' h => box6 k lo hi an nn cn ap np cp ar nr cr h)
  have FA := hid_of (fun w => rshape_any k lo hi an nn cn ap np cp ar nr cr w)
  have hlim : limL k = 32 := by unfold limL; rw [if_neg (by omega), if_neg (by omega)]
  have HLK : Hid (limL t.k = 32) := hid_of (by rw [← H.hk]; exact hlim)
  have e6 : (k == 6) = false := beq_eq_false_iff_ne.2 hk.1
  have e10 : (k == 10) = false := beq_eq_false_iff_ne.2 hk.2
  have hcn : nn ≤ 9223372036854775807 := by have := rds_open H.n; omega
  have hcr : nr ≤ 9223372036854775807 := by have := H.r.len; omega
  have hcp : np ≤ 9223372036854775807 := by have := H.p.len; omega
  have HH := hid_of H
  have HK := hid_of hk
  unfold rnodeE at hr
  clear hlim
  by_cases hdc : 6 < d
  · have RE : Hid (6 = r) := hid_of (by rw [hr, if_pos (.inl hdc)])
    have d1 : decide (6 < d) = true := decide_eq_true hdc
    have d1i : decide ((6 : Int) < (d : Int)) = true := decide_eq_true (by omega)
    clear hr hdc H hk
    go_enter Try.func48, Try.ntmps48
    go_wp2
    go_ret
    exact ⟨ret_i RE.out, HB.out⟩
  by_cases hcc : 64 ≤ c
  · have RE : Hid (6 = r) := hid_of (by rw [hr, if_pos (.inr hcc)])
    have d1 : decide (6 < d) = false := decide_eq_false hdc
    have d1i : decide ((6 : Int) < (d : Int)) = false := decide_eq_false (by omega)
    have d2 : decide (64 ≤ c) = true := decide_eq_true hcc
    have d2i : decide ((64 : Int) ≤ (c : Int)) = true := decide_eq_true (by omega)
    clear hr hdc hcc H hk
    go_enter Try.func48, Try.ntmps48
    go_wp2
    go_ret
    exact ⟨ret_i RE.out, HB.out⟩
  rw [if_neg (by omega)] at hr
  have HR := hid_of (hr.trans (nodeE.eq_1 t))
  have d1 : decide (6 < d) = false := decide_eq_false hdc
  have d1i : decide ((6 : Int) < (d : Int)) = false := decide_eq_false (by omega)
  have d2 : decide (64 ≤ c) = false := decide_eq_false hcc
  have d2i : decide ((64 : Int) ≤ (c : Int)) = false := decide_eq_false (by omega)
  have hsf : shapeB t = fieldsB k lo hi nn np nr := by rw [shape_fields, H.hk, H.hlo, H.hhi, H.ln, H.lp, H.lr]
  obtain ⟨qf, hqf⟩ : ∃ q, q = fieldsB k lo hi nn np nr := ⟨_, rfl⟩
  rw [← hqf] at hsf FA
  have HSF := hid_of hsf
  clear hr hqf hsf hdc hcc H hk
  cases qf
  · have RE : Hid (1 = r) := hid_of (by rw [HR.out, if_pos HSF.out])
    go_enter Try.func48, Try.ntmps48
    go_wp2_with (go_at_call 65; ((with_reducible refine (FA.out _).mono ?_); (rintro e w2 ⟨rfl, h2⟩)); (have K2 := hid_of h2); (obtain ⟨s0, s1, s2, s3, s4, s5⟩ := HC.out w2 h2); clear h2)
    go_ret
    exact ⟨ret_i RE.out, HB.out.trans (K2.out.mono HB.out.size)⟩
  have HR2 : Hid (r = _) := hid_of (HR.out.trans (if_neg (by rw [HSF.out]; simp)))
  by_cases h1 : 32 < nn
  · have RE : Hid (6 = r) := hid_of (by rw [HR2.out, if_pos (.inl (by rw [HLK.out, ← HH.out.ln]; exact h1))])
    have l1 : decide (32 < nn) = true := decide_eq_true h1
    have l1i : decide ((32 : Int) < (nn : Int)) = true := decide_eq_true (by omega)
    clear h1
    go_enter Try.func48, Try.ntmps48
    go_wp2_with (go_at_call 65; ((with_reducible refine (FA.out _).mono ?_); (rintro e w2 ⟨rfl, h2⟩)); (have K2 := hid_of h2); (obtain ⟨s0, s1, s2, s3, s4, s5⟩ := HC.out w2 h2); clear h2)
    go_ret
    exact ⟨ret_i RE.out, HB.out.trans (K2.out.mono HB.out.size)⟩
  have l1 : decide (32 < nn) = false := decide_eq_false h1
  have l1i : decide ((32 : Int) < (nn : Int)) = false := decide_eq_false (by omega)
  by_cases h2 : 32 < nr
  · have RE : Hid (6 = r) := hid_of (by rw [HR2.out, if_pos (.inr (by rw [← HH.out.lr]; exact h2))])
    have l2 : decide (32 < nr) = true := decide_eq_true h2
    have l2i : decide ((32 : Int) < (nr : Int)) = true := decide_eq_true (by omega)
    clear h1 h2
    go_enter Try.func48, Try.ntmps48
    go_wp2_with (go_at_call 65; ((with_reducible refine (FA.out _).mono ?_); (rintro e w2 ⟨rfl, h2⟩)); (have K2 := hid_of h2); (obtain ⟨s0, s1, s2, s3, s4, s5⟩ := HC.out w2 h2); clear h2)
    go_ret
    exact ⟨ret_i RE.out, HB.out.trans (K2.out.mono HB.out.size)⟩
  have l2 : decide (32 < nr) = false := decide_eq_false h2
  have l2i : decide ((32 : Int) < (nr : Int)) = false := decide_eq_false (by omega)
  have HR3 : Hid (r = _) := hid_of (HR2.out.trans (if_neg (by rw [HLK.out, ← HH.out.ln, ← HH.out.lr]; omega)))
  have NM := hid_of (fun (wz : World) (hz : Below (w.alloc (.cells #[.int .i64 k, .int .i64 lo, .int .i64 hi, .slice an nn cn, .slice ap np cp, .slice ar nr cr] 26)).heap.size (w.alloc (.cells #[.int .i64 k, .int .i64 lo, .int .i64 hi, .slice an nn cn, .slice ap np cp, .slice ar nr cr] 26)) wz) => rnamed_any t k lo hi an nn cn ap np cp ar nr cr wz (HH.out.at (HB.out.trans (hz.mono HB.out.size))))
  rw [rnamed_eq HSF.out] at NM
  obtain ⟨qn, hqn⟩ : ∃ q, q = (namesB t && rulesB t.ns t.rs) := ⟨_, rfl⟩
  rw [← hqn] at NM HR3
  clear hqn h1 h2
  cases qn
  · have RE : Hid (3 = r) := hid_of (by rw [HR3.out, if_pos rfl])
    go_enter Try.func48, Try.ntmps48
    go_wp2_with (first | (go_at_call 65; ((with_reducible refine (FA.out _).mono ?_); (rintro e w2 ⟨rfl, h2⟩)); (have K2 := hid_of h2); (obtain ⟨s0, s1, s2, s3, s4, s5⟩ := HC.out w2 h2); clear h2) | (go_at_call 66; ((with_reducible refine (NM.out _ K2.out).mono ?_); (rintro e w4 ⟨rfl, h4⟩)); (have K4 := hid_of (K2.out.trans (h4.mono K2.out.size))); (obtain ⟨v0, v1, v2, v3, v4, v5⟩ := HC.out w4 K4.out); clear h4 s0 s1 s2 s3 s4 s5))
    go_ret
    exact ⟨ret_i RE.out, HB.out.trans (K4.out.mono HB.out.size)⟩
  have HR4 : Hid (r = _) := hid_of (HR3.out.trans (if_neg (by simp)))
  by_cases h1 : hi < lo
  · have RE : Hid (5 = r) := hid_of (by rw [HR4.out, if_pos (by rw [← HH.out.hlo, ← HH.out.hhi]; exact .inl h1)])
    have d3 : decide (hi < lo) = true := decide_eq_true h1
    clear h1
    go_enter Try.func48, Try.ntmps48
    go_wp2_with (first | (go_at_call 65; ((with_reducible refine (FA.out _).mono ?_); (rintro e w2 ⟨rfl, h2⟩)); (have K2 := hid_of h2); (obtain ⟨s0, s1, s2, s3, s4, s5⟩ := HC.out w2 h2); clear h2) | (go_at_call 66; ((with_reducible refine (NM.out _ K2.out).mono ?_); (rintro e w4 ⟨rfl, h4⟩)); (have K4 := hid_of (K2.out.trans (h4.mono K2.out.size))); (obtain ⟨v0, v1, v2, v3, v4, v5⟩ := HC.out w4 K4.out); clear h4 s0 s1 s2 s3 s4 s5))
    go_ret
    exact ⟨ret_i RE.out, HB.out.trans (K4.out.mono HB.out.size)⟩
  have d3 : decide (hi < lo) = false := decide_eq_false h1
  by_cases h2 : lo < -1000000000
  · have RE : Hid (5 = r) := hid_of (by rw [HR4.out, if_pos (by rw [← HH.out.hlo, ← HH.out.hhi]; exact .inr (.inl h2))])
    have d4 : decide (lo < -1000000000) = true := decide_eq_true h2
    clear h1 h2
    go_enter Try.func48, Try.ntmps48
    go_wp2_with (first | (go_at_call 65; ((with_reducible refine (FA.out _).mono ?_); (rintro e w2 ⟨rfl, h2⟩)); (have K2 := hid_of h2); (obtain ⟨s0, s1, s2, s3, s4, s5⟩ := HC.out w2 h2); clear h2) | (go_at_call 66; ((with_reducible refine (NM.out _ K2.out).mono ?_); (rintro e w4 ⟨rfl, h4⟩)); (have K4 := hid_of (K2.out.trans (h4.mono K2.out.size))); (obtain ⟨v0, v1, v2, v3, v4, v5⟩ := HC.out w4 K4.out); clear h4 s0 s1 s2 s3 s4 s5))
    go_ret
    exact ⟨ret_i RE.out, HB.out.trans (K4.out.mono HB.out.size)⟩
  have d4 : decide (lo < -1000000000) = false := decide_eq_false h2
  by_cases h3 : 1000000000 < hi
  · have RE : Hid (5 = r) := hid_of (by rw [HR4.out, if_pos (by rw [← HH.out.hlo, ← HH.out.hhi]; exact .inr (.inr h3))])
    have d5 : decide (1000000000 < hi) = true := decide_eq_true h3
    clear h1 h2 h3
    go_enter Try.func48, Try.ntmps48
    go_wp2_with (first | (go_at_call 65; ((with_reducible refine (FA.out _).mono ?_); (rintro e w2 ⟨rfl, h2⟩)); (have K2 := hid_of h2); (obtain ⟨s0, s1, s2, s3, s4, s5⟩ := HC.out w2 h2); clear h2) | (go_at_call 66; ((with_reducible refine (NM.out _ K2.out).mono ?_); (rintro e w4 ⟨rfl, h4⟩)); (have K4 := hid_of (K2.out.trans (h4.mono K2.out.size))); (obtain ⟨v0, v1, v2, v3, v4, v5⟩ := HC.out w4 K4.out); clear h4 s0 s1 s2 s3 s4 s5))
    go_ret
    exact ⟨ret_i RE.out, HB.out.trans (K4.out.mono HB.out.size)⟩
  have d5 : decide (1000000000 < hi) = false := decide_eq_false h3
  have HR5 : Hid (r = _) := hid_of (HR4.out.trans (if_neg (by rw [← HH.out.hlo, ← HH.out.hhi]; omega)))
  clear h1 h2 h3
  by_cases h7 : k = 7
  case neg =>
    have RE : Hid (0 = r) := hid_of (by rw [HR5.out, if_neg (by rw [← HH.out.hk]; exact fun h => h7 h.1)])
    have e7 : (k == 7) = false := beq_eq_false_iff_ne.2 h7
    clear h7
    go_enter Try.func48, Try.ntmps48
    go_wp2_with (first | (go_at_call 65; ((with_reducible refine (FA.out _).mono ?_); (rintro e w2 ⟨rfl, h2⟩)); (have K2 := hid_of h2); (obtain ⟨s0, s1, s2, s3, s4, s5⟩ := HC.out w2 h2); clear h2) | (go_at_call 66; ((with_reducible refine (NM.out _ K2.out).mono ?_); (rintro e w4 ⟨rfl, h4⟩)); (have K4 := hid_of (K2.out.trans (h4.mono K2.out.size))); (obtain ⟨v0, v1, v2, v3, v4, v5⟩ := HC.out w4 K4.out); clear h4 s0 s1 s2 s3 s4 s5))
    go_ret
    exact ⟨ret_i RE.out, HB.out.trans (K4.out.mono HB.out.size)⟩
  subst h7
  have hsh := HSF.out
  obtain ⟨p0, p1, hps⟩ : ∃ p0 p1, t.ps = [p0, p1] := by
    have h2 : t.ps.length = 2 := by
      unfold shapeB at hsh
      simp only [← HH.out.hk] at hsh
      have := of_decide_eq_true hsh
      exact this.2.2.2.1
    match hm : t.ps, h2 with
    | [a, b], _ => exact ⟨a, b, rfl⟩
  have h2 : np = 2 := by rw [HH.out.lp, hps]; rfl
  subst h2
  obtain ⟨g, o, kA, loA, hiA, anA, nnA, cnA, apA, npA, cpA, arA, nrA, crA, rfl, LA, hcA⟩ := HH.out.p.get (show t.ps[0]? = some p0 by rw [hps]; rfl)
  have CH := hid_of (fun (wz : World) (hz : Below (w.alloc (.cells #[.int .i64 7, .int .i64 lo, .int .i64 hi, .slice an nn cn, .slice (some ⟨g, o, none⟩) 2 cp, .slice ar nr cr] 26)).heap.size (w.alloc (.cells #[.int .i64 7, .int .i64 lo, .int .i64 hi, .slice an nn cn, .slice (some ⟨g, o, none⟩) 2 cp, .slice ar nr cr] 26)) wz) => rchain_any p0 kA loA hiA anA nnA cnA apA npA cpA arA nrA crA wz (LA.at (HB.out.trans (hz.mono HB.out.size))))
  have HCA : Hid (∀ wz, Below (w.alloc (.cells #[.int .i64 7, .int .i64 lo, .int .i64 hi, .slice an nn cn, .slice (some ⟨g, o, none⟩) 2 cp, .slice ar nr cr] 26)).heap.size (w.alloc (.cells #[.int .i64 7, .int .i64 lo, .int .i64 hi, .slice an nn cn, .slice (some ⟨g, o, none⟩) 2 cp, .slice ar nr cr] 26)) wz → _) := hid_of (fun wz hz => hcA wz (HB.out.trans (hz.mono HB.out.size)))
  simp only [Nat.zero_mul, Nat.add_zero] at HCA
  have hch : chainsL (t.ps.take 1) = chainL p0 := by rw [hps, chainsL_all]; simp
  obtain ⟨qc, hqc⟩ : ∃ q, q = chainL p0 := ⟨_, rfl⟩
  rw [hch, ← hqc] at HR5
  rw [← hqc] at CH
  clear hqc hch hps hsh hcA LA
  cases qc
  · have RE : Hid (4 = r) := hid_of (by rw [HR5.out, if_pos (by rw [← HH.out.hk]; exact ⟨rfl, rfl⟩)])
    go_enter Try.func48, Try.ntmps48
    go_wp2_with (first | (go_at_call 65; ((with_reducible refine (FA.out _).mono ?_); (rintro e w2 ⟨rfl, h2⟩)); (have K2 := hid_of h2); (obtain ⟨s0, s1, s2, s3, s4, s5⟩ := HC.out w2 h2); clear h2) | (go_at_call 66; ((with_reducible refine (NM.out _ K2.out).mono ?_); (rintro e w4 ⟨rfl, h4⟩)); (have K4 := hid_of (K2.out.trans (h4.mono K2.out.size))); (obtain ⟨v0, v1, v2, v3, v4, v5⟩ := HC.out w4 K4.out); (obtain ⟨y0, y1, y2, y3, y4, y5⟩ := HCA.out w4 K4.out); clear h4 s0 s1 s2 s3 s4 s5) | (go_at_call 67; ((with_reducible refine (CH.out _ K4.out).mono ?_); (rintro e w6 ⟨rfl, h6⟩)); (have K6 := hid_of (K4.out.trans (h6.mono K4.out.size))); clear h6))
    go_ret
    exact ⟨ret_i RE.out, HB.out.trans (K6.out.mono HB.out.size)⟩
  · have RE : Hid (0 = r) := hid_of (by rw [HR5.out, if_neg (by simp)])
    go_enter Try.func48, Try.ntmps48
    go_wp2_with (first | (go_at_call 65; ((with_reducible refine (FA.out _).mono ?_); (rintro e w2 ⟨rfl, h2⟩)); (have K2 := hid_of h2); (obtain ⟨s0, s1, s2, s3, s4, s5⟩ := HC.out w2 h2); clear h2) | (go_at_call 66; ((with_reducible refine (NM.out _ K2.out).mono ?_); (rintro e w4 ⟨rfl, h4⟩)); (have K4 := hid_of (K2.out.trans (h4.mono K2.out.size))); (obtain ⟨v0, v1, v2, v3, v4, v5⟩ := HC.out w4 K4.out); (obtain ⟨y0, y1, y2, y3, y4, y5⟩ := HCA.out w4 K4.out); clear h4 s0 s1 s2 s3 s4 s5) | (go_at_call 67; ((with_reducible refine (CH.out _ K4.out).mono ?_); (rintro e w6 ⟨rfl, h6⟩)); (have K6 := hid_of (K4.out.trans (h6.mono K4.out.size))); clear h6))
    go_ret
    exact ⟨ret_i RE.out, HB.out.trans (K6.out.mono HB.out.size)⟩
theorem rnode_any (t : Lat) (k lo hi : Int) (an : Option Addr) (nn cn : Nat) (ap : Option Addr) (np cp : Nat) (ar : Option Addr) (nr cr : Nat) (d c : Nat) (w : World) (H : LO w k lo hi an nn cn ap np cp ar nr cr t) (hd : d ≤ 9) (hc : c ≤ 64) : Calls Try.prog 48 #[.agg #[.int .i64 k, .int .i64 lo, .int .i64 hi, .slice an nn cn, .slice ap np cp, .slice ar nr cr], .int .i64 (d : Nat), .int .i64 (c : Nat)] w (ErP (rnodeE t d c) w) := by
  by_cases h6 : k = 6
  · exact rnode6 t k lo hi an nn cn ap np cp ar nr cr d c w H hd hc h6
  by_cases h10 : k = 10
  · exact rnode10 t k lo hi an nn cn ap np cp ar nr cr d c w H hd hc h10
  exact rnodeX t k lo hi an nn cn ap np cp ar nr cr d c w H hd hc ⟨h6, h10⟩
end Go.Proofs.Ytdmonbcinlmljaa

/- The reference's walk and Check. Bounds on sizes alone. -/
namespace Go.Proofs.Ytdmonbcinlmljaa
open Go.RowKit

/-- The reference counts no node that has an error. -/
def WkP (t : Lat) (d c : Nat) (w : World) (e : Ending) (w' : World) : Prop := (∃ n : Nat, e = .returned (.tuple #[.int .i64 (n : Nat), .int .i64 (chkT t d c).2]) ∧ ((chkT t d c).2 = 0 → n = (chkT t d c).1)) ∧ Below w.heap.size w w'
theorem rnode_0 {t : Lat} {d c : Nat} (h : rnodeE t d c ≠ 0) : (chkT t d c).2 = rnodeE t d c := by
  unfold rnodeE at h ⊢
  rw [chkT_eq]
  split
  · rfl
  · rename_i h2
    rw [if_neg h2] at h
    rw [if_pos h]
theorem rnode_1 {t : Lat} {d c : Nat} (h : rnodeE t d c = 0) : chkT t d c = chkTs t.ps (d + 1) (c + 1) ∧ d ≤ 6 ∧ c < 64 := by
  unfold rnodeE at h
  split at h
  · cases h
  · rename_i h2
    rw [chkT_eq, if_neg h2, if_neg (by rw [h]; simp)]
    exact ⟨rfl, by omega, by omega⟩
theorem chkTs_snd {l : List Lat} {d c : Nat} {p : Lat} {i : Nat} (h : l[i]? = some p) (h2 : (chkT p d c).2 ≠ 0) : (chkTs (l.drop i) d c).2 = (chkT p d c).2 := by
  rw [chkTs_step h, if_pos h2]
set_option maxRecDepth 100000 in
set_option maxHeartbeats 6400000 in
theorem rwalk_any : ∀ (t : Lat) (k lo hi : Int) (an : Option Addr) (nn cn : Nat) (ap : Option Addr) (np cp : Nat) (ar : Option Addr) (nr cr : Nat) (d c : Nat) (w : World), LO w k lo hi an nn cn ap np cp ar nr cr t → d ≤ 7 → c ≤ 64 → Calls Try.prog 26 #[.agg #[.int .i64 k, .int .i64 lo, .int .i64 hi, .slice an nn cn, .slice ap np cp, .slice ar nr cr], .int .i64 (d : Nat), .int .i64 (c : Nat)] w (WkP t d c w) := by
  refine lat_ind ?_
  intro k' lo' hi' ns' ps' rs' ih k lo hi an nn cn ap np cp ar nr cr d c w H hd hc
  obtain ⟨T, hT⟩ : ∃ T, T = Lat.mk k' lo' hi' ns' ps' rs' := ⟨_, rfl⟩
  have hps : T.ps = ps' := by rw [hT]; rfl
  rw [← hT] at H ⊢
  clear hT
  have HBW := hid_of (bel_alloc w (.cells #[.int .i64 k, .int .i64 lo, .int .i64 hi, .slice an nn cn, .slice ap np cp, .slice ar nr cr] 26))
  have HX : Hid (∀ wz, Below (w.alloc (.cells #[.int .i64 k, .int .i64 lo, .int .i64 hi, .slice an nn cn, .slice ap np cp, .slice ar nr cr] 26)).heap.size (w.alloc (.cells #[.int .i64 k, .int .i64 lo, .int .i64 hi, .slice an nn cn, .slice ap np cp, .slice ar nr cr] 26)) wz → _) := hid_of (fun wz hz => box6 k lo hi an nn cn ap np cp ar nr cr hz)
  have ND := hid_of (rnode_any T k lo hi an nn cn ap np cp ar nr cr d c (w.alloc (.cells #[.int .i64 k, .int .i64 lo, .int .i64 hi, .slice an nn cn, .slice ap np cp, .slice ar nr cr] 26)) (H.at HBW.out) (by omega) hc)
  obtain ⟨E, hE⟩ : ∃ E, E = rnodeE T d c := ⟨_, rfl⟩
  rw [← hE] at ND
  have HE := hid_of hE
  have hl := H.p.len
  have hnp : np ≤ 9223372036854775807 := by omega
  have HP := hid_of H.p
  have HNP := hid_of hl.1
  rw [hps] at HP HNP
  have IH := hid_of ih
  have HPS := hid_of hps
  have hc9 : c ≤ 64 := hc
  have hd9 : d ≤ 7 := hd
  obtain ⟨WW, hWW⟩ : ∃ WW, WW = (w.alloc (.cells #[.int .i64 k, .int .i64 lo, .int .i64 hi, .slice an nn cn, .slice ap np cp, .slice ar nr cr] 26)) := ⟨_, rfl⟩
  have K0 : Hid (∀ w1, Below (w.alloc (.cells #[.int .i64 k, .int .i64 lo, .int .i64 hi, .slice an nn cn, .slice ap np cp, .slice ar nr cr] 26)).heap.size (w.alloc (.cells #[.int .i64 k, .int .i64 lo, .int .i64 hi, .slice an nn cn, .slice ap np cp, .slice ar nr cr] 26)) w1 → Below WW.heap.size WW w1) := hid_of (fun w1 h => by rw [hWW]; exact h)
  rw [← hWW] at HX HBW
  clear hE H ih hl hps hWW hc hd
  by_cases h0 : E = 0
  case neg =>
    have RE : Hid ((chkT T d c).2 = E) := hid_of (by rw [HE.out]; exact rnode_0 (by rw [← HE.out]; exact h0))
    have e0 : (E == 0) = false := beq_eq_false_iff_ne.2 h0
    have e0' : (E != 0) = true := bne_iff_ne.2 h0
    have HN0 := hid_of h0
    clear h0
    go_enter Try.func26, Try.ntmps26
    go_wp2_with (go_at_call 48; ((with_reducible refine (ND.out).mono ?_); (rintro e w1 ⟨rfl, h1⟩); (have E1 := hid_of (K0.out w1 h1)); clear h1))
    go_ret2
    exact ⟨⟨c, by rw [RE.out] <;> rfl, fun h => absurd (RE.out.symm.trans h) HN0.out⟩, HBW.out.trans (E1.out.mono HBW.out.size)⟩
  subst h0
  obtain ⟨hq1, hd6, hc64⟩ := rnode_1 HE.out.symm
  rw [HPS.out] at hq1
  have HQ := hid_of hq1
  obtain ⟨R, hR⟩ : ∃ R, R = chkT T d c := ⟨_, rfl⟩
  have HRR := hid_of hR
  clear hq1 hR
  go_enter Try.func26, Try.ntmps26
  go_wp2_with (go_at_call 48; ((with_reducible refine (ND.out).mono ?_); (rintro e w1 ⟨rfl, h1⟩); (have E1 := hid_of (K0.out w1 h1)); clear h1))
  clear ND
  go_loopw [9, 10] (fun nv iv wr => ∃ i ni : Nat, iv = .int .i64 i ∧ nv = .int .i64 ni ∧ i ≤ np ∧ Hid (chkTs (ps'.drop i) (d + 1) ni = R) ∧ Hid (ni ≤ 64) ∧ Hid (Below WW.heap.size WW wr)) (fun _ iv _ => np - (intOf iv).toNat)
  case atStart => exact ⟨0, c + 1, rfl, by go_num, Nat.zero_le _, hid_of (by rw [HRR.out]; exact HQ.out.symm), hid_of hc64, E1⟩
  case round =>
    obtain ⟨i, ni, rfl, rfl, hin, hm, hni, hb⟩ := hrel
    obtain ⟨p0, p1, p2, p3, p4, p5⟩ := HX.out wr hb.out
    have HBWR : Hid (Below w.heap.size w wr) := hid_of (HBW.out.trans (hb.out.mono HBW.out.size))
    by_cases hlt : i < np
    · have d1 : decide (i < np) = true := decide_eq_true hlt
      have hlt' : (i : Int) < (np : Int) := by omega
      have HLT := hid_of hlt
      have hn9 : ni ≤ 64 := hni.out
      obtain ⟨u, hu⟩ : ∃ u, ps'[i]? = some u := ⟨_, List.getElem?_eq_getElem (by have := HNP.out; omega)⟩
      obtain ⟨g, o, kA, loA, hiA, anA, nnA, cnA, apA, npA, cpA, arA, nrA, crA, rfl, LA, hcA⟩ := HP.out.get hu
      obtain ⟨c0, c1, c2, c3, c4, c5⟩ := hcA wr HBWR.out
      have CALL := hid_of (IH.out u (List.mem_of_getElem? hu) kA loA hiA anA nnA cnA apA npA cpA arA nrA crA (d + 1) ni wr (LA.at HBWR.out) (by omega) hn9)
      unfold WkP at CALL
      have HS := hid_of (hm.out.symm.trans (chkTs_step hu))
      have HLE := hid_of (chkT_le u (d + 1) ni hni.out)
      obtain ⟨q, hq⟩ : ∃ q, q = chkT u (d + 1) ni := ⟨_, rfl⟩
      rw [← hq] at CALL HS HLE
      obtain ⟨qc, qe⟩ := q
      simp only at CALL HS HLE
      clear hq hlt hu hcA LA
      by_cases h0 : qe = 0
      · subst h0
        have HS2 : Hid (chkTs (ps'.drop (i + 1)) (d + 1) qc = R) := hid_of (HS.out.trans (if_neg (by simp))).symm
        go_wp2_with (go_at_call 26; go_loud (refine (CALL.out).mono ?_; rintro e w3 ⟨⟨m, rfl, hm2⟩, h4⟩; have HM2 := hid_of (hm2 rfl); have K3 := hid_of h4; clear hm2 h4))
        go_roundw
        case rel => exact ⟨i + 1, qc, by go_num, by rw [HM2.out], HLT.out, HS2, hid_of HLE.out.2, hid_of (hb.out.trans (K3.out.mono hb.out.size))⟩
        case measure => have := HLT.out; simp [intOf]; omega
      · have e0 : (qe == 0) = false := beq_eq_false_iff_ne.2 h0
        have e0' : (qe != 0) = true := bne_iff_ne.2 h0
        have RE : Hid (R = (qc, qe)) := hid_of (HS.out.trans (if_pos h0))
        have HN0 := hid_of h0
        clear h0
        go_wp2_with (go_at_call 26; go_loud (refine (CALL.out).mono ?_; rintro e w3 ⟨⟨m, rfl, hm2⟩, h4⟩; have K3 := hid_of h4; clear hm2 h4))
        go_ret2
        exact ⟨⟨ni, by rw [← HRR.out, RE.out] <;> rfl, fun h => absurd (by rw [← HRR.out, RE.out] at h; exact h) HN0.out⟩, HBWR.out.trans (K3.out.mono HBWR.out.size)⟩
    · have d1 : decide (i < np) = false := decide_eq_false hlt
      have RE : Hid (R = (ni, 0)) := hid_of (by rw [← hm.out, List.drop_eq_nil_of_le (by have := HNP.out; omega), chkTs])
      clear hlt
      go_wp2
      go_ret2
      exact ⟨⟨ni, by rw [← HRR.out, RE.out] <;> rfl, fun _ => by rw [← HRR.out, RE.out]⟩, HBWR.out⟩
set_option maxRecDepth 100000 in
set_option maxHeartbeats 3200000 in
theorem rcheck_any (t : Lat) (k lo hi : Int) (an : Option Addr) (nn cn : Nat) (ap : Option Addr) (np cp : Nat) (ar : Option Addr) (nr cr : Nat) (w : World) (H : LO w k lo hi an nn cn ap np cp ar nr cr t) : Calls Try.prog 9 #[.agg #[.int .i64 k, .int .i64 lo, .int .i64 hi, .slice an nn cn, .slice ap np cp, .slice ar nr cr]] w (ErP (chkL t) w) := by
  obtain ⟨r, hr⟩ : ∃ r, r = chkL t := ⟨_, rfl⟩
  rw [← hr]
  have HR := hid_of hr
  have HB := hid_of (bel_alloc w (.cells #[.int .i64 k, .int .i64 lo, .int .i64 hi, .slice an nn cn, .slice ap np cp, .slice ar nr cr] 26))
  have CALL := hid_of (rwalk_any t k lo hi an nn cn ap np cp ar nr cr 1 0 (w.alloc (.cells #[.int .i64 k, .int .i64 lo, .int .i64 hi, .slice an nn cn, .slice ap np cp, .slice ar nr cr] 26)) (H.at HB.out) (by omega) (by omega))
  obtain ⟨p0, p1, p2, p3, p4, p5⟩ := box6 k lo hi an nn cn ap np cp ar nr cr (Below.refl _ (w.alloc (.cells #[.int .i64 k, .int .i64 lo, .int .i64 hi, .slice an nn cn, .slice ap np cp, .slice ar nr cr] 26)))
  clear hr H
  go_enter Try.func9, Try.ntmps9
  go_wp2_with (go_at_call 26; go_loud (refine (CALL.out).mono ?_; rintro e w3 ⟨⟨m, rfl, hm2⟩, h4⟩; have K3 := hid_of h4; clear hm2 h4))
  go_ret
  exact ⟨ret_i (by rw [HR.out]; rfl), HB.out.trans (K3.out.mono HB.out.size)⟩
end Go.Proofs.Ytdmonbcinlmljaa

/- Descriptions whose rows lie at or above a block. Bounds on sizes alone. -/
namespace Go.Proofs.Ytdmonbcinlmljaa
open Go.RowKit

/-- The row of a slice lies in a block at or above B. -/
def Ge (B : Nat) (v : Value) : Prop := ∀ (a : Addr) (n c : Nat), v = .slice (some a) n c → B ≤ a.block
theorem Ge.mono {B B' : Nat} {v : Value} (h : Ge B v) (hb : B' ≤ B) : Ge B' v := fun a n c e => Nat.le_trans hb (h a n c e)
theorem Rd.keep {B : Nat} {w w' : World} {v : Value} {l : List Value} (h : Rd w v l) (hB : Ge B v) (hs : w.heap.size ≤ w'.heap.size) (hk : ∀ k, B ≤ k → k < w.heap.size → w'.heap[k]? = w.heap[k]?) : Rd w' v l := by
  obtain ⟨ao, cap, e, h2, h3, h4⟩ := h
  refine ⟨ao, cap, e, h2, h3, fun h0 => ?_⟩
  obtain ⟨g, o, rfl, hg, hc⟩ := h4 h0
  have hb := hk g (hB _ _ _ e) hg
  exact ⟨g, o, rfl, by omega, fun i t ht => (World.cell?_of_block (w := w) hb).trans (hc i t ht)⟩
theorem PRd.keep {B : Nat} {w w' : World} {v : Value} {l : List PV} (h : PRd w v l) (hB : Ge B v) (hs : w.heap.size ≤ w'.heap.size) (hk : ∀ k, B ≤ k → k < w.heap.size → w'.heap[k]? = w.heap[k]?) : PRd w' v l := by
  obtain ⟨ao, cap, e, h2, h3, h4⟩ := h
  refine ⟨ao, cap, e, h2, h3, fun h0 => ?_⟩
  obtain ⟨g, o, rfl, hg, hc⟩ := h4 h0
  have hb := hk g (hB _ _ _ e) hg
  refine ⟨g, o, rfl, by omega, fun i t ht => ?_⟩
  obtain ⟨c0, c1⟩ := hc i t ht
  exact ⟨(World.cell?_of_block (w := w) hb).trans c0, (World.cell?_of_block (w := w) hb).trans c1⟩
theorem SxRd.keep {B : Nat} {w w' : World} {v : Value} {l : List SxV} (h : SxRd w v l) (hB : Ge B v) (hs : w.heap.size ≤ w'.heap.size) (hk : ∀ k, B ≤ k → k < w.heap.size → w'.heap[k]? = w.heap[k]?) : SxRd w' v l := by
  obtain ⟨ao, cap, e, h2, h3, h4⟩ := h
  refine ⟨ao, cap, e, h2, h3, fun h0 => ?_⟩
  obtain ⟨g, o, rfl, hg, hc⟩ := h4 h0
  have hb := hk g (hB _ _ _ e) hg
  refine ⟨g, o, rfl, by omega, fun i t ht => ?_⟩
  obtain ⟨c0, c1, c2, c3, c4, c5⟩ := hc i t ht
  exact ⟨(World.cell?_of_block (w := w) hb).trans c0, (World.cell?_of_block (w := w) hb).trans c1, (World.cell?_of_block (w := w) hb).trans c2, (World.cell?_of_block (w := w) hb).trans c3, (World.cell?_of_block (w := w) hb).trans c4, (World.cell?_of_block (w := w) hb).trans c5⟩
/-- Rules in rows at or above B. -/
def RuB (B : Nat) (w : World) (v : Value) (rs : List Gr) : Prop := ∃ l : List PV, PRd w v l ∧ Ge B v ∧ l.length = rs.length ∧ ∀ (i : Nat) (t : PV) (r : Gr), l[i]? = some t → rs[i]? = some r → Rd w t.1 (ss r.1) ∧ Ge B t.1 ∧ t.2 = .string (ba r.2)
theorem RuB.keep {B : Nat} {w w' : World} {v : Value} {rs : List Gr} (h : RuB B w v rs) (hs : w.heap.size ≤ w'.heap.size) (hk : ∀ k, B ≤ k → k < w.heap.size → w'.heap[k]? = w.heap[k]?) : RuB B w' v rs := by
  obtain ⟨l, h1, h2, h3, h4⟩ := h
  exact ⟨l, h1.keep h2 hs hk, h2, h3, fun i t r ht hr => ⟨(h4 i t r ht hr).1.keep (h4 i t r ht hr).2.1 hs hk, (h4 i t r ht hr).2⟩⟩
theorem RuB.mono {B B' : Nat} {w : World} {v : Value} {rs : List Gr} (h : RuB B w v rs) (hb : B' ≤ B) : RuB B' w v rs := by
  obtain ⟨l, h1, h2, h3, h4⟩ := h
  exact ⟨l, h1, h2.mono hb, h3, fun i t r ht hr => ⟨(h4 i t r ht hr).1, (h4 i t r ht hr).2.1.mono hb, (h4 i t r ht hr).2.2⟩⟩
theorem RuB.ru {B : Nat} {w : World} {v : Value} {rs : List Gr} (h : RuB B w v rs) : RuR w v rs := by
  obtain ⟨l, h1, h2, h3, h4⟩ := h
  exact ⟨l, h1, h3, fun i t r ht hr => ⟨(h4 i t r ht hr).1, (h4 i t r ht hr).2.2⟩⟩
/-- The cells x are the description t, all of its rows at or above B. -/
inductive LB (B : Nat) (w : World) : LX → Lat → Prop
  | mk {x : LX} {t : Lat} (ps : List LX) (hk : x.k = t.k) (hlo : x.lo = t.lo) (hhi : x.hi = t.hi) (rk : R64 x.k) (rlo : R64 x.lo) (rhi : R64 x.hi)
      (hn : Rd w x.vn (ss t.ns)) (bn : Ge B x.vn) (on : Ok t.ns) (hr : RuB B w x.vr t.rs) (or : OkR t.rs) (hp : SxRd w x.vp (ps.map LX.q)) (bp : Ge B x.vp) (hl : ps.length = t.ps.length)
      (hd : ∀ (i : Nat) (y : LX) (u : Lat), ps[i]? = some y → t.ps[i]? = some u → LB B w y u) : LB B w x t
theorem LB.keep {B : Nat} {w w' : World} {x : LX} {t : Lat} (h : LB B w x t) (hs : w.heap.size ≤ w'.heap.size) (hk : ∀ k, B ≤ k → k < w.heap.size → w'.heap[k]? = w.heap[k]?) : LB B w' x t := by
  induction h with
  | mk ps h1 h2 h3 rk rlo rhi hn bn on hr or hp bp hl hd ih => exact .mk ps h1 h2 h3 rk rlo rhi (hn.keep bn hs hk) bn on (hr.keep hs hk) or (hp.keep bp hs hk) bp hl ih
theorem LB.mono {B B' : Nat} {w : World} {x : LX} {t : Lat} (h : LB B w x t) (hb : B' ≤ B) : LB B' w x t := by
  induction h with
  | mk ps h1 h2 h3 rk rlo rhi hn bn on hr or hp bp hl hd ih => exact .mk ps h1 h2 h3 rk rlo rhi hn (bn.mono hb) on (hr.mono hb) or hp (bp.mono hb) hl ih
theorem LB.ld {B : Nat} {w : World} {x : LX} {t : Lat} (h : LB B w x t) : LD w x t := by
  induction h with
  | mk ps h1 h2 h3 rk rlo rhi hn bn on hr or hp bp hl hd ih => exact .mk ps h1 h2 h3 rk rlo rhi hn on hr.ru or hp hl ih
theorem own_lens {w : World} {B E n s : Nat} {cap : Nat} {xo : Option Addr} {xs : List Value} (h : w.ownsRow B E s (.slice xo n cap) n xs) : n ≤ cap ∧ cap ≤ 9223372036854775807 := by
  rcases h.2 with ⟨h1, h2⟩ | ⟨g, cap2, cur, hv, hb, hg, hnc, hcm, hsz, ht⟩
  · cases h1
    exact ⟨by omega, by omega⟩
  · cases hv
    unfold maxLen at hcm
    omega
theorem own_lt {w : World} {base e size n cap g : Nat} {xo : Option Addr} {xs : List Value} (h : w.ownsRow base e size (.slice xo n cap) n xs) (hg : (Value.slice xo n cap).ownBlock = some g) : base ≤ g ∧ g < w.heap.size := h.lt g hg
theorem own_ge {w : World} {base e size n cap : Nat} {xo : Option Addr} {xs : List Value} (h : w.ownsRow base e size (.slice xo n cap) n xs) : Ge base (.slice xo n cap) := fun a n' c e => by
  cases e
  exact (h.lt a.block rfl).1
end Go.Proofs.Ytdmonbcinlmljaa

/- The Reader during a call: where it stands, and what else has stayed; readCount, readNames. Bounds on sizes alone. -/
namespace Go.Proofs.Ytdmonbcinlmljaa
open Go.RowKit

/-- The Reader stands at off without an error; from w to w' it alone has turned. -/
structure RG (b g : Nat) (d : List Int) (w w' : World) (off : Nat) : Prop where
  st : ∃ last, Wr.Rst w' b g d off last 0
  kept : Wr.Kept (fun k => k = b) w w'
section
variable {b g : Nat} {d : List Int} {w w1 w2 : World} {off off' : Nat}
theorem RG.start {last : Nat} (h : Wr.Rst w b g d off last 0) : RG b g d w w off := ⟨⟨_, h⟩, Wr.Kept.refl _ _⟩
theorem RG.size (h : RG b g d w w1 off) : w.heap.size ≤ w1.heap.size := h.kept.size
theorem RG.trans (h : RG b g d w w1 off) (k : RG b g d w1 w2 off') : RG b g d w w2 off' :=
  ⟨k.st, ⟨k.kept.os.trans h.kept.os, k.kept.tape.trans h.kept.tape, k.kept.output.trans h.kept.output, Nat.le_trans h.kept.size k.kept.size, fun x hx hn => (k.kept.block x (Nat.lt_of_lt_of_le hx h.kept.size) hn).trans (h.kept.block x hx hn)⟩⟩
theorem RG.blt (h : RG b g d w w1 off) : b < w1.heap.size := by obtain ⟨_, h⟩ := h.st; exact h.blt
theorem RG.glt (h : RG b g d w w1 off) : g < w1.heap.size := by obtain ⟨_, h⟩ := h.st; exact h.glt
/-- Anything new or changed from B on leaves the Reader alone. -/
theorem RG.bel {B : Nat} (h : RG b g d w w1 off) (hb : Below B w1 w2) (h1 : b < B) (h2 : g < B) (h3 : w.heap.size ≤ B) : RG b g d w w2 off := by
  obtain ⟨⟨last, s⟩, k⟩ := h
  exact ⟨⟨last, s.same (hb.block b h1) (hb.block g h2)⟩, ⟨hb.os.trans k.os, hb.tape.trans k.tape, hb.output.trans k.output, Nat.le_trans k.size hb.size, fun x hx hn => (hb.block x (by omega)).trans (k.block x hx hn)⟩⟩
theorem RG.alloc (h : RG b g d w w1 off) (o : Obj) : RG b g d w (w1.alloc o) off := h.bel (bel_alloc w1 o) h.blt h.glt h.size
theorem RG.of_alloc {o : Obj} (h : RG b g d (w.alloc o) w1 off) : RG b g d w w1 off := ⟨h.st, h.kept.of_alloc⟩
theorem RG.blk (h : RG b g d w w1 off) {k : Nat} (hk : k < w.heap.size) (hn : k ≠ b) : w1.heap[k]? = w.heap[k]? := h.kept.block k hk hn
theorem RG.call (h : RG b g d w w1 off) {f : Nat} {args : Array Value} {P : Ending → World → Prop} (hc : ∀ last, Wr.Rst w1 b g d off last 0 → Calls Try.prog f args w1 fun e w' => P e w' ∧ RG b g d w1 w' off') : Calls Try.prog f args w1 fun e w' => P e w' ∧ RG b g d w1 w' off' := by
  obtain ⟨last, s⟩ := h.st
  exact hc last s
theorem drop_step {d a r : List Int} {off : Nat} (h : d.drop off = a ++ r) : d.drop (off + a.length) = r := by
  rw [← List.drop_drop, h, List.drop_left]
theorem drop_len {d a r : List Int} {off : Nat} (h : d.drop off = a ++ r) (ho : off ≤ d.length) : off + a.length + r.length = d.length := by
  have := congrArg List.length h
  rw [List.length_drop, List.length_append] at this
  omega
theorem uint_rg (n : Nat) {r : List Int} (h : RG b g d w w1 off) (hd : d.drop off = Wr.enc n ++ r) (hn : n < 18446744073709551616) :
    Calls Try.prog 54 #[.pointer (some ⟨b, 0, none⟩)] w1 fun e w' => (e = .returned (.int .u64 n) ∧ w'.heap.size = w1.heap.size) ∧ RG b g d w1 w' (off + (Wr.enc n).length) :=
  h.call fun last s => (Wr.ruint_ok b g off last n (Wr.enc n).length d w1 s (by rw [hd]; exact Wr.dec_enc n r hn)).mono fun e w' ⟨q1, q2, q3, q4⟩ => ⟨⟨q1, q4⟩, ⟨_, q2⟩, q3⟩
theorem int_rg (n : Int) {r : List Int} (h : RG b g d w w1 off) (hd : d.drop off = Wr.enc (Wr.zig n) ++ r) (hn : R64 n) :
    Calls Try.prog 56 #[.pointer (some ⟨b, 0, none⟩)] w1 fun e w' => (e = .returned (.int .i64 n) ∧ w'.heap.size = w1.heap.size) ∧ RG b g d w1 w' (off + (Wr.enc (Wr.zig n)).length) :=
  h.call fun last s => (Wr.rint_ok b g off last (Wr.zig n) (Wr.enc (Wr.zig n)).length d w1 s (by rw [hd]; exact Wr.dec_enc _ r (Wr.zig_lt n hn.1 hn.2))).mono fun e w' ⟨q1, q2, q3, q4⟩ => ⟨⟨by rw [q1, Wr.unzig_zig], q4⟩, ⟨_, q2⟩, q3⟩
theorem strB_of (x : Str) : strOfNums (Wr.strBytes (ba x)) = ba x := by
  unfold strOfNums Wr.strBytes ba
  congr 2
  rw [List.map_map]
  exact (List.map_congr_left (fun a _ => by simp)).trans (List.map_id _)
theorem text_rg (x : Str) {r : List Int} (h : RG b g d w w1 off) (hd : d.drop off = txE x ++ r) (hx : x.length ≤ 16) :
    Calls Try.prog 59 #[.pointer (some ⟨b, 0, none⟩)] w1 fun e w' => (e = .returned (.string (ba x)) ∧ w'.heap.size = w1.heap.size) ∧ RG b g d w1 w' (off + (txE x).length) := by
  have e0 : d.drop off = Wr.enc x.length ++ (Wr.strBytes (ba x) ++ r) := by rw [hd, txE, List.append_assoc]
  have e1 : Wr.dec (d.drop off) = some (x.length, (Wr.enc x.length).length) := by rw [e0]; exact Wr.dec_enc _ _ (by omega)
  have e2 : Wr.decRun (d.drop off) = some ((Wr.enc x.length).length, x.length) := by
    unfold Wr.decRun
    rw [e1]
    have : (d.drop off).length - (Wr.enc x.length).length = (Wr.strBytes (ba x)).length + r.length := by rw [e0, List.length_append, List.length_append]; omega
    rw [strB_length] at this
    simp only [this]
    simp
  have e3 : (d.drop (off + (Wr.enc x.length).length)).take x.length = Wr.strBytes (ba x) := by
    rw [drop_step e0, ← strB_length x, List.take_left]
  have e4 : (txE x).length = (Wr.enc x.length).length + x.length := by rw [txE, List.length_append, strB_length]
  exact h.call fun last s => (Wr.rtext_ok b g off last (Wr.enc x.length).length x.length d w1 s e2).mono fun e w' ⟨q1, q2, q3, q4⟩ => ⟨⟨by rw [q1, e3, strB_of], q4⟩, ⟨⟨_, by rw [e4, ← Nat.add_assoc]; exact q2⟩, q3⟩⟩
theorem count_rg (n : Nat) {r : List Int} (h : RG b g d w w1 off) (hd : d.drop off = Wr.enc n ++ r) (hn : n < 18446744073709551616) (hr : n ≤ r.length) :
    Calls Try.prog 70 #[.pointer (some ⟨b, 0, none⟩)] w1 fun e w' => (e = .returned (.int .i64 n) ∧ w'.heap.size = w1.heap.size) ∧ RG b g d w1 w' (off + (Wr.enc n).length) :=
  h.call fun last s => (Wr.rcount_ok b g off last n (Wr.enc n).length d w1 s (by rw [hd]; exact Wr.dec_enc n r hn) (by have := drop_len hd s.le; omega)).mono fun e w' ⟨q1, q2, q3, q4⟩ => ⟨⟨q1, q4⟩, ⟨_, q2⟩, q3⟩
set_option maxHeartbeats 1600000 in
theorem rc_rg (n m : Nat) {r : List Int} (h : RG b g d w w1 off) (hd : d.drop off = Wr.enc n ++ r) (hn : n ≤ m) (hm : m ≤ 1000) (hr : n ≤ r.length) :
    Calls Try.prog 58 #[.pointer (some ⟨b, 0, none⟩), .int .i64 m] w1 fun e w' => (e = .returned (.int .i64 n) ∧ w'.heap.size = w1.heap.size) ∧ RG b g d w1 w' (off + (Wr.enc n).length) := by
  have C0 := hid_of (count_rg n h hd (by omega) hr)
  have hdd : decide (m < n) = false := by simp; omega
  have hde : decide ((n : Int) > (m : Int)) = false := by simp; omega
  clear h hd hr
  go_enter Try.func58, Try.ntmps58
  go_wp2_with (go_at_call 70; ((with_reducible refine (C0.out).mono ?_); (rintro e w2 ⟨⟨rfl, q1⟩, q2⟩)); have K2 := hid_of q2; have S2 := hid_of q1; clear q1 q2)
  go_ret
  exact ⟨⟨rfl, S2.out⟩, K2.out⟩
end
theorem txE_pos (x : Str) : 1 ≤ (txE x).length := by unfold txE; have := Wr.enc_length_pos x.length; simp only [List.length_append]; omega
theorem flat_pos {α : Type} (f : α → List Int) (h : ∀ x, 1 ≤ (f x).length) : ∀ l : List α, l.length ≤ (l.flatMap f).length
  | [] => by simp
  | x :: l => by
    have h1 := flat_pos f h l
    have h2 := h x
    rw [List.flatMap_cons, List.length_append, List.length_cons]
    omega
/-- The row of a slice lies in a block of S. -/
def In (S : Nat → Prop) (v : Value) : Prop := ∀ (a : Addr) (n c : Nat), v = .slice (some a) n c → S a.block
/-- What readNames and its like give: a row of strings of the call's own. -/
def NaP (b g : Nat) (d : List Int) (ns : List Str) (off : Nat) (w : World) (e : Ending) (w' : World) : Prop := ∃ (xo : Option Addr) (xc : Nat), e = .returned (.slice xo ns.length xc) ∧ Rd w' (.slice xo ns.length xc) (ss ns) ∧ In (fun k => w.heap.size ≤ k ∧ k < w'.heap.size) (.slice xo ns.length xc) ∧ RG b g d w w' (off + (nsE ns).length)
set_option maxRecDepth 100000 in
set_option maxHeartbeats 3200000 in
theorem rn_any (b g off last : Nat) (d : List Int) (ns : List Str) (r : List Int) (w : World) (h : Wr.Rst w b g d off last 0) (hd : d.drop off = nsE ns ++ r) (hs : Sm ns) :
    Calls Try.prog 57 #[.pointer (some ⟨b, 0, none⟩)] w (NaP b g d ns off w) := by
  have e0 : d.drop off = Wr.enc ns.length ++ (ns.flatMap txE ++ r) := by rw [hd, nsE, List.append_assoc]
  have hb := h.blt
  have hg := h.glt
  have HBG : Hid (b < w.heap.size ∧ g < w.heap.size) := hid_of ⟨hb, hg⟩
  obtain ⟨n, hn⟩ : ∃ n, n = ns.length := ⟨_, rfl⟩
  have HN := hid_of hn
  have hn2 : n ≤ 32 := by have := hs.1; omega
  have C0 : Hid (Calls Try.prog 58 #[.pointer (some ⟨b, 0, none⟩), .int .i64 32] w fun e w' => (e = .returned (.int .i64 n) ∧ w'.heap.size = w.heap.size) ∧ RG b g d w w' (off + (Wr.enc n).length)) := hid_of (rc_rg n 32 (RG.start h) (by rw [hn]; exact e0) hn2 (by omega) (by rw [hn, List.length_append]; have := flat_pos txE txE_pos ns; omega))
  have HD : Hid (∀ j x, ns[j]? = some x → d.drop (off + (Wr.enc n).length + ((ns.take j).flatMap txE).length) = txE x ++ ((ns.drop (j + 1)).flatMap txE ++ r)) := hid_of (fun j x hx => by
    have e1 := drop_step e0
    rw [← hn] at e1
    have e2 : ns.flatMap txE = (ns.take j).flatMap txE ++ (txE x ++ (ns.drop (j + 1)).flatMap txE) := by
      rw [← List.flatMap_cons, ← List.flatMap_append]
      congr 1
      rw [← (show ns.drop j = x :: ns.drop (j + 1) by obtain ⟨h1, h2⟩ := List.getElem?_eq_some_iff.1 hx; rw [← h2]; exact List.drop_eq_getElem_cons h1)]
      exact (List.take_append_drop j ns).symm
    rw [e2, List.append_assoc, List.append_assoc] at e1
    exact drop_step e1)
  have HSM := hid_of hs.2
  have HE : Hid ((nsE ns).length = (Wr.enc n).length + (ns.flatMap txE).length) := hid_of (by rw [nsE, List.length_append, hn])
  clear h hd hs hb hg hn e0
  go_enter Try.func57, Try.ntmps57
  go_wp2_with (go_at_call 58; ((with_reducible refine (C0.out).mono ?_); (rintro e w1 ⟨⟨rfl, q1⟩, q2⟩)); have K1 := hid_of q2; have S1 := hid_of q1; clear q1 q2)
  go_loopw [3, 6] (fun sv iv wr => ∃ (j : Nat) (xo : Option Addr) (xc : Nat), sv = .slice xo j xc ∧ j ≤ n ∧ iv = .int .i64 j ∧ Hid (RG b g d w wr (off + (Wr.enc n).length + ((ns.take j).flatMap txE).length)) ∧ Hid (wr.ownsRow w.heap.size 9 1 (.slice xo j xc) j (ss (ns.take j)))) (fun _ iv _ => n - (intOf iv).toNat)
  case atStart => exact ⟨0, none, 0, rfl, Nat.zero_le _, rfl, hid_of (by simpa using K1.out), hid_of (World.ownsRow_nil _ _ _ _)⟩
  case round =>
    obtain ⟨j, xo, xc, rfl, hj, rfl, hk, ho⟩ := hrel
    by_cases hlt : j < n
    · have hdd : decide (j < n) = true := by simp; omega
      obtain ⟨x, hx⟩ : ∃ x, ns[j]? = some x := ⟨_, List.getElem?_eq_getElem (by have := HN.out; omega)⟩
      have CT := hid_of (text_rg x hk.out (HD.out j x hx) (HSM.out x (List.mem_of_getElem? hx)))
      have HX := hid_of hx
      have HLL : Hid ((ss (ns.take j)).length = j) := hid_of (by rw [ss_length, List.length_take]; have := HN.out; omega)
      have HOW : Hid (∀ w2, RG b g d wr w2 (off + (Wr.enc n).length + ((ns.take j).flatMap txE).length + (txE x).length) → Ow 9 w.heap.size w2 w2 (.slice xo j xc) (ss (ns.take j))) := hid_of (fun w2 q => ⟨Nat.le_trans hk.out.size q.size, Below.refl _ _, by rw [HLL.out]; exact own_same ho.out fun k hk2 => q.blk ((ho.out.lt k hk2).2) (by have := (ho.out.lt k hk2).1; have := HBG.out; omega)⟩)
      obtain ⟨bx, hbx⟩ : ∃ bx, bx = ba x := ⟨_, rfl⟩
      rw [← hbx] at CT
      have HBX := hid_of hbx
      clear hx hbx
      go_wp2_with (first
        | (go_at_call 59; ((with_reducible refine (CT.out).mono ?_); (rintro e w2 ⟨⟨rfl, q1⟩, q2⟩)); have K2 := hid_of q2; clear q1 q2; have O2 := hid_of (HOW.out w2 K2.out))
        | (at_builtin; (refine wpList_app strsE rfl (.tmp 8) (.tmp 11) rfl (v := .slice xo j xc) (l := ss (ns.take j)) rfl (O2.out.alloc _) (vx := .slice (some ⟨w2.heap.size, 0, none⟩) 1 1) (m := [.string bx]) rfl (rd_new rfl rfl (by simp)) (by intro u hu; rw [List.mem_singleton.1 hu]; rfl) (by rw [HLL.out]; simp only [List.length_singleton]; omega) (by rw [HLL.out]; simp only [List.length_singleton]; omega) ?_); intro ao2 n2 cap2 w4 e1 h5; have HN2 : Hid (n2 = j + 1) := hid_of (by rw [HLL.out] at e1; simpa using e1); have HO2 := hid_of h5; clear e1 h5))
      go_roundw
      case rel => exact ⟨j + 1, ao2, cap2, by rw [HN2.out], by omega, by go_num, hid_of (by
          have h1 := (hk.out.trans K2.out).bel HO2.out.bel HBG.out.1 HBG.out.2 (Nat.le_refl _)
          rw [take_snocL HX.out, List.flatMap_append, List.flatMap_singleton, List.length_append, ← Nat.add_assoc]
          exact h1), hid_of (by
          have h5 := HO2.out.own
          rw [HBX.out] at h5
          rw [take_snocL HX.out, ss_append]
          simp only [List.length_append, List.length_singleton, HLL.out, HN2.out] at h5
          exact h5)⟩
      case measure => simp [intOf]; omega
    · have hdd : decide (j < n) = false := by simp; omega
      obtain rfl : n = j := by omega
      have HF : Hid (RG b g d w wr (off + (nsE ns).length) ∧ Rd wr (.slice xo ns.length xc) (ss ns) ∧ In (fun k => w.heap.size ≤ k ∧ k < wr.heap.size) (.slice xo ns.length xc)) := hid_of (by
        have h1 := hk.out
        have h2 := ho.out
        rw [List.take_of_length_le (by have := HN.out; omega)] at h1 h2
        rw [HN.out] at h2
        rw [Nat.add_assoc, ← HE.out] at h1
        exact ⟨h1, (show Ow 9 w.heap.size wr wr (.slice xo ns.length xc) (ss ns) from ⟨h1.size, Below.refl _ _, by rw [ss_length]; exact h2⟩).rd (by rw [ss_length]; have := HN.out; omega), fun a n c e => by cases e; exact h2.lt a.block rfl⟩)
      have HN9 := HN.out
      go_wp2
      go_ret
      subst HN9
      exact ⟨xo, xc, rfl, HF.out.2.1, HF.out.2.2, HF.out.1⟩
end Go.Proofs.Ytdmonbcinlmljaa
