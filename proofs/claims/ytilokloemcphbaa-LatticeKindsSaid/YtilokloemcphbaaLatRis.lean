/- The reference's In and Rising. Bounds on sizes alone. -/
import Derived.Test.YtilokloemcphbaaLatRnm
namespace Go.Proofs.Ytilokloemcphbaa
open Go.RowKit

set_option maxRecDepth 100000 in
theorem rin_any (l : List Str) (x : Str) (ao : Option Addr) (n cap : Nat) (w : World) (R : Rd w (.slice ao n cap) (ss l)) :
    Calls Try.prog 95 #[.slice ao n cap, .string (ba x)] w fun e w' => e = .returned (.bool (decide (x ∈ l))) ∧ w' = w := by
  obtain ⟨hn, _, hcap, h3⟩ := rds_open R
  obtain ⟨r, hr⟩ : ∃ r, r = decide (x ∈ l) := ⟨_, rfl⟩
  rw [← hr]
  have HR := hid_of hr
  have HN := hid_of hn
  have H3 := hid_of h3
  obtain ⟨bs, hbs⟩ : ∃ bs, bs = ba x := ⟨_, rfl⟩
  rw [← hbs]
  have HBS := hid_of hbs
  clear hr hn h3 R hbs
  go_enter Try.func95, Try.ntmps95
  go_wp2
  go_loopw [5] (fun iv wr => ∃ i : Nat, iv = .int .i64 i ∧ i ≤ n ∧ Hid (x ∉ l.take i) ∧ w = wr) (fun iv _ => n - (intOf iv).toNat)
  case atStart => exact ⟨0, rfl, Nat.zero_le _, hid_of (by simp), rfl⟩
  case round =>
    obtain ⟨i, rfl, hi, HM, rfl⟩ := hrel
    by_cases hlt : i < n
    · have d1 : decide (i < n) = true := decide_eq_true hlt
      have hlt' : (i : Int) < (n : Int) := by omega
      have HLT := hid_of hlt
      have hl : i < l.length := by have := HN.out; omega
      rcases H3.out with h3 | ⟨g, o, rfl, hg, hc⟩
      · exfalso; rw [h3] at hl; simp at hl
      have c1 := hc i _ (List.getElem?_eq_getElem hl)
      obtain ⟨bx, hx⟩ : ∃ bx, bx = ba l[i] := ⟨_, rfl⟩
      rw [← hx] at c1
      by_cases he : l[i] = x
      · have et := eq_t hx HBS.out he
        have RT : Hid (true = r) := hid_of (by rw [HR.out]; exact (decide_eq_true (by rw [← he]; exact List.getElem_mem hl)).symm)
        clear hlt hc hx he hl H3 hg
        go_wp2
        go_ret
        exact ⟨ret_b RT.out, rfl⟩
      · have et := eq_f hx HBS.out he
        have HE := hid_of (take_not hl HM.out he)
        clear hlt hc hx he hl H3 hg
        go_wp2
        go_roundw
        case rel => exact ⟨i + 1, by go_num, HLT.out, HE, by first | trivial | rfl⟩
        case measure => have := HLT.out; simp [intOf]; omega
    · have d1 : decide (i < n) = false := decide_eq_false hlt
      have RF : Hid (false = r) := hid_of (by
        rw [HR.out]
        refine (decide_eq_false (fun h => HM.out ?_)).symm
        rw [show i = l.length by have := HN.out; omega, List.take_length]; exact h)
      go_wp2
      go_ret
      exact ⟨ret_b RF.out, rfl⟩
/-- Valid names, strictly increasing. -/
def risB (l : List Str) : Bool := l.all nameB && ssB l
theorem ris_bad {l : List Str} {i : Nat} {x : Str} (h : l[i]? = some x) (hx : nameB x = false) : risB l = false := by
  unfold risB; rw [all_bad h hx, Bool.false_and]
set_option maxRecDepth 100000 in
set_option maxHeartbeats 3200000 in
theorem rising_any (l : List Str) (ao : Option Addr) (n cap : Nat) (w : World) (R : Rd w (.slice ao n cap) (ss l)) (on : Ok l) :
    Calls Try.prog 96 #[.slice ao n cap] w fun e w' => e = .returned (.bool (risB l)) ∧ ∃ m, w' = w.drewN m := by
  obtain ⟨hn, _, hcap, h3⟩ := rds_open R
  obtain ⟨r, hr⟩ : ∃ r, r = risB l := ⟨_, rfl⟩
  rw [← hr]
  have HR := hid_of hr
  have HN := hid_of hn
  have H3 := hid_of h3
  have ON := hid_of on
  clear hr hn h3 R on
  go_enter Try.func96, Try.ntmps96
  go_wp2
  go_loopw [3] (fun iv wr => ∃ k : Nat, iv = .int .i64 k ∧ k ≤ n ∧ Hid (ssTo l k) ∧ Hid (∀ j, j < k → ∀ p, l[j]? = some p → nameB p = true) ∧ Hid (∃ m, wr = w.drewN m)) (fun iv _ => n - (intOf iv).toNat)
  case atStart => exact ⟨0, rfl, Nat.zero_le _, hid_of (fun i hi => by omega), hid_of (fun j h => absurd h (Nat.not_lt_zero j)), hid_of ⟨0, rfl⟩⟩
  case round =>
    obtain ⟨k, rfl, hk, hs, hq, hb⟩ := hrel
    have hbb : Below w.heap.size w wr := by obtain ⟨md, hmd⟩ := hb.out; rw [hmd]; exact bel_drewN (Below.refl _ _) md
    have HB2 : Hid (∀ nq, ∃ m, wr.drewN nq = w.drewN m) := hid_of (fun nq => by obtain ⟨md, hmd⟩ := hb.out; exact ⟨md + nq, by rw [hmd, World.drewN_drewN]⟩)
    by_cases hlt : k < n
    · have hd : decide (k < n) = true := decide_eq_true hlt
      have HLT := hid_of hlt
      have hkl : k < l.length := by have := HN.out; omega
      rcases H3.out with h3 | ⟨g, o, rfl, hg, hc⟩
      · exfalso; rw [h3] at hkl; simp at hkl
      obtain ⟨x, hx⟩ : ∃ x, l[k]? = some x := ⟨_, List.getElem?_eq_getElem hkl⟩
      have c1 := (hbb.cell (p := ⟨g, o + k, none⟩) hg).trans (hc k _ hx)
      have hxl := ON.out x (List.mem_of_getElem? hx)
      have VC : Hid (∀ w, Calls Try.prog 94 #[.string (ba x)] w fun ee w' => ee = .returned (.bool (nameB x)) ∧ w' = w) := hid_of (fun w => rname9_any (ba x) w (by unfold maxLen; show x.toArray.size ≤ _; simpa using hxl))
      obtain ⟨qv, hqv⟩ : ∃ q, q = nameB x := ⟨_, rfl⟩
      rw [← hqv] at VC
      obtain ⟨bk, hbk⟩ : ∃ b, b = ba x := ⟨_, rfl⟩
      rw [← hbk] at c1 VC
      have b1 : (k : Int) < (n : Int) := by omega
      have b3 : (0 : Int) ≤ (k : Int) := by omega
      cases qv
      · have RF : Hid (false = r) := hid_of (by rw [HR.out, ris_bad hx hqv.symm])
        clear hc hx hxl hqv hbk hbb hlt hkl H3
        go_wp2
        go_quiet ((go_at_call 94; exact Calls.quiet_of_same (VC.out _)))
        go_wp2
        go_ret
        exact ⟨ret_b RF.out, HB2.out nq⟩
      have HQ2 : Hid (∀ j, j < k + 1 → ∀ p, l[j]? = some p → nameB p = true) := hid_of (fun j hj p hp => by
        by_cases e : j = k
        · subst e; rw [hx] at hp; cases hp; exact hqv.symm
        · exact hq.out j (by omega) p hp)
      by_cases h0 : k = 0
      · have g0 : decide (0 < k) = false := by simp; omega
        have HS2 : Hid (ssTo l (k + 1)) := hid_of (fun i hi => by omega)
        clear hc hx hxl hqv hbk hbb hlt hkl H3 h0
        go_wp2
        go_quiet ((go_at_call 94; exact Calls.quiet_of_same (VC.out _)))
        go_wp2
        go_roundw
        case rel => exact ⟨k + 1, by go_num, HLT.out, HS2, HQ2, hid_of (HB2.out nq)⟩
        case measure => have := HLT.out; simp [intOf]; omega
      · have g0 : decide (0 < k) = true := by simp; omega
        obtain ⟨p, hpk⟩ : ∃ p, p + 1 = k := ⟨k - 1, by omega⟩
        have hpl : p < l.length := by omega
        obtain ⟨bp, hbp⟩ : ∃ b, b = ba l[p] := ⟨_, rfl⟩
        have c2 := (hbb.cell (p := ⟨g, o + p, none⟩) hg).trans (hc p _ (List.getElem?_eq_getElem hpl))
        rw [← hbp] at c2
        have s1 : IntKind.i64.wrap ((k : Int) - 1) = (p : Int) := by rw [IntWalk.i64_in _ (by omega)]; omega
        have b2 : (p : Int) < (n : Int) := by omega
        have b4 : (0 : Int) ≤ (p : Int) := by omega
        have hxe : x = l[k] := by rw [List.getElem?_eq_getElem hkl] at hx; exact (Option.some.inj hx).symm
        by_cases e : l[p] < x
        · have t1 := lt_t hbp hbk e
          have HS2 := hid_of (ssTo_succ hs.out hpk (by rw [getD_of hpl, getD_of hkl, ← hxe]; exact e))
          clear hc hx hxl hqv hbk hbb hlt hkl H3 h0 hpk hbp hxe hpl e
          go_wp2
          go_quiet ((go_at_call 94; exact Calls.quiet_of_same (VC.out _)))
          clear s1
          go_wp2
          go_roundw
          case rel => exact ⟨k + 1, by go_num, HLT.out, HS2, HQ2, hid_of (HB2.out nq)⟩
          case measure => have := HLT.out; simp [intOf]; omega
        · have RF : Hid (false = r) := hid_of (by
            rw [HR.out]; unfold risB
            rw [ssB_no hpk hkl (by rw [getD_of hpl, getD_of hkl, ← hxe]; exact e), Bool.and_false])
          have t1 := lt_f hbp hbk e
          clear hc hx hxl hqv hbk hbb hlt hkl H3 h0 hpk hbp hxe hpl e
          go_wp2
          go_quiet ((go_at_call 94; exact Calls.quiet_of_same (VC.out _)))
          clear s1
          go_wp2
          go_ret
          exact ⟨ret_b RF.out, HB2.out nq⟩
    · have hd : decide (k < n) = false := decide_eq_false hlt
      have RT : Hid (true = r) := hid_of (by
        rw [HR.out]; unfold risB
        rw [ssB_yes HN.out (by rw [show n = k by omega]; exact hs.out), all_end HN.out (fun j hj p hp => hq.out j (by omega) p hp)]; rfl)
      clear hbb hlt
      go_wp2
      go_ret
      exact ⟨ret_b RT.out, hb.out⟩
end Go.Proofs.Ytilokloemcphbaa
