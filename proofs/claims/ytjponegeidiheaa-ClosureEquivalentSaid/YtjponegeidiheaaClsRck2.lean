/- The reference's Check and Closed. Bounds on sizes alone. -/
import Derived.Test.YtjponegeidiheaaClsRck
import Derived.Test.YtjponegeidiheaaClsCld
namespace Go.Proofs.Ytjponegeidiheaa
open Go.RowKit

theorem rus_first {U : List Str} : ∀ {rs : List Gr} {k : Nat} {r : Gr}, (∀ q ∈ rs.take k, ruE U q = 0) → rs[k]? = some r → ruE U r ≠ 0 → rusE U rs = ruE U r
  | [], k, r, _, h, _ => by simp at h
  | a :: rs, 0, r, _, h, h2 => by
    simp only [List.getElem?_cons_zero, Option.some.injEq] at h
    subst h
    rw [rusE, if_neg h2]
  | a :: rs, k + 1, r, h1, h, h2 => by
    rw [rusE, if_pos (h1 a (by simp))]
    exact rus_first (fun q hq => h1 q (by rw [List.take_succ_cons]; exact List.mem_cons_of_mem _ hq)) (by simpa using h) h2
theorem rus_zero {U : List Str} {rs : List Gr} (h : ∀ r ∈ rs, ruE U r = 0) : rusE U rs = 0 := rusE_zero h

set_option maxRecDepth 100000 in
set_option maxHeartbeats 1600000 in
theorem rcheck_any (uo : Option Addr) (un uc : Nat) (U : List Str) (ro : Option Addr) (rn rc : Nat) (rs : List Gr) (w : World) (hU : Rd w (.slice uo un uc) (ss U)) (hz : ∀ x ∈ U, x.length ≤ 9223372036854775807) (hR : RuR w (.slice ro rn rc) rs) :
    Calls Try.prog 17 #[.slice uo un uc, .slice ro rn rc] w fun e w' => e = .returned (.int .i64 (chkE U rs : Nat)) ∧ Below w.heap.size w w' := by
  obtain ⟨hn, h1, h2, h3⟩ := rds_open hU
  obtain ⟨hm, h4⟩ := hR.len
  obtain ⟨q, hq⟩ : ∃ q, q = chkE U rs := ⟨_, rfl⟩
  rw [← hq]
  have HQ := hid_of hq
  have HN := hid_of hn
  have HM := hid_of hm
  have HNA : Hid (∀ bx x, bx = ba x → x ∈ U → Calls Try.prog 42 #[.string bx] w fun e w' => e = .returned (.bool (nameB x)) ∧ w = w') := hid_of (fun bx x e hx => by rw [e]; exact (rname_any (ba x) w (by show x.toArray.size ≤ _; unfold maxLen; simpa using hz x hx)).mono fun _ _ h => ⟨h.1, h.2.symm⟩)
  obtain ⟨sb, hsb⟩ : ∃ sb, sb = ssB U := ⟨_, rfl⟩
  have HAS : Hid (Calls Try.prog 43 #[.slice uo un uc] w fun e w' => e = .returned (.bool sb) ∧ Below w.heap.size w w') := hid_of (by rw [hsb]; exact rsorted_any uo un uc U w hU)
  have HSB := hid_of hsb
  have HCE : Hid (∀ k, k < un → ∃ g o x, uo = some ⟨g, o, none⟩ ∧ U[k]? = some x ∧ w.cell? ⟨g, o + k, none⟩ = some (.string (ba x))) := hid_of (fun k hk => by
    obtain ⟨x, hx⟩ : ∃ x, U[k]? = some x := ⟨_, List.getElem?_eq_getElem (by omega)⟩
    rcases h3 with h3 | ⟨g, o, e2, _, q2⟩
    · rw [h3] at hx; simp at hx
    · exact ⟨g, o, x, e2, hx, q2 k x hx⟩)
  have HRU : Hid (∀ wx k, Below w.heap.size w wx → k < rn → ∃ g o a c bx r, ro = some ⟨g, o, none⟩ ∧ rs[k]? = some r ∧ wx.cell? ⟨g, o + k * 2, none⟩ = some (.slice a r.1.length c) ∧ wx.cell? ⟨g, o + k * 2 + 1, none⟩ = some (.string bx) ∧ Hid (Calls Try.prog 27 #[.slice uo un uc, .agg #[.slice a r.1.length c, .string bx]] wx fun e w' => e = .returned (.int .i64 (ruE U r : Nat)) ∧ Below w.heap.size w w')) := hid_of (fun wx k hb hk => by
    obtain ⟨r, hr⟩ : ∃ r, rs[k]? = some r := ⟨_, List.getElem?_eq_getElem (by omega)⟩
    obtain ⟨g, o, a, c, e, c0, c1, rr⟩ := (hR.at hb).get hr
    exact ⟨g, o, a, c, _, r, e, hr, c0, c1, hid_of ((rrule_any uo un uc U a _ c r.1 r.2 wx (hU.at hb) rr).mono fun e w' ⟨g1, g2⟩ => ⟨g1, hb.trans (g2.mono hb.size)⟩)⟩)
  have hun : un ≤ 9223372036854775807 := by omega
  clear hq hn hm hU hz hR hsb h1 h2 h3
  go_enter Try.func17, Try.ntmps17
  go_wp2
  go_loopw [5] (fun iv wr => ∃ k : Nat, k ≤ un ∧ iv = .int .i64 k ∧ w = wr ∧ Hid (∀ x ∈ U.take k, nameB x = true)) (fun iv _ => un - (intOf iv).toNat)
  case atStart => exact ⟨0, Nat.zero_le _, rfl, rfl, hid_of (by simp)⟩
  case round =>
    obtain ⟨k, hk, rfl, rfl, hx⟩ := hrel
    have HX := hid_of hx.out
    clear hx
    by_cases hlt : k < un
    · have hd : decide (k < un) = true := by simp; omega
      obtain ⟨g, o, x, rfl, e1, c1⟩ := HCE.out k hlt
      obtain ⟨bx, hbx⟩ : ∃ bx, bx = ba x := ⟨_, rfl⟩
      rw [← hbx] at c1
      obtain ⟨nb, hnb⟩ : ∃ nb, nb = nameB x := ⟨_, rfl⟩
      have HC := HNA.out bx x hbx (List.mem_of_getElem? e1)
      rw [← hnb] at HC
      have HCC := hid_of HC
      have E1 := hid_of e1
      have HNB := hid_of hnb
      clear HC e1 hbx hnb
      cases nb
      · have RF : Hid (q = 3) := hid_of (by
          rw [HQ.out]; unfold chkE
          have : U.all nameB = false := by
            rw [Bool.eq_false_iff]; intro h
            have := List.all_eq_true.1 h x (List.mem_of_getElem? E1.out)
            rw [← HNB.out] at this; cases this
          rw [if_pos this])
        go_wp2_with (go_at_call 42; ((with_reducible refine (HCC.out).mono ?_); (rintro ee w' ⟨rfl, rfl⟩)))
        go_ret
        exact ⟨by rw [RF.out]; rfl, Below.refl _ _⟩
      · go_wp2_with (go_at_call 42; ((with_reducible refine (HCC.out).mono ?_); (rintro ee w' ⟨rfl, rfl⟩)))
        go_roundw
        case rel => exact ⟨k + 1, by omega, by go_num, trivial, hid_of (fun y hy => by
          rw [take_snoc_get E1.out, List.mem_append, List.mem_singleton] at hy
          rcases hy with hy | rfl
          · exact HX.out y hy
          · exact HNB.out.symm)⟩
        case measure => simp [intOf]; omega
    · have hd : decide (k < un) = false := by simp; omega
      obtain rfl : un = k := by omega
      have HALL : Hid (U.all nameB = true) := hid_of (by
        have h := HX.out
        rw [List.take_of_length_le (by have := HN.out; omega)] at h
        exact List.all_eq_true.2 h)
      cases sb
      · have RF : Hid (q = 1) := hid_of (by
          rw [HQ.out]; unfold chkE
          rw [if_neg (by rw [HALL.out]; simp), if_pos]
          have h := HSB.out
          unfold ssB at h
          exact of_decide_eq_false h.symm)
        go_wp2_with (go_at_call 43; ((with_reducible refine (HAS.out).mono ?_); (rintro ee w1 ⟨rfl, q1⟩)); have B1 := hid_of q1; clear q1)
        go_ret
        exact ⟨by rw [RF.out]; rfl, B1.out⟩
      · have HQ2 : Hid (q = rusE U rs) := hid_of (by
          rw [HQ.out]; unfold chkE
          have h := HSB.out
          unfold ssB at h
          rw [if_neg (by rw [HALL.out]; simp), if_neg (by simpa using of_decide_eq_true h.symm)])
        go_wp2_with (go_at_call 43; ((with_reducible refine (HAS.out).mono ?_); (rintro ee w1 ⟨rfl, q1⟩)); have B1 := hid_of q1; clear q1)
        go_loopw [6, 7] (fun iv ev wr => ∃ (j : Nat) (v : Value), j ≤ rn ∧ iv = .int .i64 j ∧ ev = v ∧ Hid (∀ r ∈ rs.take j, ruE U r = 0) ∧ Hid (Below w.heap.size w wr)) (fun iv _ _ => rn - (intOf iv).toNat)
        case atStart => exact ⟨0, _, Nat.zero_le _, rfl, rfl, hid_of (by simp), B1⟩
        case round =>
          obtain ⟨j, v, hj, rfl, rfl, hall, hb⟩ := hrel
          by_cases hlt2 : j < rn
          · have hd2 : decide (j < rn) = true := by simp; omega
            obtain ⟨g, o, a, c, bx, r, rfl, e1, c0, c1, HC⟩ := HRU.out wr j hb.out hlt2
            obtain ⟨m, hm⟩ : ∃ m, m = ruE U r := ⟨_, rfl⟩
            obtain ⟨pl, hpl⟩ : ∃ pl, pl = r.1.length := ⟨_, rfl⟩
            rw [← hm, ← hpl] at HC
            rw [← hpl] at c0
            have E1 := hid_of e1
            have HMM := hid_of hm
            clear e1 hm hpl
            have u : m = 0 ∨ m ≠ 0 := by omega
            rcases u with rfl | u
            · go_wp2_with (go_at_call 27; ((with_reducible refine (HC.out).mono ?_); (rintro ee w2 ⟨rfl, q1⟩)); have B2 := hid_of q1; clear q1)
              go_roundw
              case rel => exact ⟨j + 1, _, by omega, by go_num, rfl, hid_of (fun y hy => by
                rw [take_snoc_get E1.out, List.mem_append, List.mem_singleton] at hy
                rcases hy with hy | rfl
                · exact hall.out y hy
                · exact HMM.out.symm), B2⟩
              case measure => simp [intOf]; omega
            · have t1 : ((m : Int) != 0) = true := by simp; omega
              have RF : Hid (q = m) := hid_of (by rw [HQ2.out, HMM.out]; exact rus_first hall.out E1.out (by rw [← HMM.out]; exact u))
              clear u
              go_wp2_with (go_at_call 27; ((with_reducible refine (HC.out).mono ?_); (rintro ee w2 ⟨rfl, q1⟩)); have B2 := hid_of q1; clear q1)
              go_ret
              exact ⟨by rw [RF.out]; rfl, B2.out⟩
          · have hd2 : decide (j < rn) = false := by simp; omega
            have RF : Hid (q = 0) := hid_of (by
              rw [HQ2.out]; refine rus_zero ?_
              have h := hall.out
              rw [List.take_of_length_le (by have := HM.out; omega)] at h; exact h)
            go_wp2
            go_ret
            exact ⟨by rw [RF.out]; rfl, hb.out⟩
end Go.Proofs.Ytjponegeidiheaa
