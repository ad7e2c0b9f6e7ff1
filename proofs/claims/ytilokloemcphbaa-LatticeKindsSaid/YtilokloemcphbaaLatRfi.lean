/- The reference's Finite. Bounds on sizes alone. -/
import Derived.Test.YtilokloemcphbaaLatRfn
namespace Go.Proofs.Ytilokloemcphbaa
open Go.RowKit

set_option maxRecDepth 100000 in
set_option maxHeartbeats 6400000 in
theorem rfin_any : ∀ (t : Lat) (k lo hi : Int) (an : Option Addr) (nn cn : Nat) (ap : Option Addr) (np cp : Nat) (ar : Option Addr) (nr cr : Nat) (w : World), LO w k lo hi an nn cn ap np cp ar nr cr t → Calls Try.prog 19 #[.agg #[.int .i64 k, .int .i64 lo, .int .i64 hi, .slice an nn cn, .slice ap np cp, .slice ar nr cr]] w (BoP (rfinL t) w) := by
  refine lat_ind ?_
  intro k' lo' hi' ns' ps' rs' ih k lo hi an nn cn ap np cp ar nr cr w H
  obtain rfl : k = k' := H.hk
  have HBW := hid_of (bel_alloc w (.cells #[.int .i64 k, .int .i64 lo, .int .i64 hi, .slice an nn cn, .slice ap np cp, .slice ar nr cr] 26))
  have HX : Hid (∀ wz, Below (w.alloc (.cells #[.int .i64 k, .int .i64 lo, .int .i64 hi, .slice an nn cn, .slice ap np cp, .slice ar nr cr] 26)).heap.size (w.alloc (.cells #[.int .i64 k, .int .i64 lo, .int .i64 hi, .slice an nn cn, .slice ap np cp, .slice ar nr cr] 26)) wz → _) := hid_of (fun wz hz => box6 k lo hi an nn cn ap np cp ar nr cr hz)
  have hnl := H.ln
  have hl := H.p.len
  have hnp : np ≤ 9223372036854775807 := by omega
  have HNP := hid_of hl.1
  have HP := hid_of H.p
  have IH := hid_of ih
  simp only [Lat.ps] at HP HNP
  obtain ⟨r, hr⟩ : ∃ r, r = rfinL ⟨k, lo', hi', ns', ps', rs'⟩ := ⟨_, rfl⟩
  rw [← hr]
  rw [rfinL, rfinsL_all] at hr
  have HR := hid_of hr
  clear hr H ih hl
  by_cases h9 : k = 9
  · subst h9
    have RF : Hid (false = r) := hid_of (by rw [HR.out]; rfl)
    clear hnl
    go_enter Try.func19, Try.ntmps19
    go_wp2
    go_ret
    exact ⟨ret_b RF.out, HBW.out⟩
  have e9 : (k == 9) = false := beq_eq_false_iff_ne.2 h9
  by_cases hbad : nn = 0 ∧ (k = 4 ∨ k = 8 ∨ k = 5)
  · obtain ⟨hn0, hk⟩ := hbad
    subst hn0
    have hns : ns' = [] := List.eq_nil_of_length_eq_zero hnl.symm
    have RF : Hid (false = r) := hid_of (by rw [HR.out, if_pos (.inr ⟨hns, hk⟩)])
    clear hnl hns
    rcases hk with rfl | rfl | rfl
    all_goals
      go_enter Try.func19, Try.ntmps19
      go_wp2
      go_ret
      exact ⟨ret_b RF.out, HBW.out⟩
  have HR : Hid (r = ps'.all rfinL) := hid_of (by
    rw [HR.out, if_neg (fun e => ?_)]
    rcases e with e | ⟨e, e2⟩
    · exact h9 e
    · exact hbad ⟨by rw [hnl]; simp only [Lat.ns]; rw [e]; rfl, e2⟩)
  have hgood : ((nn == 0) = false ∧ ((nn : Int) == 0) = false) ∨ (nn = 0 ∧ (k == 4) = false ∧ (k == 8) = false ∧ (k == 5) = false) := by
    by_cases e : nn = 0
    · refine .inr ⟨e, beq_eq_false_iff_ne.2 fun h => hbad ⟨e, .inl h⟩, beq_eq_false_iff_ne.2 fun h => hbad ⟨e, .inr (.inl h)⟩, beq_eq_false_iff_ne.2 fun h => hbad ⟨e, .inr (.inr h)⟩⟩
    · exact .inl ⟨beq_eq_false_iff_ne.2 e, beq_eq_false_iff_ne.2 (by omega)⟩
  clear h9 hnl hbad
  rcases hgood with ⟨hg0, hg1⟩ | ⟨hn9, hg4, hg8, hg5⟩
  · obtain ⟨WW, hWW⟩ : ∃ WW, WW = (w.alloc (.cells #[.int .i64 k, .int .i64 lo, .int .i64 hi, .slice an nn cn, .slice ap np cp, .slice ar nr cr] 26)) := ⟨_, rfl⟩
    have K0 : Hid (Below WW.heap.size WW (w.alloc (.cells #[.int .i64 k, .int .i64 lo, .int .i64 hi, .slice an nn cn, .slice ap np cp, .slice ar nr cr] 26))) := hid_of (by rw [← hWW]; exact Below.refl _ _)
    rw [← hWW] at HX HBW
    clear hWW
    go_enter Try.func19, Try.ntmps19
    go_wp2
    go_loopw [3] (fun iv wr => ∃ i : Nat, iv = .int .i64 i ∧ i ≤ np ∧ Hid (∀ j, j < i → ∀ p, ps'[j]? = some p → rfinL p = true) ∧ Hid (Below WW.heap.size WW wr)) (fun iv _ => np - (intOf iv).toNat)
    case atStart => exact ⟨0, rfl, Nat.zero_le _, hid_of (fun j h => absurd h (Nat.not_lt_zero j)), K0⟩
    case round =>
      obtain ⟨i, rfl, hin, HM, hb⟩ := hrel
      obtain ⟨p0, p1, p2, p3, p4, p5⟩ := HX.out wr hb.out
      have HBWR : Hid (Below w.heap.size w wr) := hid_of (HBW.out.trans (hb.out.mono HBW.out.size))
      by_cases hlt : i < np
      · have d1 : decide (i < np) = true := decide_eq_true hlt
        have hlt' : (i : Int) < (np : Int) := by omega
        have HLT := hid_of hlt
        obtain ⟨u, hu⟩ : ∃ u, ps'[i]? = some u := ⟨_, List.getElem?_eq_getElem (by have := HNP.out; omega)⟩
        obtain ⟨g, o, kA, loA, hiA, anA, nnA, cnA, apA, npA, cpA, arA, nrA, crA, rfl, LA, hcA⟩ := HP.out.get hu
        obtain ⟨c0, c1, c2, c3, c4, c5⟩ := hcA wr HBWR.out
        have CALL := hid_of (IH.out u (List.mem_of_getElem? hu) kA loA hiA anA nnA cnA apA npA cpA arA nrA crA wr (LA.at HBWR.out))
        obtain ⟨q, hq⟩ : ∃ q, q = rfinL u := ⟨_, rfl⟩
        rw [← hq] at CALL
        have HU := hid_of hu
        have HQ := hid_of hq
        clear hlt hu hcA LA hq
        cases q
        · have RF : Hid (false = r) := hid_of (by rw [HR.out, all_bad HU.out HQ.out.symm])
          go_wp2_with (go_at_call 19; ((with_reducible refine (CALL.out).mono ?_); (rintro e w2 ⟨rfl, h2⟩); (have H2 := hid_of h2); clear h2))
          go_ret
          exact ⟨ret_b RF.out, HBWR.out.trans (H2.out.mono HBWR.out.size)⟩
        · go_wp2_with (go_at_call 19; ((with_reducible refine (CALL.out).mono ?_); (rintro e w2 ⟨rfl, h2⟩); (have H2 := hid_of h2); clear h2))
          go_roundw
          case rel => exact ⟨i + 1, by go_num, HLT.out, hid_of (fun j hj p hp => by
            by_cases e : j = i
            · subst e; rw [HU.out] at hp; cases hp; exact HQ.out.symm
            · exact HM.out j (by omega) p hp), hid_of (hb.out.trans (H2.out.mono hb.out.size))⟩
          case measure => have := HLT.out; simp [intOf]; omega
      · have d1 : decide (i < np) = false := decide_eq_false hlt
        have RT : Hid (true = r) := hid_of (by rw [HR.out, all_end HNP.out (fun j hj p hp => HM.out j (by omega) p hp)])
        clear hlt
        go_wp2
        go_ret
        exact ⟨ret_b RT.out, HBWR.out⟩
  · have hg0 : (nn == 0) = true := by rw [hn9]; rfl
    have hg1 : ((nn : Int) == 0) = true := by rw [hn9]; rfl
    clear hn9
    obtain ⟨WW, hWW⟩ : ∃ WW, WW = (w.alloc (.cells #[.int .i64 k, .int .i64 lo, .int .i64 hi, .slice an nn cn, .slice ap np cp, .slice ar nr cr] 26)) := ⟨_, rfl⟩
    have K0 : Hid (Below WW.heap.size WW (w.alloc (.cells #[.int .i64 k, .int .i64 lo, .int .i64 hi, .slice an nn cn, .slice ap np cp, .slice ar nr cr] 26))) := hid_of (by rw [← hWW]; exact Below.refl _ _)
    rw [← hWW] at HX HBW
    clear hWW
    go_enter Try.func19, Try.ntmps19
    go_wp2
    go_loopw [3] (fun iv wr => ∃ i : Nat, iv = .int .i64 i ∧ i ≤ np ∧ Hid (∀ j, j < i → ∀ p, ps'[j]? = some p → rfinL p = true) ∧ Hid (Below WW.heap.size WW wr)) (fun iv _ => np - (intOf iv).toNat)
    case atStart => exact ⟨0, rfl, Nat.zero_le _, hid_of (fun j h => absurd h (Nat.not_lt_zero j)), K0⟩
    case round =>
      obtain ⟨i, rfl, hin, HM, hb⟩ := hrel
      obtain ⟨p0, p1, p2, p3, p4, p5⟩ := HX.out wr hb.out
      have HBWR : Hid (Below w.heap.size w wr) := hid_of (HBW.out.trans (hb.out.mono HBW.out.size))
      by_cases hlt : i < np
      · have d1 : decide (i < np) = true := decide_eq_true hlt
        have hlt' : (i : Int) < (np : Int) := by omega
        have HLT := hid_of hlt
        obtain ⟨u, hu⟩ : ∃ u, ps'[i]? = some u := ⟨_, List.getElem?_eq_getElem (by have := HNP.out; omega)⟩
        obtain ⟨g, o, kA, loA, hiA, anA, nnA, cnA, apA, npA, cpA, arA, nrA, crA, rfl, LA, hcA⟩ := HP.out.get hu
        obtain ⟨c0, c1, c2, c3, c4, c5⟩ := hcA wr HBWR.out
        have CALL := hid_of (IH.out u (List.mem_of_getElem? hu) kA loA hiA anA nnA cnA apA npA cpA arA nrA crA wr (LA.at HBWR.out))
        obtain ⟨q, hq⟩ : ∃ q, q = rfinL u := ⟨_, rfl⟩
        rw [← hq] at CALL
        have HU := hid_of hu
        have HQ := hid_of hq
        clear hlt hu hcA LA hq
        cases q
        · have RF : Hid (false = r) := hid_of (by rw [HR.out, all_bad HU.out HQ.out.symm])
          go_wp2_with (go_at_call 19; ((with_reducible refine (CALL.out).mono ?_); (rintro e w2 ⟨rfl, h2⟩); (have H2 := hid_of h2); clear h2))
          go_ret
          exact ⟨ret_b RF.out, HBWR.out.trans (H2.out.mono HBWR.out.size)⟩
        · go_wp2_with (go_at_call 19; ((with_reducible refine (CALL.out).mono ?_); (rintro e w2 ⟨rfl, h2⟩); (have H2 := hid_of h2); clear h2))
          go_roundw
          case rel => exact ⟨i + 1, by go_num, HLT.out, hid_of (fun j hj p hp => by
            by_cases e : j = i
            · subst e; rw [HU.out] at hp; cases hp; exact HQ.out.symm
            · exact HM.out j (by omega) p hp), hid_of (hb.out.trans (H2.out.mono hb.out.size))⟩
          case measure => have := HLT.out; simp [intOf]; omega
      · have d1 : decide (i < np) = false := decide_eq_false hlt
        have RT : Hid (true = r) := hid_of (by rw [HR.out, all_end HNP.out (fun j hj p hp => HM.out j (by omega) p hp)])
        clear hlt
        go_wp2
        go_ret
        exact ⟨ret_b RT.out, HBWR.out⟩

end Go.Proofs.Ytilokloemcphbaa
