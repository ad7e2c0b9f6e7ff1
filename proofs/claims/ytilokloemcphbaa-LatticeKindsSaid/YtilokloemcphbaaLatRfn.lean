/- The reference's Chain and Distributive. Bounds on sizes alone. -/
import Derived.Test.YtilokloemcphbaaLatRnf
namespace Go.Proofs.Ytilokloemcphbaa
open Go.RowKit

set_option maxRecDepth 100000 in
set_option maxHeartbeats 3200000 in
theorem rchain_any : ∀ (t : Lat) (k lo hi : Int) (an : Option Addr) (nn cn : Nat) (ap : Option Addr) (np cp : Nat) (ar : Option Addr) (nr cr : Nat) (w : World), LO w k lo hi an nn cn ap np cp ar nr cr t → Calls Try.prog 17 #[.agg #[.int .i64 k, .int .i64 lo, .int .i64 hi, .slice an nn cn, .slice ap np cp, .slice ar nr cr]] w (BoP (chainL t) w) := by
  refine lat_ind ?_
  intro k' lo' hi' ns' ps' rs' ih k lo hi an nn cn ap np cp ar nr cr w H
  obtain rfl : k = k' := H.hk
  have HB := hid_of (bel_alloc w (.cells #[.int .i64 k, .int .i64 lo, .int .i64 hi, .slice an nn cn, .slice ap np cp, .slice ar nr cr] 26))
  rw [chainL]
  by_cases h7 : k = 7
  case neg =>
    rw [if_neg h7]
    clear H ih
    rcases kinds k with rfl | rfl | rfl | rfl | rfl | rfl | rfl | rfl | rfl | rfl | hx
    case inr.inr.inr.inr.inr.inr.inr.inr.inr.inr =>
      obtain ⟨h1, h2, h3, h4, h5, h6, h7', h8, h9, h10⟩ := hx
      rw [decide_eq_false (by omega)]
      have g1 : (k == 1) = false := beq_eq_false_iff_ne.2 h1
      have g2 : (k == 2) = false := beq_eq_false_iff_ne.2 h2
      have g3 : (k == 3) = false := beq_eq_false_iff_ne.2 h3
      have g7 : (k == 7) = false := beq_eq_false_iff_ne.2 h7
      go_enter Try.func17, Try.ntmps17
      go_wp2
      go_ret
      exact ⟨rfl, HB.out⟩
    case inr.inr.inr.inr.inr.inr.inl => exact absurd rfl h7
    all_goals
      clear h7
      go_enter Try.func17, Try.ntmps17
      go_wp2
      go_ret
      exact ⟨rfl, HB.out⟩
  subst h7
  rw [if_pos rfl, chainsL_all]
  have hl := H.p.len
  simp only [Lat.ps] at hl
  by_cases h2 : np = 2
  case neg =>
    have e2 : (np == 2) = false := beq_eq_false_iff_ne.2 h2
    have e3 : ((np : Int) == 2) = false := beq_eq_false_iff_ne.2 (by omega)
    rw [decide_eq_false (by omega), Bool.false_and]
    clear h2 hl H ih
    go_enter Try.func17, Try.ntmps17
    go_wp2
    go_ret
    exact ⟨rfl, HB.out⟩
  subst h2
  rw [decide_eq_true hl.1.symm, Bool.true_and]
  obtain ⟨p0, p1, rfl⟩ : ∃ p0 p1, ps' = [p0, p1] := by
    match ps', hl.1 with
    | [a, b], _ => exact ⟨a, b, rfl⟩
  obtain ⟨g, o, kA, loA, hiA, anA, nnA, cnA, apA, npA, cpA, arA, nrA, crA, rfl, LA, hcA⟩ := H.p.get (show [p0, p1][0]? = some p0 from rfl)
  obtain ⟨gB, oB, kB, loB, hiB, anB, nnB, cnB, apB, npB, cpB, arB, nrB, crB, eB, LB, hcB⟩ := H.p.get (show [p0, p1][1]? = some p1 from rfl)
  simp only [Option.some.injEq, Addr.mk.injEq, and_true] at eB
  obtain ⟨rfl, rfl⟩ := eB
  have CA := hid_of (fun (wz : World) (hz : Below w.heap.size w wz) => ih p0 (by simp) kA loA hiA anA nnA cnA apA npA cpA arA nrA crA wz (LA.at hz))
  have CB := hid_of (fun (wz : World) (hz : Below w.heap.size w wz) => ih p1 (by simp) kB loB hiB anB nnB cnB apB npB cpB arB nrB crB wz (LB.at hz))
  simp only [List.all_cons, List.all_nil, Bool.and_true]
  obtain ⟨qa, hqa⟩ : ∃ q, q = chainL p0 := ⟨_, rfl⟩
  obtain ⟨qb, hqb⟩ : ∃ q, q = chainL p1 := ⟨_, rfl⟩
  rw [← hqa] at CA ⊢
  rw [← hqb] at CB ⊢
  obtain ⟨a0, a1, a2, a3, a4, a5⟩ := hcA _ HB.out
  have HC : Hid (∀ w', Below (w.alloc (.cells #[.int .i64 7, .int .i64 lo, .int .i64 hi, .slice an nn cn, .slice (some ⟨g, o, none⟩) 2 cp, .slice ar nr cr] 26)).heap.size (w.alloc (.cells #[.int .i64 7, .int .i64 lo, .int .i64 hi, .slice an nn cn, .slice (some ⟨g, o, none⟩) 2 cp, .slice ar nr cr] 26)) w' → w'.cell? ⟨w.heap.size, 4, none⟩ = some (.slice (some ⟨g, o, none⟩) 2 cp)) := hid_of (fun w' h =>
    blk_kept (cs := [.int .i64 7, .int .i64 lo, .int .i64 hi, .slice an nn cn, .slice (some ⟨g, o, none⟩) 2 cp, .slice ar nr cr]) (heap_alloc_new w _) h rfl)
  have HCB := hid_of hcB
  clear hqa hqb hcA hcB H ih hl LA LB
  simp only [Nat.zero_mul, Nat.one_mul, Nat.add_zero] at a0 a1 a2 a3 a4 a5 HCB
  cases qa
  · rw [Bool.false_and]
    go_enter Try.func17, Try.ntmps17
    go_wp2_with (go_at_call 17; ((with_reducible refine (CA.out _ HB.out).mono ?_); (rintro e w2 ⟨rfl, h2⟩)); (have H2 := hid_of (HB.out.trans (h2.mono HB.out.size))); clear h2)
    go_ret
    exact ⟨rfl, H2.out⟩
  · rw [Bool.true_and]
    go_enter Try.func17, Try.ntmps17
    go_wp2_with (first
      | (go_at_call 17; ((with_reducible refine (CA.out _ HB.out).mono ?_); (rintro e w2 ⟨rfl, h2⟩)); (have H2 := hid_of (HB.out.trans (h2.mono HB.out.size))); (have s4 := HC.out w2 h2); (obtain ⟨b0, b1, b2, b3, b4, b5⟩ := HCB.out w2 H2.out); clear h2)
      | (go_at_call 17; ((with_reducible refine (CB.out _ H2.out).mono ?_); (rintro e w3 ⟨rfl, h3⟩)); (have H3 := hid_of (H2.out.trans (h3.mono H2.out.size))); clear h3))
    go_ret
    exact ⟨rfl, H3.out⟩
set_option maxRecDepth 100000 in
set_option maxHeartbeats 6400000 in
theorem rdist_any : ∀ (t : Lat) (k lo hi : Int) (an : Option Addr) (nn cn : Nat) (ap : Option Addr) (np cp : Nat) (ar : Option Addr) (nr cr : Nat) (w : World), LO w k lo hi an nn cn ap np cp ar nr cr t → Calls Try.prog 21 #[.agg #[.int .i64 k, .int .i64 lo, .int .i64 hi, .slice an nn cn, .slice ap np cp, .slice ar nr cr]] w (BoP (distL t) w) := by
  refine lat_ind ?_
  intro k' lo' hi' ns' ps' rs' ih k lo hi an nn cn ap np cp ar nr cr w H
  obtain rfl : k = k' := H.hk
  have HBW := hid_of (bel_alloc w (.cells #[.int .i64 k, .int .i64 lo, .int .i64 hi, .slice an nn cn, .slice ap np cp, .slice ar nr cr] 26))
  have HX : Hid (∀ wz, Below (w.alloc (.cells #[.int .i64 k, .int .i64 lo, .int .i64 hi, .slice an nn cn, .slice ap np cp, .slice ar nr cr] 26)).heap.size (w.alloc (.cells #[.int .i64 k, .int .i64 lo, .int .i64 hi, .slice an nn cn, .slice ap np cp, .slice ar nr cr] 26)) wz → _) := hid_of (fun wz hz => box6 k lo hi an nn cn ap np cp ar nr cr hz)
  have hnl := H.ln
  have hl := H.p.len
  have hnp : np ≤ 9223372036854775807 := by omega
  have HNP := hid_of hl.1
  have HP := hid_of H.p
  have IH := hid_of ih
  simp only [Lat.ps] at HP HNP
  obtain ⟨r, hr⟩ : ∃ r, r = distL ⟨k, lo', hi', ns', ps', rs'⟩ := ⟨_, rfl⟩
  rw [← hr]
  rw [distL, distsL_all] at hr
  have HR := hid_of hr
  clear hr H ih hl
  by_cases h8 : k = 8
  · subst h8
    have RF : Hid (false = r) := hid_of (by rw [HR.out]; rfl)
    clear hnl
    go_enter Try.func21, Try.ntmps21
    go_wp2
    go_ret
    exact ⟨ret_b RF.out, HBW.out⟩
  by_cases h10 : k = 10
  · subst h10
    have RF : Hid (false = r) := hid_of (by rw [HR.out]; rfl)
    clear hnl
    go_enter Try.func21, Try.ntmps21
    go_wp2
    go_ret
    exact ⟨ret_b RF.out, HBW.out⟩
  have e8 : (k == 8) = false := beq_eq_false_iff_ne.2 h8
  have e10 : (k == 10) = false := beq_eq_false_iff_ne.2 h10
  have HR : Hid (r = ps'.all distL) := hid_of (by rw [HR.out, if_neg (by omega)])
  clear h8 h10 hnl
  obtain ⟨WW, hWW⟩ : ∃ WW, WW = (w.alloc (.cells #[.int .i64 k, .int .i64 lo, .int .i64 hi, .slice an nn cn, .slice ap np cp, .slice ar nr cr] 26)) := ⟨_, rfl⟩
  have K0 : Hid (Below WW.heap.size WW (w.alloc (.cells #[.int .i64 k, .int .i64 lo, .int .i64 hi, .slice an nn cn, .slice ap np cp, .slice ar nr cr] 26))) := hid_of (by rw [← hWW]; exact Below.refl _ _)
  rw [← hWW] at HX HBW
  clear hWW
  go_enter Try.func21, Try.ntmps21
  go_wp2
  go_loopw [3] (fun iv wr => ∃ i : Nat, iv = .int .i64 i ∧ i ≤ np ∧ Hid (∀ j, j < i → ∀ p, ps'[j]? = some p → distL p = true) ∧ Hid (Below WW.heap.size WW wr)) (fun iv _ => np - (intOf iv).toNat)
  case atStart => exact ⟨0, rfl, Nat.zero_le _, hid_of (fun j h => absurd h (Nat.not_lt_zero j)), K0⟩
  case round =>
    obtain ⟨i, rfl, hin, HM, hb⟩ := hrel
    obtain ⟨p0, p1, p2, p3, p4, p5⟩ := HX.out wr hb.out
    have HBWR : Hid (Below w.heap.size w wr) := hid_of (HBW.out.trans (hb.out.mono HBW.out.size))
    by_cases hlt : i < np
    · have d1 : decide (i < np) = true := decide_eq_true hlt
      have hlt' : (i : Int) < (np : Int) := by omega
      have HLT := hid_of hlt
      obtain ⟨u, hu⟩ : ∃ u, ps'[i]? = some u := ⟨_, List.getElem?_eq_getElem (by have := HNP.out; omega)⟩
      obtain ⟨g, o, kA, loA, hiA, anA, nnA, cnA, apA, npA, cpA, arA, nrA, crA, rfl, LA, hcA⟩ := HP.out.get hu
      obtain ⟨c0, c1, c2, c3, c4, c5⟩ := hcA wr HBWR.out
      have CALL := hid_of (IH.out u (List.mem_of_getElem? hu) kA loA hiA anA nnA cnA apA npA cpA arA nrA crA wr (LA.at HBWR.out))
      obtain ⟨q, hq⟩ : ∃ q, q = distL u := ⟨_, rfl⟩
      rw [← hq] at CALL
      have HU := hid_of hu
      have HQ := hid_of hq
      clear hlt hu hcA LA hq
      cases q
      · have RF : Hid (false = r) := hid_of (by rw [HR.out, all_bad HU.out HQ.out.symm])
        go_wp2_with (go_at_call 21; ((with_reducible refine (CALL.out).mono ?_); (rintro e w2 ⟨rfl, h2⟩); (have H2 := hid_of h2); clear h2))
        go_ret
        exact ⟨ret_b RF.out, HBWR.out.trans (H2.out.mono HBWR.out.size)⟩
      · go_wp2_with (go_at_call 21; ((with_reducible refine (CALL.out).mono ?_); (rintro e w2 ⟨rfl, h2⟩); (have H2 := hid_of h2); clear h2))
        go_roundw
        case rel => exact ⟨i + 1, by go_num, HLT.out, hid_of (fun j hj p hp => by
          by_cases e : j = i
          · subst e; rw [HU.out] at hp; cases hp; exact HQ.out.symm
          · exact HM.out j (by omega) p hp), hid_of (hb.out.trans (H2.out.mono hb.out.size))⟩
        case measure => have := HLT.out; simp [intOf]; omega
    · have d1 : decide (i < np) = false := decide_eq_false hlt
      have RT : Hid (true = r) := hid_of (by rw [HR.out, all_end HNP.out (fun j hj p hp => HM.out j (by omega) p hp)])
      clear hlt
      go_wp2
      go_ret
      exact ⟨ret_b RT.out, HBWR.out⟩

end Go.Proofs.Ytilokloemcphbaa
