/- The reference's walk and Check. Bounds on sizes alone. -/
import Derived.Test.YtilokloemcphbaaLatRnx
import Derived.Test.YtilokloemcphbaaLatChk
namespace Go.Proofs.Ytilokloemcphbaa
open Go.RowKit

/-- The reference counts no node that has an error. -/
def WkP (t : Lat) (d c : Nat) (w : World) (e : Ending) (w' : World) : Prop := (∃ n : Nat, e = .returned (.tuple #[.int .i64 (n : Nat), .int .i64 (chkT t d c).2]) ∧ ((chkT t d c).2 = 0 → n = (chkT t d c).1)) ∧ Below w.heap.size w w'
theorem rnode_0 {t : Lat} {d c : Nat} (h : rnodeE t d c ≠ 0) : (chkT t d c).2 = rnodeE t d c := by
  unfold rnodeE at h ⊢
  rw [chkT_eq]
  split
  · rfl
  · rename_i h2
    rw [if_neg h2] at h
    rw [if_pos h]
theorem rnode_1 {t : Lat} {d c : Nat} (h : rnodeE t d c = 0) : chkT t d c = chkTs t.ps (d + 1) (c + 1) ∧ d ≤ 6 ∧ c < 64 := by
  unfold rnodeE at h
  split at h
  · cases h
  · rename_i h2
    rw [chkT_eq, if_neg h2, if_neg (by rw [h]; simp)]
    exact ⟨rfl, by omega, by omega⟩
theorem chkTs_snd {l : List Lat} {d c : Nat} {p : Lat} {i : Nat} (h : l[i]? = some p) (h2 : (chkT p d c).2 ≠ 0) : (chkTs (l.drop i) d c).2 = (chkT p d c).2 := by
  rw [chkTs_step h, if_pos h2]
set_option maxRecDepth 100000 in
set_option maxHeartbeats 6400000 in
theorem rwalk_any : ∀ (t : Lat) (k lo hi : Int) (an : Option Addr) (nn cn : Nat) (ap : Option Addr) (np cp : Nat) (ar : Option Addr) (nr cr : Nat) (d c : Nat) (w : World), LO w k lo hi an nn cn ap np cp ar nr cr t → d ≤ 7 → c ≤ 64 → Calls Try.prog 31 #[.agg #[.int .i64 k, .int .i64 lo, .int .i64 hi, .slice an nn cn, .slice ap np cp, .slice ar nr cr], .int .i64 (d : Nat), .int .i64 (c : Nat)] w (WkP t d c w) := by
  refine lat_ind ?_
  intro k' lo' hi' ns' ps' rs' ih k lo hi an nn cn ap np cp ar nr cr d c w H hd hc
  obtain ⟨T, hT⟩ : ∃ T, T = Lat.mk k' lo' hi' ns' ps' rs' := ⟨_, rfl⟩
  have hps : T.ps = ps' := by rw [hT]; rfl
  rw [← hT] at H ⊢
  clear hT
  have HBW := hid_of (bel_alloc w (.cells #[.int .i64 k, .int .i64 lo, .int .i64 hi, .slice an nn cn, .slice ap np cp, .slice ar nr cr] 26))
  have HX : Hid (∀ wz, Below (w.alloc (.cells #[.int .i64 k, .int .i64 lo, .int .i64 hi, .slice an nn cn, .slice ap np cp, .slice ar nr cr] 26)).heap.size (w.alloc (.cells #[.int .i64 k, .int .i64 lo, .int .i64 hi, .slice an nn cn, .slice ap np cp, .slice ar nr cr] 26)) wz → _) := hid_of (fun wz hz => box6 k lo hi an nn cn ap np cp ar nr cr hz)
  have ND := hid_of (rnode_any T k lo hi an nn cn ap np cp ar nr cr d c (w.alloc (.cells #[.int .i64 k, .int .i64 lo, .int .i64 hi, .slice an nn cn, .slice ap np cp, .slice ar nr cr] 26)) (H.at HBW.out) (by omega) hc)
  obtain ⟨E, hE⟩ : ∃ E, E = rnodeE T d c := ⟨_, rfl⟩
  rw [← hE] at ND
  have HE := hid_of hE
  have hl := H.p.len
  have hnp : np ≤ 9223372036854775807 := by omega
  have HP := hid_of H.p
  have HNP := hid_of hl.1
  rw [hps] at HP HNP
  have IH := hid_of ih
  have HPS := hid_of hps
  have hc9 : c ≤ 64 := hc
  have hd9 : d ≤ 7 := hd
  obtain ⟨WW, hWW⟩ : ∃ WW, WW = (w.alloc (.cells #[.int .i64 k, .int .i64 lo, .int .i64 hi, .slice an nn cn, .slice ap np cp, .slice ar nr cr] 26)) := ⟨_, rfl⟩
  have K0 : Hid (∀ w1, Below (w.alloc (.cells #[.int .i64 k, .int .i64 lo, .int .i64 hi, .slice an nn cn, .slice ap np cp, .slice ar nr cr] 26)).heap.size (w.alloc (.cells #[.int .i64 k, .int .i64 lo, .int .i64 hi, .slice an nn cn, .slice ap np cp, .slice ar nr cr] 26)) w1 → Below WW.heap.size WW w1) := hid_of (fun w1 h => by rw [hWW]; exact h)
  rw [← hWW] at HX HBW
  clear hE H ih hl hps hWW hc hd
  by_cases h0 : E = 0
  case neg =>
    have RE : Hid ((chkT T d c).2 = E) := hid_of (by rw [HE.out]; exact rnode_0 (by rw [← HE.out]; exact h0))
    have e0 : (E == 0) = false := beq_eq_false_iff_ne.2 h0
    have e0' : (E != 0) = true := bne_iff_ne.2 h0
    have HN0 := hid_of h0
    clear h0
    go_enter Try.func31, Try.ntmps31
    go_wp2_with (go_at_call 57; ((with_reducible refine (ND.out).mono ?_); (rintro e w1 ⟨rfl, h1⟩); (have E1 := hid_of (K0.out w1 h1)); clear h1))
    go_ret2
    exact ⟨⟨c, by rw [RE.out] <;> rfl, fun h => absurd (RE.out.symm.trans h) HN0.out⟩, HBW.out.trans (E1.out.mono HBW.out.size)⟩
  subst h0
  obtain ⟨hq1, hd6, hc64⟩ := rnode_1 HE.out.symm
  rw [HPS.out] at hq1
  have HQ := hid_of hq1
  obtain ⟨R, hR⟩ : ∃ R, R = chkT T d c := ⟨_, rfl⟩
  have HRR := hid_of hR
  clear hq1 hR
  go_enter Try.func31, Try.ntmps31
  go_wp2_with (go_at_call 57; ((with_reducible refine (ND.out).mono ?_); (rintro e w1 ⟨rfl, h1⟩); (have E1 := hid_of (K0.out w1 h1)); clear h1))
  clear ND
  go_loopw [9, 10] (fun nv iv wr => ∃ i ni : Nat, iv = .int .i64 i ∧ nv = .int .i64 ni ∧ i ≤ np ∧ Hid (chkTs (ps'.drop i) (d + 1) ni = R) ∧ Hid (ni ≤ 64) ∧ Hid (Below WW.heap.size WW wr)) (fun _ iv _ => np - (intOf iv).toNat)
  case atStart => exact ⟨0, c + 1, rfl, by go_num, Nat.zero_le _, hid_of (by rw [HRR.out]; exact HQ.out.symm), hid_of hc64, E1⟩
  case round =>
    obtain ⟨i, ni, rfl, rfl, hin, hm, hni, hb⟩ := hrel
    obtain ⟨p0, p1, p2, p3, p4, p5⟩ := HX.out wr hb.out
    have HBWR : Hid (Below w.heap.size w wr) := hid_of (HBW.out.trans (hb.out.mono HBW.out.size))
    by_cases hlt : i < np
    · have d1 : decide (i < np) = true := decide_eq_true hlt
      have hlt' : (i : Int) < (np : Int) := by omega
      have HLT := hid_of hlt
      have hn9 : ni ≤ 64 := hni.out
      obtain ⟨u, hu⟩ : ∃ u, ps'[i]? = some u := ⟨_, List.getElem?_eq_getElem (by have := HNP.out; omega)⟩
      obtain ⟨g, o, kA, loA, hiA, anA, nnA, cnA, apA, npA, cpA, arA, nrA, crA, rfl, LA, hcA⟩ := HP.out.get hu
      obtain ⟨c0, c1, c2, c3, c4, c5⟩ := hcA wr HBWR.out
      have CALL := hid_of (IH.out u (List.mem_of_getElem? hu) kA loA hiA anA nnA cnA apA npA cpA arA nrA crA (d + 1) ni wr (LA.at HBWR.out) (by omega) hn9)
      unfold WkP at CALL
      have HS := hid_of (hm.out.symm.trans (chkTs_step hu))
      have HLE := hid_of (chkT_le u (d + 1) ni hni.out)
      obtain ⟨q, hq⟩ : ∃ q, q = chkT u (d + 1) ni := ⟨_, rfl⟩
      rw [← hq] at CALL HS HLE
      obtain ⟨qc, qe⟩ := q
      simp only at CALL HS HLE
      clear hq hlt hu hcA LA
      by_cases h0 : qe = 0
      · subst h0
        have HS2 : Hid (chkTs (ps'.drop (i + 1)) (d + 1) qc = R) := hid_of (HS.out.trans (if_neg (by simp))).symm
        go_wp2_with (go_at_call 31; go_loud (refine (CALL.out).mono ?_; rintro e w3 ⟨⟨m, rfl, hm2⟩, h4⟩; have HM2 := hid_of (hm2 rfl); have K3 := hid_of h4; clear hm2 h4))
        go_roundw
        case rel => exact ⟨i + 1, qc, by go_num, by rw [HM2.out], HLT.out, HS2, hid_of HLE.out.2, hid_of (hb.out.trans (K3.out.mono hb.out.size))⟩
        case measure => have := HLT.out; simp [intOf]; omega
      · have e0 : (qe == 0) = false := beq_eq_false_iff_ne.2 h0
        have e0' : (qe != 0) = true := bne_iff_ne.2 h0
        have RE : Hid (R = (qc, qe)) := hid_of (HS.out.trans (if_pos h0))
        have HN0 := hid_of h0
        clear h0
        go_wp2_with (go_at_call 31; go_loud (refine (CALL.out).mono ?_; rintro e w3 ⟨⟨m, rfl, hm2⟩, h4⟩; have K3 := hid_of h4; clear hm2 h4))
        go_ret2
        exact ⟨⟨ni, by rw [← HRR.out, RE.out] <;> rfl, fun h => absurd (by rw [← HRR.out, RE.out] at h; exact h) HN0.out⟩, HBWR.out.trans (K3.out.mono HBWR.out.size)⟩
    · have d1 : decide (i < np) = false := decide_eq_false hlt
      have RE : Hid (R = (ni, 0)) := hid_of (by rw [← hm.out, List.drop_eq_nil_of_le (by have := HNP.out; omega), chkTs])
      clear hlt
      go_wp2
      go_ret2
      exact ⟨⟨ni, by rw [← HRR.out, RE.out] <;> rfl, fun _ => by rw [← HRR.out, RE.out]⟩, HBWR.out⟩
set_option maxRecDepth 100000 in
set_option maxHeartbeats 3200000 in
theorem rcheck_any (t : Lat) (k lo hi : Int) (an : Option Addr) (nn cn : Nat) (ap : Option Addr) (np cp : Nat) (ar : Option Addr) (nr cr : Nat) (w : World) (H : LO w k lo hi an nn cn ap np cp ar nr cr t) : Calls Try.prog 13 #[.agg #[.int .i64 k, .int .i64 lo, .int .i64 hi, .slice an nn cn, .slice ap np cp, .slice ar nr cr]] w (ErP (chkL t) w) := by
  obtain ⟨r, hr⟩ : ∃ r, r = chkL t := ⟨_, rfl⟩
  rw [← hr]
  have HR := hid_of hr
  have HB := hid_of (bel_alloc w (.cells #[.int .i64 k, .int .i64 lo, .int .i64 hi, .slice an nn cn, .slice ap np cp, .slice ar nr cr] 26))
  have CALL := hid_of (rwalk_any t k lo hi an nn cn ap np cp ar nr cr 1 0 (w.alloc (.cells #[.int .i64 k, .int .i64 lo, .int .i64 hi, .slice an nn cn, .slice ap np cp, .slice ar nr cr] 26)) (H.at HB.out) (by omega) (by omega))
  obtain ⟨p0, p1, p2, p3, p4, p5⟩ := box6 k lo hi an nn cn ap np cp ar nr cr (Below.refl _ (w.alloc (.cells #[.int .i64 k, .int .i64 lo, .int .i64 hi, .slice an nn cn, .slice ap np cp, .slice ar nr cr] 26)))
  clear hr H
  go_enter Try.func13, Try.ntmps13
  go_wp2_with (go_at_call 31; go_loud (refine (CALL.out).mono ?_; rintro e w3 ⟨⟨m, rfl, hm2⟩, h4⟩; have K3 := hid_of h4; clear hm2 h4))
  go_ret
  exact ⟨ret_i (by rw [HR.out]; rfl), HB.out.trans (K3.out.mono HB.out.size)⟩
end Go.Proofs.Ytilokloemcphbaa
