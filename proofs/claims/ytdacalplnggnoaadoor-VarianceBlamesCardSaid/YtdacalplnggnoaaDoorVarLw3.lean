/- VarianceBlames, walked. No condition. -/
import Derived.Test.YtdacalplnggnoaaDoorVarLw1
namespace Go.Proofs.YtdacalplnggnoaaDoor
open Go.RowKit

def ConP (t : Ex) (a : Int) (w : World) (e : Ending) (w' : World) : Prop := ∃ b : Bool, e = .returned (.bool b) ∧ (b = true ↔ Has t a) ∧ Below w.heap.size w w'
def conC (t : Ex) : Prop := ∀ (opa sra kda loa hia : Int) (vna vpa vra : Value) (na : Int) (vta : Value) (pta : Int) (vka : Value) (m : Int) (w : World), ED w ⟨opa, sra, kda, loa, hia, vna, vpa, vra, na, vta, pta, vka⟩ t → Calls Tryd.prog 16 #[.agg #[.int .i64 opa, .int .i64 sra, .int .i64 kda, .int .i64 loa, .int .i64 hia, vna, vpa, vra, .int .i64 na, vta, .int .i64 pta, vka], .int .i64 m] w (ConP t m w)
theorem has_iff (t : Ex) (a : Int) : Has t a ↔ t.pt = a ∨ ∃ k ∈ t.ks, Has k a := by
  constructor
  · intro h
    cases h with
    | here => exact .inl rfl
    | kid hk h => exact .inr ⟨_, hk, h⟩
  · rintro (rfl | ⟨k, hk, h⟩)
    · exact .here t
    · exact .kid hk h
set_option maxRecDepth 100000 in
set_option maxHeartbeats 3200000 in
theorem contains_any : ∀ t, conC t := by
  refine ex_ind ?_
  intro op' sr' kd' np' pk' pl' ph' n' pt' ks' ih opa sra kda loa hia vna vpa vra na vta pta vka m w H
  obtain ⟨t, ht⟩ : ∃ t, t = (Ex.mk op' sr' kd' np' pk' pl' ph' n' pt' ks') := ⟨_, rfl⟩
  rw [← ht] at H ⊢
  obtain rfl : ks' = t.ks := by rw [ht]; rfl
  obtain ⟨ak, nk, ck, e1, HK⟩ := H.kd
  simp only at e1
  subst e1
  have hpt : pta = t.pt := by cases H; assumption
  obtain ⟨hq, hk2, hk3⟩ := HK.len
  have HNK := hid_of hq
  have hnk : nk ≤ 9223372036854775807 := by omega
  have HKD := hid_of HK
  have CALL := hid_of ih
  have HHI : Hid (Has t m ↔ pta = m ∨ ∃ k ∈ t.ks, Has k m) := hid_of (by rw [hpt]; exact has_iff t m)
  have HB := hid_of (bel_alloc w (.cells #[.int .i64 opa, .int .i64 sra, .int .i64 kda, .int .i64 loa, .int .i64 hia, vna, vpa, vra, .int .i64 na, vta, .int .i64 pta, .slice ak nk ck] 36))
  have HCC : Hid (∀ w2, Below (w.alloc (.cells #[.int .i64 opa, .int .i64 sra, .int .i64 kda, .int .i64 loa, .int .i64 hia, vna, vpa, vra, .int .i64 na, vta, .int .i64 pta, .slice ak nk ck] 36)).heap.size (w.alloc (.cells #[.int .i64 opa, .int .i64 sra, .int .i64 kda, .int .i64 loa, .int .i64 hia, vna, vpa, vra, .int .i64 na, vta, .int .i64 pta, .slice ak nk ck] 36)) w2 → w2.cell? ⟨w.heap.size, 11, none⟩ = some (.slice ak nk ck)) := hid_of (fun w2 h2 => (cs12 (row_at h2)).2.2.2.2.2.2.2.2.2.2.2)
  clear H HK ih hq hk2 hk3 ht hpt
  by_cases hm : pta = m
  · have e1 : (pta == m) = true := by simpa using hm
    have HM := hid_of hm
    clear hm
    go_enter Tryd.func16, Tryd.ntmps16
    go_wp2
    go_ret
    exact ⟨true, rfl, ⟨fun _ => HHI.out.2 (.inl HM.out), fun _ => rfl⟩, HB.out⟩
  have e1 := ne_f hm
  have HM := hid_of hm
  clear hm
  go_enter Tryd.func16, Tryd.ntmps16
  go_wp2
  go_loopw [5] (fun iv wr => ∃ (i : Nat), iv = .int .i64 i ∧ i ≤ nk ∧ Hid (∀ j u, j < i → t.ks[j]? = some u → ¬ Has u m) ∧ Hid (Below (w.alloc (.cells #[.int .i64 opa, .int .i64 sra, .int .i64 kda, .int .i64 loa, .int .i64 hia, vna, vpa, vra, .int .i64 na, vta, .int .i64 pta, .slice ak nk ck] 36)).heap.size (w.alloc (.cells #[.int .i64 opa, .int .i64 sra, .int .i64 kda, .int .i64 loa, .int .i64 hia, vna, vpa, vra, .int .i64 na, vta, .int .i64 pta, .slice ak nk ck] 36)) wr)) (fun iv _ => nk - (intOf iv).toNat)
  case atStart => exact ⟨0, rfl, Nat.zero_le _, hid_of (fun j u hj => by omega), hid_of (Below.refl _ _)⟩
  case round =>
    obtain ⟨i, rfl, hi, HW, hb⟩ := hrel
    have cK := HCC.out _ hb.out
    by_cases hlt : i < nk
    · have d1 : decide (i < nk) = true := decide_eq_true hlt
      have hlt' : (i : Int) < (nk : Int) := by omega
      have HLT := hid_of hlt
      obtain ⟨u, hu⟩ : ∃ u, t.ks[i]? = some u := ⟨_, List.getElem?_eq_getElem (by have := HNK.out; omega)⟩
      obtain ⟨gk, qk, y, rfl, HY⟩ := HKD.out.get hu
      obtain ⟨k0, k1, k2, k3, k4, k5, k6, k6n, k6c, k7, k8, k9, k10, k11, k11n, k11c, rfl, -, -, -, -, -, -, -, -, -, -, -, -, -, -, -, d00, d01, d02, d03, d04, d05, d06, d07, d08, d09, d10, d11⟩ := (HY.at (HB.out.trans (hb.out.mono HB.out.size))).open
      have CI := hid_of (CALL.out u (List.mem_of_getElem? hu) _ _ _ _ _ _ _ _ _ _ _ _ m wr (HY.at (HB.out.trans (hb.out.mono HB.out.size))).1)
      have HU := hid_of hu
      clear hlt hu HY
      go_wp2_with fail
      refine (CI.out).mono ?_
      rintro e w2 ⟨bb, rfl, hbb, h2⟩
      have H2 := hid_of h2
      have HBB := hid_of hbb
      clear h2 hbb
      cases bb
      · go_wp2
        go_roundw
        case rel => exact ⟨i + 1, by go_num, HLT.out, hid_of (fun j v hj hv => by
          by_cases e : j = i
          · subst e
            have e2 := HU.out
            rw [e2] at hv
            cases hv
            intro hh
            have := HBB.out
            simp [hh] at this
          · exact HW.out j v (by omega) hv), hid_of (hb.out.trans (H2.out.mono hb.out.size))⟩
        case measure => have := HLT.out; simp [intOf]; omega
      · go_wp2
        go_ret
        refine ⟨true, rfl, ⟨fun _ => HHI.out.2 (.inr ⟨u, List.mem_of_getElem? HU.out, ?_⟩), fun _ => rfl⟩, HB.out.trans ((hb.out.trans (H2.out.mono hb.out.size)).mono HB.out.size)⟩
        have := HBB.out
        simpa using this
    · have d1 : decide (i < nk) = false := decide_eq_false hlt
      have HI : Hid (i = nk) := hid_of (by omega)
      go_wp2
      go_ret
      refine ⟨false, rfl, ⟨fun h => by simp at h, fun h => ?_⟩, HB.out.trans (hb.out.mono HB.out.size)⟩
      rcases HHI.out.1 h with h | ⟨k, hk, h⟩
      · exact absurd h HM.out
      · obtain ⟨j, hj⟩ := List.getElem?_of_mem hk
        exact absurd h (HW.out j k (by rw [HI.out, HNK.out]; exact (List.getElem?_eq_some_iff.1 hj).1) hj)
theorem cs16n {w : World} {b : Nat} {E : TypeId} {m : Nat × Nat} {u0 u1 u2 u3 v0 v1 v2 v3 v4 v5 v6 v7 v8 v9 v10 v11 : Value} (h : w.heap[b]? = some (.cells #[u0, u1, u2, u3, v0, v1, v2, v3, v4, v5, v6, v7, v8, v9, v10, v11] E m)) :
    w.cell? ⟨b, 0, none⟩ = some u0 ∧ w.cell? ⟨b, 1, none⟩ = some u1 ∧ w.cell? ⟨b, 2, none⟩ = some u2 ∧ w.cell? ⟨b, 3, none⟩ = some u3 ∧ w.cell? ⟨b, 4, none⟩ = some v0 ∧ w.cell? ⟨b, 5, none⟩ = some v1 ∧ w.cell? ⟨b, 6, none⟩ = some v2 ∧ w.cell? ⟨b, 7, none⟩ = some v3 ∧ w.cell? ⟨b, 8, none⟩ = some v4 ∧ w.cell? ⟨b, 9, none⟩ = some v5 ∧ w.cell? ⟨b, 10, none⟩ = some v6 ∧ w.cell? ⟨b, 11, none⟩ = some v7 ∧ w.cell? ⟨b, 12, none⟩ = some v8 ∧ w.cell? ⟨b, 13, none⟩ = some v9 ∧ w.cell? ⟨b, 14, none⟩ = some v10 ∧ w.cell? ⟨b, 15, none⟩ = some v11 := by
  have q : ∀ j u, #[u0, u1, u2, u3, v0, v1, v2, v3, v4, v5, v6, v7, v8, v9, v10, v11].toList[j]? = some u → w.cell? ⟨b, j, none⟩ = some u := fun j u hu => by
    have := World.news_of_block h j u hu
    rw [Addr.add_mid, Nat.zero_add] at this
    exact this
  exact ⟨q _ _ rfl, q _ _ rfl, q _ _ rfl, q _ _ rfl, q _ _ rfl, q _ _ rfl, q _ _ rfl, q _ _ rfl, q _ _ rfl, q _ _ rfl, q _ _ rfl, q _ _ rfl, q _ _ rfl, q _ _ rfl, q _ _ rfl, q _ _ rfl⟩
set_option maxRecDepth 100000 in
set_option maxHeartbeats 6400000 in
theorem blames_law (u0 u1 u2 : Value) (res : Int) (opa sra kda loa hia : Int) (vna vpa vra : Value) (na : Int) (vta : Value) (pta : Int) (vka : Value) (t : Ex) (w : World) (HG : Gl w) (HX : ED w ⟨opa, sra, kda, loa, hia, vna, vpa, vra, na, vta, pta, vka⟩ t) : Calls Tryd.prog 6 #[.agg #[u0, u1, u2, .int .i64 res, .int .i64 opa, .int .i64 sra, .int .i64 kda, .int .i64 loa, .int .i64 hia, vna, vpa, vra, .int .i64 na, vta, .int .i64 pta, vka]] w fun e w' => e = .returned (.bool true) ∧ Below w.heap.size w w' := by
  have HB := hid_of (bel_alloc w (.cells #[u0, u1, u2, .int .i64 res, .int .i64 opa, .int .i64 sra, .int .i64 kda, .int .i64 loa, .int .i64 hia, vna, vpa, vra, .int .i64 na, vta, .int .i64 pta, vka] 43))
  obtain ⟨W, hW⟩ : ∃ W, W = w.alloc (.cells #[u0, u1, u2, .int .i64 res, .int .i64 opa, .int .i64 sra, .int .i64 kda, .int .i64 loa, .int .i64 hia, vna, vpa, vra, .int .i64 na, vta, .int .i64 pta, vka] 43) := ⟨_, rfl⟩
  have HGW : Hid (∀ wz, Below W.heap.size W wz → Gl wz) := hid_of (fun wz hz => by rw [hW] at hz; exact (HG.at (bel_alloc w _)).at hz)
  have HXW : Hid (∀ wz, Below W.heap.size W wz → ED wz ⟨opa, sra, kda, loa, hia, vna, vpa, vra, na, vta, pta, vka⟩ t) := hid_of (fun wz hz => by rw [hW] at hz; exact (HX.at (bel_alloc w _)).at hz)
  have HRW : Hid (∀ wz, Below W.heap.size W wz → wz.heap[w.heap.size]? = some (.cells #[u0, u1, u2, .int .i64 res, .int .i64 opa, .int .i64 sra, .int .i64 kda, .int .i64 loa, .int .i64 hia, vna, vpa, vra, .int .i64 na, vta, .int .i64 pta, vka] 43 (0, 0))) := hid_of (fun wz hz => by rw [hW] at hz; exact row_at hz)
  have HBW : Hid (Below w.heap.size w W) := hid_of (by rw [hW]; exact bel_alloc w _)
  have AW0 := awake_any W (HGW.out _ (Below.refl _ _))
  have AW1 : Hid (∀ wz, wz = W → Calls Tryd.prog 7 #[] wz (BooP true W)) := hid_of (fun wz h => by rw [h]; exact AW0)
  have AW := hid_of (AW1.out _ hW.symm)
  clear AW0 AW1 HG HX hW
  have SM := hid_of (fun wz hz => small_any opa sra kda loa hia vna vpa vra na vta pta vka t 300 wz (HXW.out wz hz) (by omega) (by omega))
  go_enter Tryd.func6, Tryd.ntmps6
  go_wp2_with (go_at_call 7; ((with_reducible refine (AW.out).mono ?_); (rintro e w1 ⟨rfl, h1⟩); (have E1 := hid_of h1); (obtain ⟨p0, p1, p2, p3, p4, p5, p6, p7, p8, p9, p10, p11, p12, p13, p14, p15⟩ := cs16n (HRW.out w1 h1)); clear h1))
  refine (SM.out w1 E1.out).mono ?_
  rintro e w2 ⟨bx, rfl, hbx, h2⟩
  have E2 := hid_of (bel_chain E1.out h2)
  have HBX := hid_of hbx
  clear h2 hbx p0 p1 p2 p3 p4 p5 p6 p7 p8 p9 p10 p11 p12 p13 p14 p15
  cases bx
  · go_wp2
    go_ret
    exact ⟨rfl, HBW.out.trans (E2.out.mono HBW.out.size)⟩
  have WX : Hid (Wid t) := hid_of (by first | exact HBX.out rfl | exact HBX.out trivial)
  clear HBX
  obtain ⟨p0, p1, p2, p3, p4, p5, p6, p7, p8, p9, p10, p11, p12, p13, p14, p15⟩ := cs16n (HRW.out w2 E2.out)
  have BL := hid_of (blamef_any u0 u1 u2 res opa sra kda loa hia vna vpa vra na vta pta vka t w2 (HGW.out _ E2.out) (HXW.out _ E2.out) WX.out)
  have MO := hid_of (fun wz hz => mono_any u0 u1 u2 res opa sra kda loa hia vna vpa vra na vta pta vka t wz (HGW.out _ hz) (HXW.out _ hz) WX.out)
  have CO := hid_of (fun m wz hz => contains_any t opa sra kda loa hia vna vpa vra na vta pta vka m wz (HXW.out wz hz))
  by_cases h0 : res = 0
  · have HV : Hid (blmF res t = -1) := hid_of (by unfold blmF; rw [if_pos h0])
    rw [HV.out] at BL
    subst h0
    clear MO CO HV
    go_wp2_with (go_at_call 14; ((with_reducible refine (BL.out).mono ?_); (rintro e w3 ⟨rfl, h3⟩); (have E3 := hid_of (bel_chain E2.out h3)); (obtain ⟨q0, q1, q2, q3, q4, q5, q6, q7, q8, q9, q10, q11, q12, q13, q14, q15⟩ := cs16n (HRW.out w3 (bel_chain E2.out h3))); clear h3))
    go_ret
    exact ⟨rfl, HBW.out.trans (E3.out.mono HBW.out.size)⟩
  have e0 := ne_f h0
  have HMF : Hid (monF res t = accB (vary t)) := hid_of (by unfold monF; rw [decide_eq_true h0, Bool.true_and])
  have HBF : Hid (blmF res t = if accB (vary t) then -1 else blameF t 1) := hid_of (by unfold blmF; rw [if_neg h0])
  rw [HMF.out] at MO
  rw [HBF.out] at BL
  obtain ⟨ac, hac⟩ : ∃ ac, ac = accB (vary t) := ⟨_, rfl⟩
  rw [← hac] at MO BL
  clear hac HMF HBF h0
  cases ac
  · rw [if_neg (by decide)] at BL
    have HHB : Hid (Has t (blameF t 1)) := hid_of (has_blame t 1)
    obtain ⟨bb, hbb⟩ : ∃ bb, bb = blameF t 1 := ⟨_, rfl⟩
    rw [← hbb] at BL HHB
    clear hbb
    go_wp2_with (first
      | (go_at_call 14; ((with_reducible refine (BL.out).mono ?_); (rintro e w3 ⟨rfl, h3⟩); (have E3 := hid_of (bel_chain E2.out h3)); (obtain ⟨q0, q1, q2, q3, q4, q5, q6, q7, q8, q9, q10, q11, q12, q13, q14, q15⟩ := cs16n (HRW.out w3 (bel_chain E2.out h3))); clear h3))
      | (go_at_call 15; ((with_reducible refine (MO.out w3 E3.out).mono ?_); (rintro e w4 ⟨rfl, h4⟩); (have E4 := hid_of (bel_chain E3.out h4)); (obtain ⟨r0, r1, r2, r3, r4, r5, r6, r7, r8, r9, r10, r11, r12, r13, r14, r15⟩ := cs16n (HRW.out w4 (bel_chain E3.out h4))); clear h4))
      | (go_at_call 16; ((with_reducible refine (CO.out bb w4 E4.out).mono ?_); (rintro e w5 ⟨cb, rfl, hcb, h5⟩); (have E5 := hid_of (bel_chain E4.out h5)); (obtain rfl : cb = true := hcb.2 HHB.out); clear h5 hcb)))
    go_ret
    exact ⟨rfl, HBW.out.trans (E5.out.mono HBW.out.size)⟩
  · rw [if_pos rfl] at BL
    go_wp2_with (first
      | (go_at_call 14; ((with_reducible refine (BL.out).mono ?_); (rintro e w3 ⟨rfl, h3⟩); (have E3 := hid_of (bel_chain E2.out h3)); (obtain ⟨q0, q1, q2, q3, q4, q5, q6, q7, q8, q9, q10, q11, q12, q13, q14, q15⟩ := cs16n (HRW.out w3 (bel_chain E2.out h3))); clear h3))
      | (go_at_call 15; ((with_reducible refine (MO.out w3 E3.out).mono ?_); (rintro e w4 ⟨rfl, h4⟩); (have E4 := hid_of (bel_chain E3.out h4)); clear h4)))
    go_ret
    exact ⟨rfl, HBW.out.trans (E4.out.mono HBW.out.size)⟩
end Go.Proofs.YtdacalplnggnoaaDoor
