/- The variance of an expression by value; how many nodes an expression has at most; whether a part has an offset. No condition. -/
import Derived.Test.YtdacalplnggnoaaDoorVarJdg
namespace Go.Proofs.YtdacalplnggnoaaDoor
open Go.RowKit

theorem xat_box {w : World} (opa sra kda loa hia : Int) (vna vpa vra : Value) (na : Int) (vta : Value) (pta : Int) (vka : Value) {t : Ex} (H : ED w ⟨opa, sra, kda, loa, hia, vna, vpa, vra, na, vta, pta, vka⟩ t) : XAt (w.alloc (.cells #[.int .i64 opa, .int .i64 sra, .int .i64 kda, .int .i64 loa, .int .i64 hia, vna, vpa, vra, .int .i64 na, vta, .int .i64 pta, vka] 36)) w.heap.size 0 ⟨opa, sra, kda, loa, hia, vna, vpa, vra, na, vta, pta, vka⟩ t := by
  obtain ⟨c0, c1, c2, c3, c4, c5, c6, c7, c8, c9, c10, c11⟩ := cs12 (heap_alloc_new w (.cells #[.int .i64 opa, .int .i64 sra, .int .i64 kda, .int .i64 loa, .int .i64 hia, vna, vpa, vra, .int .i64 na, vta, .int .i64 pta, vka] 36))
  exact ⟨H.at (bel_alloc w _), by simp, c0, c1, c2, c3, c4, c5, c6, c7, c8, c9, c10, c11⟩
set_option maxRecDepth 100000 in
set_option maxHeartbeats 1600000 in
theorem of_any (opa sra kda loa hia : Int) (vna vpa vra : Value) (na : Int) (vta : Value) (pta : Int) (vka : Value) (t : Ex) (w : World) (HG : Gl w) (H : ED w ⟨opa, sra, kda, loa, hia, vna, vpa, vra, na, vta, pta, vka⟩ t) (hw : Wid t) : Calls Tryd.prog 13 #[.agg #[.int .i64 opa, .int .i64 sra, .int .i64 kda, .int .i64 loa, .int .i64 hia, vna, vpa, vra, .int .i64 na, vta, .int .i64 pta, vka]] w (IntP .i64 (vary t) w) := by
  have HJ := hid_of (judge_any t w.heap.size 0 _ _ _ (HG.at (bel_alloc w (.cells #[.int .i64 opa, .int .i64 sra, .int .i64 kda, .int .i64 loa, .int .i64 hia, vna, vpa, vra, .int .i64 na, vta, .int .i64 pta, vka] 36))) (xat_box opa sra kda loa hia vna vpa vra na vta pta vka H) (Below.refl _ _) hw)
  obtain ⟨r, hr⟩ : ∃ r, r = vary t := ⟨_, rfl⟩
  rw [← hr]
  have HR := hid_of hr
  have HB := hid_of (bel_alloc w (.cells #[.int .i64 opa, .int .i64 sra, .int .i64 kda, .int .i64 loa, .int .i64 hia, vna, vpa, vra, .int .i64 na, vta, .int .i64 pta, vka] 36))
  clear hr H hw HG
  go_enter Tryd.func13, Tryd.ntmps13
  go_wp2_with (go_at_call 18; ((with_reducible refine (HJ.out).mono ?_); (rintro e w2 ⟨xa, xm, xc, rfl, hn, h2⟩); (rw [← HR.out]); (have H2 := hid_of h2); clear h2 hn))
  go_ret
  exact ⟨rfl, bel_chain (bel_chain HB.out H2.out) (bel_alloc _ _)⟩

/-- Where room is not negative every node has at most so many kids. -/
def RomP (t : Ex) (m : Int) (w : World) (e : Ending) (w' : World) : Prop := ∃ r : Int, e = .returned (.int .i64 r) ∧ -1 ≤ r ∧ r ≤ m - 1 ∧ (0 ≤ r → Wid t) ∧ Below w.heap.size w w'
def roomC (t : Ex) : Prop := ∀ (opa sra kda loa hia : Int) (vna vpa vra : Value) (na : Int) (vta : Value) (pta : Int) (vka : Value) (m : Int) (w : World), ED w ⟨opa, sra, kda, loa, hia, vna, vpa, vra, na, vta, pta, vka⟩ t → 0 ≤ m → m ≤ 300 → Calls Tryd.prog 17 #[.agg #[.int .i64 opa, .int .i64 sra, .int .i64 kda, .int .i64 loa, .int .i64 hia, vna, vpa, vra, .int .i64 na, vta, .int .i64 pta, vka], .int .i64 m] w (RomP t m w)
set_option maxRecDepth 100000 in
set_option maxHeartbeats 3200000 in
theorem room_any : ∀ t, roomC t := by
  refine ex_ind ?_
  intro op' sr' kd' np' pk' pl' ph' n' pt' ks' ih opa sra kda loa hia vna vpa vra na vta pta vka m w H hm0 hm
  obtain ⟨t, ht⟩ : ∃ t, t = (Ex.mk op' sr' kd' np' pk' pl' ph' n' pt' ks') := ⟨_, rfl⟩
  rw [← ht] at H ⊢
  obtain rfl : ks' = t.ks := by rw [ht]; rfl
  obtain ⟨ak, nk, ck, e1, HK⟩ := H.kd
  simp only at e1
  subst e1
  obtain ⟨hq, hk2, hk3⟩ := HK.len
  have HNK := hid_of hq
  have hnk : nk ≤ 9223372036854775807 := by omega
  have HKD := hid_of HK
  have CALL := hid_of ih
  have HM := hid_of (show 0 ≤ m ∧ m ≤ 300 from ⟨hm0, hm⟩)
  have HB := hid_of (bel_alloc w (.cells #[.int .i64 opa, .int .i64 sra, .int .i64 kda, .int .i64 loa, .int .i64 hia, vna, vpa, vra, .int .i64 na, vta, .int .i64 pta, .slice ak nk ck] 36))
  have HCC : Hid (∀ w2, Below (w.alloc (.cells #[.int .i64 opa, .int .i64 sra, .int .i64 kda, .int .i64 loa, .int .i64 hia, vna, vpa, vra, .int .i64 na, vta, .int .i64 pta, .slice ak nk ck] 36)).heap.size (w.alloc (.cells #[.int .i64 opa, .int .i64 sra, .int .i64 kda, .int .i64 loa, .int .i64 hia, vna, vpa, vra, .int .i64 na, vta, .int .i64 pta, .slice ak nk ck] 36)) w2 → w2.cell? ⟨w.heap.size, 11, none⟩ = some (.slice ak nk ck)) := hid_of (fun w2 h2 => (cs12 (row_at h2)).2.2.2.2.2.2.2.2.2.2.2)
  clear H HK ih hq hk2 hk3 ht
  go_enter Tryd.func17, Tryd.ntmps17
  go_wp2
  go_loopw [1, 5] (fun mv iv wr => ∃ (i : Nat) (r : Int), iv = .int .i64 i ∧ i ≤ nk ∧ mv = .int .i64 r ∧ (-1 ≤ r ∧ r ≤ 299) ∧ Hid (r + i ≤ m - 1) ∧ Hid (0 ≤ r → ∀ j u, j < i → t.ks[j]? = some u → Wid u) ∧ Hid (Below (w.alloc (.cells #[.int .i64 opa, .int .i64 sra, .int .i64 kda, .int .i64 loa, .int .i64 hia, vna, vpa, vra, .int .i64 na, vta, .int .i64 pta, .slice ak nk ck] 36)).heap.size (w.alloc (.cells #[.int .i64 opa, .int .i64 sra, .int .i64 kda, .int .i64 loa, .int .i64 hia, vna, vpa, vra, .int .i64 na, vta, .int .i64 pta, .slice ak nk ck] 36)) wr)) (fun _ iv _ => nk - (intOf iv).toNat)
  case atStart => exact ⟨0, m - 1, rfl, Nat.zero_le _, by go_num, by omega, hid_of (by omega), hid_of (fun _ j u hj => by omega), hid_of (Below.refl _ _)⟩
  case round =>
    obtain ⟨i, r, rfl, hi, rfl, hr2, HS, HW, hb⟩ := hrel
    have cK := HCC.out _ hb.out
    by_cases hlt : i < nk
    · have d1 : decide (i < nk) = true := decide_eq_true hlt
      have hlt' : (i : Int) < (nk : Int) := by omega
      have HLT := hid_of hlt
      by_cases h0 : 0 ≤ r
      · have d2 : decide (r ≥ 0) = true := decide_eq_true h0
        obtain ⟨u, hu⟩ : ∃ u, t.ks[i]? = some u := ⟨_, List.getElem?_eq_getElem (by have := HNK.out; omega)⟩
        obtain ⟨gk, qk, y, rfl, HY⟩ := HKD.out.get hu
        obtain ⟨k0, k1, k2, k3, k4, k5, k6, k6n, k6c, k7, k8, k9, k10, k11, k11n, k11c, rfl, -, -, -, -, -, -, -, -, -, -, -, -, -, -, -, d00, d01, d02, d03, d04, d05, d06, d07, d08, d09, d10, d11⟩ := (HY.at (HB.out.trans (hb.out.mono HB.out.size))).open
        have CI := hid_of (CALL.out u (List.mem_of_getElem? hu) _ _ _ _ _ _ _ _ _ _ _ _ r wr (HY.at (HB.out.trans (hb.out.mono HB.out.size))).1 h0 (by omega))
        have HU := hid_of hu
        have HR2 := hid_of hr2
        clear hlt hu HY h0
        go_wp2_with (go_at_call 17; ((with_reducible refine (CI.out).mono ?_); (rintro e w2 ⟨r2, rfl, hr3, hr4, hw3, h2⟩); (have H2 := hid_of h2); (have HR3 := hid_of hr3); (have HR4 := hid_of hr4); (have HW3 := hid_of hw3); clear h2 hr3 hr4 hw3))
        go_roundw
        case rel =>
          have a1 := HR3.out
          have a2 := HR4.out
          have a3 := HR2.out
          have a4 := HS.out
          exact ⟨i + 1, r2, by go_num, HLT.out, rfl, by omega, hid_of (by omega), hid_of (fun h0 j v hj hv => by
            by_cases e : j = i
            · subst e
              have e2 := HU.out
              rw [e2] at hv
              cases hv
              exact HW3.out h0
            · exact HW.out (by omega) j v (by omega) hv), hid_of (hb.out.trans (H2.out.mono hb.out.size))⟩
        case measure => have := HLT.out; simp [intOf]; omega
      · have d2 : decide (r ≥ 0) = false := decide_eq_false h0
        have HN0 := hid_of h0
        clear h0
        go_wp2
        go_ret
        have a4 := HS.out
        exact ⟨r, rfl, by omega, by omega, fun h => absurd h (by have := HN0.out; omega), HB.out.trans (hb.out.mono HB.out.size)⟩
    · have d1 : decide (i < nk) = false := decide_eq_false hlt
      have HI : Hid (i = nk) := hid_of (by omega)
      go_wp2
      go_ret
      have a4 := HS.out
      have a5 := HI.out
      have a6 := HM.out
      exact ⟨r, rfl, by omega, by omega, fun h0 => .mk (by rw [← HNK.out]; omega) (fun k hk => by
        obtain ⟨j, hj⟩ := List.getElem?_of_mem hk
        exact HW.out h0 j k (by rw [a5, HNK.out]; exact (List.getElem?_eq_some_iff.1 hj).1) hj), HB.out.trans (hb.out.mono HB.out.size)⟩
def SmlP (t : Ex) (w : World) (e : Ending) (w' : World) : Prop := ∃ b : Bool, e = .returned (.bool b) ∧ (b = true → Wid t) ∧ Below w.heap.size w w'
set_option maxRecDepth 100000 in
set_option maxHeartbeats 1600000 in
theorem small_any (opa sra kda loa hia : Int) (vna vpa vra : Value) (na : Int) (vta : Value) (pta : Int) (vka : Value) (t : Ex) (m : Int) (w : World) (H : ED w ⟨opa, sra, kda, loa, hia, vna, vpa, vra, na, vta, pta, vka⟩ t) (h0 : 0 ≤ m) (h3 : m ≤ 300) : Calls Tryd.prog 12 #[.agg #[.int .i64 opa, .int .i64 sra, .int .i64 kda, .int .i64 loa, .int .i64 hia, vna, vpa, vra, .int .i64 na, vta, .int .i64 pta, vka], .int .i64 m] w (SmlP t w) := by
  have HB := hid_of (bel_alloc w (.cells #[.int .i64 opa, .int .i64 sra, .int .i64 kda, .int .i64 loa, .int .i64 hia, vna, vpa, vra, .int .i64 na, vta, .int .i64 pta, vka] 36))
  have CI := hid_of (room_any t opa sra kda loa hia vna vpa vra na vta pta vka m _ (H.at (bel_alloc w (.cells #[.int .i64 opa, .int .i64 sra, .int .i64 kda, .int .i64 loa, .int .i64 hia, vna, vpa, vra, .int .i64 na, vta, .int .i64 pta, vka] 36))) h0 h3)
  clear H h0 h3
  go_enter Tryd.func12, Tryd.ntmps12
  go_wp2_with (go_at_call 17; ((with_reducible refine (CI.out).mono ?_); (rintro e w2 ⟨r2, rfl, hr3, hr4, hw3, h2⟩); (have H2 := hid_of h2); (have HW3 := hid_of hw3); clear h2 hr3 hr4 hw3))
  go_ret
  exact ⟨decide (r2 ≥ 0), rfl, fun h => HW3.out (by simpa using h), bel_chain HB.out H2.out⟩
end Go.Proofs.YtdacalplnggnoaaDoor
