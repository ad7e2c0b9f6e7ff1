/- The reference's Depth. Bounds on sizes alone. -/
import Derived.Test.YtilokloemcphbaaLatRck
namespace Go.Proofs.Ytilokloemcphbaa
open Go.RowKit

set_option maxRecDepth 100000 in
set_option maxHeartbeats 3200000 in
theorem rdepth_any : ∀ (t : Lat) (k lo hi : Int) (an : Option Addr) (nn cn : Nat) (ap : Option Addr) (np cp : Nat) (ar : Option Addr) (nr cr : Nat) (w : World), LO w k lo hi an nn cn ap np cp ar nr cr t → depthL t ≤ 1000 → Calls Try.prog 23 #[.agg #[.int .i64 k, .int .i64 lo, .int .i64 hi, .slice an nn cn, .slice ap np cp, .slice ar nr cr]] w (DepP t w) := by
  refine lat_ind ?_
  intro k' lo' hi' ns' ps' rs' ih k lo hi an nn cn ap np cp ar nr cr w H hD
  rw [depthL_eq] at hD
  have hl := H.p.len
  have HN : Hid (np = ps'.length) := hid_of hl.1
  have hn : np ≤ 9223372036854775807 := by omega
  have HP := hid_of H.p
  have HD := hid_of hD
  have IH := hid_of ih
  simp only [Lat.ps] at HP HD
  have HE : Hid (depthL ⟨k', lo', hi', ns', ps', rs'⟩ = depthsL ps' + 1) := hid_of (depthL_eq _)
  generalize (Lat.mk k' lo' hi' ns' ps' rs') = T at HE
  clear hl H hD ih
  have HBW := hid_of (bel_alloc w (.cells #[.int .i64 k, .int .i64 lo, .int .i64 hi, .slice an nn cn, .slice ap np cp, .slice ar nr cr] 26))
  have HX : Hid (∀ wz, Below (w.alloc (.cells #[.int .i64 k, .int .i64 lo, .int .i64 hi, .slice an nn cn, .slice ap np cp, .slice ar nr cr] 26)).heap.size (w.alloc (.cells #[.int .i64 k, .int .i64 lo, .int .i64 hi, .slice an nn cn, .slice ap np cp, .slice ar nr cr] 26)) wz → _) := hid_of (fun wz hz => box6 k lo hi an nn cn ap np cp ar nr cr hz)
  obtain ⟨WW, hWW⟩ : ∃ WW, WW = (w.alloc (.cells #[.int .i64 k, .int .i64 lo, .int .i64 hi, .slice an nn cn, .slice ap np cp, .slice ar nr cr] 26)) := ⟨_, rfl⟩
  have K0 : Hid (Below WW.heap.size WW (w.alloc (.cells #[.int .i64 k, .int .i64 lo, .int .i64 hi, .slice an nn cn, .slice ap np cp, .slice ar nr cr] 26))) := hid_of (by rw [← hWW]; exact Below.refl _ _)
  rw [← hWW] at HX HBW
  clear hWW
  go_enter Try.func23, Try.ntmps23
  go_wp2
  go_loopw [3, 4] (fun mv iv wr => ∃ i m : Nat, iv = .int .i64 i ∧ i ≤ np ∧ mv = .int .i64 m ∧ Hid (m = depthsL (ps'.take i)) ∧ Hid (Below WW.heap.size WW wr)) (fun _ iv _ => np - (intOf iv).toNat)
  case atStart => exact ⟨0, 0, rfl, Nat.zero_le _, rfl, hid_of rfl, K0⟩
  case round =>
    obtain ⟨i, m, rfl, hin, rfl, HM, hbb⟩ := hrel
    obtain ⟨p0, p1, p2, p3, p4, p5⟩ := HX.out wr hbb.out
    have hb : Hid (Below w.heap.size w wr) := hid_of (HBW.out.trans (hbb.out.mono HBW.out.size))
    by_cases hlt : i < np
    · have d1 : decide (i < np) = true := decide_eq_true hlt
      have hlt' : (i : Int) < (np : Int) := by omega
      have HLT := hid_of hlt
      obtain ⟨u, hu⟩ : ∃ u, ps'[i]? = some u := ⟨_, List.getElem?_eq_getElem (by have := HN.out; omega)⟩
      obtain ⟨g, o, kA, loA, hiA, anA, nnA, cnA, apA, npA, cpA, arA, nrA, crA, rfl, LU, hc⟩ := HP.out.get hu
      obtain ⟨c0, c1, c2, c3, c4, c5⟩ := hc wr hb.out
      have hdu := depthsL_get _ _ _ hu
      obtain ⟨q, hq⟩ : ∃ q, q = depthL u := ⟨_, rfl⟩
      have hm : m ≤ 1000 := by
        rw [HM.out]
        have := depthsL_take ps' i
        have := HD.out
        omega
      have hqm : q ≤ 1000 := by have := HD.out; omega
      have CALL := hid_of (IH.out u (List.mem_of_getElem? hu) kA loA hiA anA nnA cnA apA npA cpA arA nrA crA)
      have HS : Hid (depthsL (ps'.take (i + 1)) = max m q) := hid_of (by rw [take_next hu, depthsL_snoc, HM.out, hq])
      have HQ := hid_of hq
      have LV := hid_of LU
      clear hlt hc hu hdu hq LU
      go_wp2_with (go_at_call 23; ((with_reducible refine (CALL.out _ (LV.out.at hb.out) (Nat.le_trans (Nat.le_of_eq HQ.out.symm) hqm)).mono ?_); (rintro e w2 ⟨rfl, h2⟩)); (rw [← HQ.out]); (have H2 := hid_of h2); clear h2)
      go_roundw
      case rel => exact ⟨i + 1, max m q, by go_num, HLT.out, by go_num, hid_of HS.out.symm, hid_of (hbb.out.trans (H2.out.mono hbb.out.size))⟩
      case measure => have := HLT.out; simp [intOf]; omega
    · have d1 : decide (i < np) = false := decide_eq_false hlt
      have HI : Hid (i = np) := hid_of (by omega)
      have hm : m ≤ 1000 := by
        rw [HM.out]
        have := depthsL_take ps' i
        have := HD.out
        omega
      go_wp2
      go_ret
      refine ⟨?_, hb.out⟩
      rw [HE.out]
      have h1 := HM.out
      rw [HI.out, HN.out, List.take_length] at h1
      rw [h1]
      go_num
end Go.Proofs.Ytilokloemcphbaa
