/- Texts in one: LatREq, LatOpn, LatLwE. -/
import Derived.Test.YtgbadiajdhehpaaMgEC
import Derived.SliceStrings
import Derived.Deep.Strs
import Derived.ProofKit
import Derived.SizedLaws
import Derived.Test.YtgbadiajdhehpaaRows
set_option linter.unusedVariables false
set_option linter.unusedSimpArgs false
/- The reference: Equal. Bounds on sizes alone. -/
namespace Go.Proofs.Ytgbadiajdhehpaa
open Go.RowKit

set_option maxRecDepth 100000 in
set_option maxHeartbeats 3200000 in
theorem rnames_q (l m : List Str) (ao bo : Option Addr) (n n2 cap cap2 : Nat) (w : World) (R1 : Rd w (.slice ao n cap) (ss l)) (R2 : Rd w (.slice bo n2 cap2) (ss m)) :
    Calls Try.prog 33 #[.slice ao n cap, .slice bo n2 cap2] w (fun e w' => e = .returned (.bool (decide (l = m))) ∧ ∃ m, w' = w.drewN m) := by
  obtain ⟨hn, _, hcap, h3⟩ := rds_open R1
  obtain ⟨hn2, _, hcap2, k3⟩ := rds_open R2
  obtain ⟨r, hr⟩ : ∃ r, r = decide (l = m) := ⟨_, rfl⟩
  rw [← hr]
  have HR := hid_of hr
  clear hr R1 R2
  by_cases hnn : n = n2
  case neg =>
    have RF : Hid (false = r) := hid_of (by rw [HR.out]; exact (decide_eq_false (fun h => hnn (by rw [hn, hn2, h]))).symm)
    have e1 : (n == n2) = false := beq_eq_false_iff_ne.2 hnn
    have e2 : ((n : Int) == (n2 : Int)) = false := beq_eq_false_iff_ne.2 (by omega)
    have e3 : ((n : Int) != (n2 : Int)) = true := bne_iff_ne.2 (by omega)
    clear hnn hn hn2 h3 k3
    go_enter Try.func33, Try.ntmps33
    go_wp2
    go_ret
    exact ⟨ret_b RF.out, 0, rfl⟩
  subst hnn
  have HN := hid_of hn
  have HN2 := hid_of hn2
  have H3 := hid_of h3
  have K3 := hid_of k3
  clear hn hn2 h3 k3
  go_enter Try.func33, Try.ntmps33
  go_wp2
  go_loopw [5] (fun iv wr => ∃ i : Nat, iv = .int .i64 i ∧ i ≤ n ∧ Hid (∀ j, j < i → l[j]? = m[j]?) ∧ Hid (∃ m, wr = w.drewN m)) (fun iv _ => n - (intOf iv).toNat)
  case atStart => exact ⟨0, rfl, Nat.zero_le _, hid_of (fun j h => absurd h (Nat.not_lt_zero j)), hid_of ⟨0, rfl⟩⟩
  case round =>
    obtain ⟨i, rfl, hi, HM, hb⟩ := hrel
    by_cases hlt : i < n
    · have d1 : decide (i < n) = true := decide_eq_true hlt
      have hlt' : (i : Int) < (n : Int) := by omega
      have HLT := hid_of hlt
      have hl : i < l.length := by have := HN.out; omega
      have hm : i < m.length := by have := HN2.out; omega
      rcases H3.out with h3 | ⟨g, o, rfl, hg, hc⟩
      · exfalso; rw [h3] at hl; simp at hl
      rcases K3.out with k3 | ⟨g2, o2, rfl, hg2, hc2⟩
      · exfalso; rw [k3] at hm; simp at hm
      have hbb : Below w.heap.size w wr := by obtain ⟨md, hmd⟩ := hb.out; rw [hmd]; exact bel_drewN (Below.refl _ _) md
      have c1 := (hbb.cell (p := ⟨g, o + i, none⟩) hg).trans (hc i _ (List.getElem?_eq_getElem hl))
      have c2 := (hbb.cell (p := ⟨g2, o2 + i, none⟩) hg2).trans (hc2 i _ (List.getElem?_eq_getElem hm))
      obtain ⟨bx, hx⟩ : ∃ bx, bx = ba l[i] := ⟨_, rfl⟩
      obtain ⟨by', hy⟩ : ∃ by', by' = ba m[i] := ⟨_, rfl⟩
      rw [← hx] at c1
      rw [← hy] at c2
      by_cases he : l[i] = m[i]
      · have et := eq_t hx hy he
        have HE : Hid (∀ j, j < i + 1 → l[j]? = m[j]?) := hid_of (fun j hj => by
          by_cases e : j = i
          · subst e; rw [List.getElem?_eq_getElem hl, List.getElem?_eq_getElem hm, he]
          · exact HM.out j (by omega))
        clear hbb hlt hc hc2 hx hy he hl hm H3 K3 hg hg2 HM
        go_wp2
        go_quiet (fail)
        go_wp2
        go_roundw
        case rel => exact ⟨i + 1, by go_num, HLT.out, HE, hid_of (by obtain ⟨md, hmd⟩ := hb.out; exact ⟨md + nq, by rw [hmd, World.drewN_drewN]⟩)⟩
        case measure => have := HLT.out; simp [intOf]; omega
      · have et := eq_f hx hy he
        have RF : Hid (false = r) := hid_of (by
          rw [HR.out]
          refine (decide_eq_false fun h => he ?_).symm
          subst h; rfl)
        clear hbb hlt hc hc2 hx hy he hl hm H3 K3 hg hg2 HM
        go_wp2
        go_quiet (fail)
        go_wp2
        go_ret
        exact ⟨ret_b RF.out, by obtain ⟨md, hmd⟩ := hb.out; exact ⟨md + nq, by rw [hmd, World.drewN_drewN]⟩⟩
    · have d1 : decide (i < n) = false := decide_eq_false hlt
      have RT : Hid (true = r) := hid_of (by
        rw [HR.out]
        refine (decide_eq_true ?_).symm
        refine List.ext_getElem? fun j => ?_
        by_cases hj : j < n
        · exact HM.out j (by omega)
        · rw [List.getElem?_eq_none (by have := HN.out; omega), List.getElem?_eq_none (by have := HN2.out; omega)])
      go_wp2
      go_ret
      exact ⟨ret_b RT.out, hb.out⟩

theorem two_box {w w' : World} (kA loA hiA : Int) (anA : Option Addr) (nnA cnA : Nat) (apA : Option Addr) (npA cpA : Nat) (arA : Option Addr) (nrA crA : Nat) (kB loB hiB : Int) (anB : Option Addr) (nnB cnB : Nat) (apB : Option Addr) (npB cpB : Nat) (arB : Option Addr) (nrB crB : Nat) (h : Below ((w.alloc (.cells #[.int .i64 kA, .int .i64 loA, .int .i64 hiA, .slice anA nnA cnA, .slice apA npA cpA, .slice arA nrA crA] 26)).alloc (.cells #[.int .i64 kB, .int .i64 loB, .int .i64 hiB, .slice anB nnB cnB, .slice apB npB cpB, .slice arB nrB crB] 26)).heap.size ((w.alloc (.cells #[.int .i64 kA, .int .i64 loA, .int .i64 hiA, .slice anA nnA cnA, .slice apA npA cpA, .slice arA nrA crA] 26)).alloc (.cells #[.int .i64 kB, .int .i64 loB, .int .i64 hiB, .slice anB nnB cnB, .slice apB npB cpB, .slice arB nrB crB] 26)) w') : w'.cell? ⟨w.heap.size, 0, none⟩ = some (.int .i64 kA) ∧ w'.cell? ⟨w.heap.size, 1, none⟩ = some (.int .i64 loA) ∧ w'.cell? ⟨w.heap.size, 2, none⟩ = some (.int .i64 hiA) ∧ w'.cell? ⟨w.heap.size, 3, none⟩ = some (.slice anA nnA cnA) ∧ w'.cell? ⟨w.heap.size, 4, none⟩ = some (.slice apA npA cpA) ∧ w'.cell? ⟨w.heap.size, 5, none⟩ = some (.slice arA nrA crA) ∧
    w'.cell? ⟨w.heap.size + 1, 0, none⟩ = some (.int .i64 kB) ∧ w'.cell? ⟨w.heap.size + 1, 1, none⟩ = some (.int .i64 loB) ∧ w'.cell? ⟨w.heap.size + 1, 2, none⟩ = some (.int .i64 hiB) ∧ w'.cell? ⟨w.heap.size + 1, 3, none⟩ = some (.slice anB nnB cnB) ∧ w'.cell? ⟨w.heap.size + 1, 4, none⟩ = some (.slice apB npB cpB) ∧ w'.cell? ⟨w.heap.size + 1, 5, none⟩ = some (.slice arB nrB crB) := by
  obtain ⟨b1, b2⟩ := two_new w (.cells #[.int .i64 kA, .int .i64 loA, .int .i64 hiA, .slice anA nnA cnA, .slice apA npA cpA, .slice arA nrA crA] 26) (.cells #[.int .i64 kB, .int .i64 loB, .int .i64 hiB, .slice anB nnB cnB, .slice apB npB cpB, .slice arB nrB crB] 26)
  exact ⟨blk_kept (cs := [.int .i64 kA, .int .i64 loA, .int .i64 hiA, .slice anA nnA cnA, .slice apA npA cpA, .slice arA nrA crA]) b1 h rfl, blk_kept (cs := [.int .i64 kA, .int .i64 loA, .int .i64 hiA, .slice anA nnA cnA, .slice apA npA cpA, .slice arA nrA crA]) b1 h rfl, blk_kept (cs := [.int .i64 kA, .int .i64 loA, .int .i64 hiA, .slice anA nnA cnA, .slice apA npA cpA, .slice arA nrA crA]) b1 h rfl, blk_kept (cs := [.int .i64 kA, .int .i64 loA, .int .i64 hiA, .slice anA nnA cnA, .slice apA npA cpA, .slice arA nrA crA]) b1 h rfl, blk_kept (cs := [.int .i64 kA, .int .i64 loA, .int .i64 hiA, .slice anA nnA cnA, .slice apA npA cpA, .slice arA nrA crA]) b1 h rfl, blk_kept (cs := [.int .i64 kA, .int .i64 loA, .int .i64 hiA, .slice anA nnA cnA, .slice apA npA cpA, .slice arA nrA crA]) b1 h rfl, blk_kept (cs := [.int .i64 kB, .int .i64 loB, .int .i64 hiB, .slice anB nnB cnB, .slice apB npB cpB, .slice arB nrB crB]) b2 h rfl, blk_kept (cs := [.int .i64 kB, .int .i64 loB, .int .i64 hiB, .slice anB nnB cnB, .slice apB npB cpB, .slice arB nrB crB]) b2 h rfl, blk_kept (cs := [.int .i64 kB, .int .i64 loB, .int .i64 hiB, .slice anB nnB cnB, .slice apB npB cpB, .slice arB nrB crB]) b2 h rfl, blk_kept (cs := [.int .i64 kB, .int .i64 loB, .int .i64 hiB, .slice anB nnB cnB, .slice apB npB cpB, .slice arB nrB crB]) b2 h rfl, blk_kept (cs := [.int .i64 kB, .int .i64 loB, .int .i64 hiB, .slice anB nnB cnB, .slice apB npB cpB, .slice arB nrB crB]) b2 h rfl, blk_kept (cs := [.int .i64 kB, .int .i64 loB, .int .i64 hiB, .slice anB nnB cnB, .slice apB npB cpB, .slice arB nrB crB]) b2 h rfl⟩
theorem ext_to {α : Type} {l m : List α} {n : Nat} (h1 : n = l.length) (h2 : n = m.length) (h : ∀ j, j < n → l[j]? = m[j]?) : l = m := by
  refine List.ext_getElem? fun j => ?_
  by_cases hj : j < n
  · exact h j hj
  · rw [List.getElem?_eq_none (by omega), List.getElem?_eq_none (by omega)]
set_option maxRecDepth 100000 in
set_option maxHeartbeats 6400000 in
theorem requal_any : ∀ (t u : Lat) (kA loA hiA : Int) (anA : Option Addr) (nnA cnA : Nat) (apA : Option Addr) (npA cpA : Nat) (arA : Option Addr) (nrA crA : Nat) (kB loB hiB : Int) (anB : Option Addr) (nnB cnB : Nat) (apB : Option Addr) (npB cpB : Nat) (arB : Option Addr) (nrB crB : Nat) (w : World), LO w kA loA hiA anA nnA cnA apA npA cpA arA nrA crA t → LO w kB loB hiB anB nnB cnB apB npB cpB arB nrB crB u → Calls Try.prog 13 #[.agg #[.int .i64 kA, .int .i64 loA, .int .i64 hiA, .slice anA nnA cnA, .slice apA npA cpA, .slice arA nrA crA], .agg #[.int .i64 kB, .int .i64 loB, .int .i64 hiB, .slice anB nnB cnB, .slice apB npB cpB, .slice arB nrB crB]] w (BoP (decide (t = u)) w) := by
  refine lat_ind ?_
  intro k' lo' hi' ns' ps' rs' ih u kA loA hiA anA nnA cnA apA npA cpA arA nrA crA kB loB hiB anB nnB cnB apB npB cpB arB nrB crB w H1 H2
  obtain rfl : kA = k' := H1.hk
  obtain rfl : loA = lo' := H1.hlo
  obtain rfl : hiA = hi' := H1.hhi
  obtain ⟨r, hr⟩ : ∃ r, r = decide (Lat.mk kA loA hiA ns' ps' rs' = u) := ⟨_, rfl⟩
  have hr0 := hr
  rw [lat_eq, ← H2.hk, ← H2.hlo, ← H2.hhi] at hr
  rw [← hr0]
  have HR := hid_of hr
  have HBB := hid_of (((Below.refl w.heap.size w).alloc (Nat.le_refl _) (.cells #[.int .i64 kA, .int .i64 loA, .int .i64 hiA, .slice anA nnA cnA, .slice apA npA cpA, .slice arA nrA crA] 26)).alloc (by simp) (.cells #[.int .i64 kB, .int .i64 loB, .int .i64 hiB, .slice anB nnB cnB, .slice apB npB cpB, .slice arB nrB crB] 26))
  have HC := hid_of (fun (w' : World) (h : Below ((w.alloc (.cells #[.int .i64 kA, .int .i64 loA, .int .i64 hiA, .slice anA nnA cnA, .slice apA npA cpA, .slice arA nrA crA] 26)).alloc (.cells #[.int .i64 kB, .int .i64 loB, .int .i64 hiB, .slice anB nnB cnB, .slice apB npB cpB, .slice arB nrB crB] 26)).heap.size ((w.alloc (.cells #[.int .i64 kA, .int .i64 loA, .int .i64 hiA, .slice anA nnA cnA, .slice apA npA cpA, .slice arA nrA crA] 26)).alloc (.cells #[.int .i64 kB, .int .i64 loB, .int .i64 hiB, .slice anB nnB cnB, .slice apB npB cpB, .slice arB nrB crB] 26)) w') => two_box kA loA hiA anA nnA cnA apA npA cpA arA nrA crA kB loB hiB anB nnB cnB apB npB cpB arB nrB crB h)
  have CN := hid_of (fun (wz : World) (hz : Below w.heap.size w wz) => rnames_any ns' u.ns anA anB nnA nnB cnA cnB wz (H1.n.at hz) (H2.n.at hz))
  have L1p := H1.p.len
  have L2p := H2.p.len
  have L1r := H1.r.len
  have L2r := H2.r.len
  have hpA : npA ≤ 9223372036854775807 := by omega
  have hpB : npB ≤ 9223372036854775807 := by omega
  have hrA : nrA ≤ 9223372036854775807 := by omega
  have hrB : nrB ≤ 9223372036854775807 := by omega
  have X1 := hid_of H1
  have X2 := hid_of H2
  have IH := hid_of ih
  obtain ⟨qn, hqn⟩ : ∃ q, q = decide (ns' = u.ns) := ⟨_, rfl⟩
  rw [← hqn] at CN
  have HQN := hid_of hqn
  have HL : Hid (npA = ps'.length ∧ npB = u.ps.length ∧ nrA = rs'.length ∧ nrB = u.rs.length) := hid_of ⟨L1p.1, L2p.1, L1r.1, L2r.1⟩
  clear hr hr0 H1 H2 ih hqn L1p L2p L1r L2r
  by_cases hk : kA = kB
  case neg =>
    have RF : Hid (false = r) := hid_of (by rw [HR.out, decide_eq_false hk]; rfl)
    have e1 : (kA == kB) = false := beq_eq_false_iff_ne.2 hk
    have e1' : (kA != kB) = true := bne_iff_ne.2 hk
    clear hk
    go_enter Try.func13, Try.ntmps13
    go_wp2
    go_ret
    exact ⟨ret_b RF.out, HBB.out⟩
  by_cases hlo : loA = loB
  case neg =>
    have RF : Hid (false = r) := hid_of (by rw [HR.out, decide_eq_false hlo]; simp)
    have e1 : (kA == kB) = true := beq_iff_eq.2 hk
    have e1' : (kA != kB) = false := by simp [hk]
    have e2 : (loA == loB) = false := beq_eq_false_iff_ne.2 hlo
    have e2' : (loA != loB) = true := bne_iff_ne.2 hlo
    clear hk hlo
    go_enter Try.func13, Try.ntmps13
    go_wp2
    go_ret
    exact ⟨ret_b RF.out, HBB.out⟩
  by_cases hhi : hiA = hiB
  case neg =>
    have RF : Hid (false = r) := hid_of (by rw [HR.out, decide_eq_false hhi]; simp)
    have e1 : (kA == kB) = true := beq_iff_eq.2 hk
    have e1' : (kA != kB) = false := by simp [hk]
    have e2 : (loA == loB) = true := beq_iff_eq.2 hlo
    have e2' : (loA != loB) = false := by simp [hlo]
    have e3 : (hiA == hiB) = false := beq_eq_false_iff_ne.2 hhi
    have e3' : (hiA != hiB) = true := bne_iff_ne.2 hhi
    clear hk hlo hhi
    go_enter Try.func13, Try.ntmps13
    go_wp2
    go_ret
    exact ⟨ret_b RF.out, HBB.out⟩
  have e1 : (kA == kB) = true := beq_iff_eq.2 hk
  have e1' : (kA != kB) = false := by simp [hk]
  have e2 : (loA == loB) = true := beq_iff_eq.2 hlo
  have e2' : (loA != loB) = false := by simp [hlo]
  have e3 : (hiA == hiB) = true := beq_iff_eq.2 hhi
  have e3' : (hiA != hiB) = false := by simp [hhi]
  have HR2 : Hid (r = (qn && decide (ps' = u.ps) && decide (rs' = u.rs))) := hid_of (by rw [HR.out, decide_eq_true hk, decide_eq_true hlo, decide_eq_true hhi, HQN.out]; rfl)
  clear hk hlo hhi HR
  cases qn
  · have RF : Hid (false = r) := hid_of (by rw [HR2.out]; rfl)
    go_enter Try.func13, Try.ntmps13
    go_wp2_with (go_at_call 33; ((with_reducible refine (CN.out _ HBB.out).mono ?_); (rintro e w2 ⟨rfl, h2⟩)); (have K2 := hid_of h2); (obtain ⟨a0, a1, a2, a3, a4, a5, b0, b1, b2, b3, b4, b5⟩ := HC.out w2 h2); clear h2)
    go_ret
    exact ⟨ret_b RF.out, HBB.out.trans (K2.out.mono HBB.out.size)⟩
  by_cases hp : npA = npB
  case neg =>
    have RF : Hid (false = r) := hid_of (by rw [HR2.out, decide_eq_false (p := ps' = u.ps) (fun h => hp (by rw [HL.out.1, HL.out.2.1, h]))]; rfl)
    have f1 : (npA == npB) = false := beq_eq_false_iff_ne.2 hp
    have f2 : ((npA : Int) == (npB : Int)) = false := beq_eq_false_iff_ne.2 (by omega)
    have f3 : ((npA : Int) != (npB : Int)) = true := bne_iff_ne.2 (by omega)
    clear hp
    go_enter Try.func13, Try.ntmps13
    go_wp2_with (go_at_call 33; ((with_reducible refine (CN.out _ HBB.out).mono ?_); (rintro e w2 ⟨rfl, h2⟩)); (have K2 := hid_of h2); (obtain ⟨a0, a1, a2, a3, a4, a5, b0, b1, b2, b3, b4, b5⟩ := HC.out w2 h2); clear h2)
    go_ret
    exact ⟨ret_b RF.out, HBB.out.trans (K2.out.mono HBB.out.size)⟩
  by_cases hrr : nrA = nrB
  case neg =>
    subst hp
    have RF : Hid (false = r) := hid_of (by rw [HR2.out, decide_eq_false (p := rs' = u.rs) (fun h => hrr (by rw [HL.out.2.2.1, HL.out.2.2.2, h])), Bool.and_false])
    have f1 : (nrA == nrB) = false := beq_eq_false_iff_ne.2 hrr
    have f2 : ((nrA : Int) == (nrB : Int)) = false := beq_eq_false_iff_ne.2 (by omega)
    have f3 : ((nrA : Int) != (nrB : Int)) = true := bne_iff_ne.2 (by omega)
    clear hrr
    go_enter Try.func13, Try.ntmps13
    go_wp2_with (go_at_call 33; ((with_reducible refine (CN.out _ HBB.out).mono ?_); (rintro e w2 ⟨rfl, h2⟩)); (have K2 := hid_of h2); (obtain ⟨a0, a1, a2, a3, a4, a5, b0, b1, b2, b3, b4, b5⟩ := HC.out w2 h2); clear h2)
    go_ret
    exact ⟨ret_b RF.out, HBB.out.trans (K2.out.mono HBB.out.size)⟩
  subst hp hrr
  go_enter Try.func13, Try.ntmps13
  go_wp2_with (go_at_call 33; ((with_reducible refine (CN.out _ HBB.out).mono ?_); (rintro e w2 ⟨rfl, h2⟩)); (have K2 := hid_of h2); (obtain ⟨a0, a1, a2, a3, a4, a5, b0, b1, b2, b3, b4, b5⟩ := HC.out w2 h2); clear h2)
  obtain ⟨WW, hWW⟩ : ∃ WW, WW = ((w.alloc (.cells #[.int .i64 kA, .int .i64 loA, .int .i64 hiA, .slice anA nnA cnA, .slice apA npA cpA, .slice arA nrA crA] 26)).alloc (.cells #[.int .i64 kB, .int .i64 loB, .int .i64 hiB, .slice anB nnB cnB, .slice apB npA cpB, .slice arB nrA crB] 26)) := ⟨_, rfl⟩
  rw [← hWW] at K2 HC HBB
  clear hWW
  clear a0 a1 a2 a3 a4 a5 b0 b1 b2 b3 b4 b5
  go_loopw [5] (fun iv wr => ∃ i : Nat, iv = .int .i64 i ∧ i ≤ nrA ∧ Hid (∀ j, j < i → rs'[j]? = u.rs[j]?) ∧ Hid (Below WW.heap.size WW wr)) (fun iv _ => nrA - (intOf iv).toNat)
  case atStart => exact ⟨0, rfl, Nat.zero_le _, hid_of (fun j h => absurd h (Nat.not_lt_zero j)), K2⟩
  case round =>
    clear K2
    obtain ⟨i, rfl, hi, HM, hb⟩ := hrel
    obtain ⟨a0, a1, a2, a3, a4, a5, b0, b1, b2, b3, b4, b5⟩ := HC.out wr hb.out
    by_cases hlt : i < nrA
    · have d1 : decide (i < nrA) = true := decide_eq_true hlt
      have hlt' : (i : Int) < (nrA : Int) := by omega
      have HLT := hid_of hlt
      have hl : i < rs'.length := by have := HL.out; omega
      have hm : i < u.rs.length := by have := HL.out; omega
      obtain ⟨g, o, aX, kX, dX, rfl, RX, hcX⟩ := X1.out.r.get (List.getElem?_eq_getElem hl)
      obtain ⟨g2, o2, aY, kY, dY, rfl, RY, hcY⟩ := X2.out.r.get (List.getElem?_eq_getElem hm)
      have hbw : Below w.heap.size w wr := HBB.out.trans (hb.out.mono HBB.out.size)
      obtain ⟨c0, c1⟩ := hcX wr hbw
      obtain ⟨d0, d2⟩ := hcY wr hbw
      obtain ⟨bx, hx⟩ : ∃ bx, bx = ba rs'[i].2 := ⟨_, rfl⟩
      obtain ⟨bz, hz⟩ : ∃ bz, bz = ba u.rs[i].2 := ⟨_, rfl⟩
      rw [← hx] at c1
      rw [← hz] at d2
      have RQ : Hid (∀ m, Calls Try.prog 33 #[.slice aX kX dX, .slice aY kY dY] (wr.drewN m) fun e w' => e = .returned (.bool (decide (rs'[i].1 = u.rs[i].1))) ∧ ∃ m', w' = (wr.drewN m).drewN m') := hid_of (fun m => rnames_q _ _ aX aY kX kY dX dY _ (RX.at (bel_drewN hbw m)) (RY.at (bel_drewN hbw m)))
      obtain ⟨q, hq⟩ : ∃ q, q = decide (rs'[i].1 = u.rs[i].1) := ⟨_, rfl⟩
      rw [← hq] at RQ
      have HLX := hid_of hl
      have HMX := hid_of hm
      by_cases he : rs'[i].2 = u.rs[i].2
      case neg =>
        have et := eq_f hx hz he
        have RF : Hid (false = r) := hid_of (by
          rw [HR2.out, decide_eq_false (p := rs' = u.rs) (fun h => he (by subst h; rfl)), Bool.and_false])
        clear hlt hl hm hcX hcY hx hz he hq hbw RX RY
        go_wp2
        go_quiet (fail)
        go_wp2
        go_ret
        exact ⟨ret_b RF.out, HBB.out.trans ((bel_drewN hb.out nq).mono HBB.out.size)⟩
      have et := eq_t hx hz he
      cases q
      · have RF : Hid (false = r) := hid_of (by
          rw [HR2.out, decide_eq_false (p := rs' = u.rs) (fun h => of_decide_eq_false hq.symm (by subst h; rfl)), Bool.and_false])
        clear hlt hl hm hcX hcY hx hz he hq hbw RX RY
        go_wp2
        go_quiet ((go_at_call 33; exact Calls.quiet_of (RQ.out _)))
        go_wp2
        go_ret
        exact ⟨ret_b RF.out, HBB.out.trans ((bel_drewN hb.out nq).mono HBB.out.size)⟩
      · have HE : Hid (∀ j, j < i + 1 → rs'[j]? = u.rs[j]?) := hid_of (fun j hj => by
          by_cases e : j = i
          · subst e
            rw [List.getElem?_eq_getElem hl, List.getElem?_eq_getElem hm]
            exact congrArg some (Prod.ext (of_decide_eq_true hq.symm) he)
          · exact HM.out j (by omega))
        clear hlt hl hm hcX hcY hx hz he hq hbw RX RY
        go_wp2
        go_quiet ((go_at_call 33; exact Calls.quiet_of (RQ.out _)))
        go_wp2
        go_roundw
        case rel => exact ⟨i + 1, by go_num, HLT.out, HE, hid_of (bel_drewN hb.out nq)⟩
        case measure => have := HLT.out; simp [intOf]; omega
    · have d1 : decide (i < nrA) = false := decide_eq_false hlt
      have HRE : Hid (rs' = u.rs) := hid_of (ext_to HL.out.2.2.1 HL.out.2.2.2 (fun j hj => HM.out j (by omega)))
      have HR3 : Hid (r = decide (ps' = u.ps)) := hid_of (by rw [HR2.out, decide_eq_true HRE.out]; simp)
      have HB0 := hb
      clear hlt hi HM
      go_wp2
      clear a0 a1 a2 a3 a4 a5 b0 b1 b2 b3 b4 b5
      go_loopw [6] (fun iv w5 => ∃ i : Nat, iv = .int .i64 i ∧ i ≤ npA ∧ Hid (∀ j, j < i → ps'[j]? = u.ps[j]?) ∧ Hid (Below WW.heap.size WW w5)) (fun iv _ => npA - (intOf iv).toNat)
      case atStart => exact ⟨0, rfl, Nat.zero_le _, hid_of (fun j h => absurd h (Nat.not_lt_zero j)), HB0⟩
      case round =>
        clear HB0 hb d1
        obtain ⟨i, rfl, hin, HM, hb⟩ := hrel
        obtain ⟨a0, a1, a2, a3, a4, a5, b0, b1, b2, b3, b4, b5⟩ := HC.out wr hb.out
        by_cases hlt : i < npA
        · have d1 : decide (i < npA) = true := decide_eq_true hlt
          have hlt' : (i : Int) < (npA : Int) := by omega
          have HLT := hid_of hlt
          have hl : i < ps'.length := by have := HL.out; omega
          have hm : i < u.ps.length := by have := HL.out; omega
          obtain ⟨g, o, kX, loX, hiX, anX, nnX, cnX, apX, npX, cpX, arX, nrX, crX, rfl, LX, hcX⟩ := X1.out.p.get (List.getElem?_eq_getElem hl)
          obtain ⟨g2, o2, kY, loY, hiY, anY, nnY, cnY, apY, npY, cpY, arY, nrY, crY, rfl, LY, hcY⟩ := X2.out.p.get (List.getElem?_eq_getElem hm)
          have hbw : Below w.heap.size w wr := HBB.out.trans (hb.out.mono HBB.out.size)
          have HX : Hid (∀ wz, Below w.heap.size w wz → _) := hid_of hcX
          have HY : Hid (∀ wz, Below w.heap.size w wz → _) := hid_of hcY
          obtain ⟨c0, c1, c2, c3, c4, c5⟩ := hcX wr hbw
          obtain ⟨d0, d2, d3, d4, d5, d6⟩ := hcY wr hbw
          have CALL := hid_of (fun (wz : World) (hz : Below w.heap.size w wz) => IH.out ps'[i] (List.getElem_mem hl) u.ps[i] kX loX hiX anX nnX cnX apX npX cpX arX nrX crX kY loY hiY anY nnY cnY apY npY cpY arY nrY crY wz (LX.at hz) (LY.at hz))
          obtain ⟨q, hq⟩ : ∃ q, q = decide (ps'[i] = u.ps[i]) := ⟨_, rfl⟩
          rw [← hq] at CALL
          have HBW5 := hid_of hbw
          cases q
          · have RF : Hid (false = r) := hid_of (by
              rw [HR3.out, decide_eq_false (p := ps' = u.ps) (fun h => of_decide_eq_false hq.symm (by subst h; rfl))])
            clear hlt hl hm hcX hcY hq hbw LX LY
            go_wp2
            have cs0 := And.intro a4 (And.intro b4 (And.intro c0 (And.intro c1 (And.intro c2 (And.intro c3 (And.intro c4 (And.intro c5 (And.intro d0 (And.intro d2 (And.intro d3 (And.intro d4 (And.intro d5 d6))))))))))))
            go_region_held3 (fun wz => wz.cell? ⟨w.heap.size, 4, none⟩ = some (.slice (some ⟨g, o, none⟩) npA cpA) ∧ wz.cell? ⟨w.heap.size + 1, 4, none⟩ = some (.slice (some ⟨g2, o2, none⟩) npA cpB) ∧ wz.cell? ⟨g, o + i * 6, none⟩ = some (.int .i64 kX) ∧ wz.cell? ⟨g, o + i * 6 + 1, none⟩ = some (.int .i64 loX) ∧ wz.cell? ⟨g, o + i * 6 + 2, none⟩ = some (.int .i64 hiX) ∧ wz.cell? ⟨g, o + i * 6 + 3, none⟩ = some (.slice anX nnX cnX) ∧ wz.cell? ⟨g, o + i * 6 + 4, none⟩ = some (.slice apX npX cpX) ∧ wz.cell? ⟨g, o + i * 6 + 5, none⟩ = some (.slice arX nrX crX) ∧ wz.cell? ⟨g2, o2 + i * 6, none⟩ = some (.int .i64 kY) ∧ wz.cell? ⟨g2, o2 + i * 6 + 1, none⟩ = some (.int .i64 loY) ∧ wz.cell? ⟨g2, o2 + i * 6 + 2, none⟩ = some (.int .i64 hiY) ∧ wz.cell? ⟨g2, o2 + i * 6 + 3, none⟩ = some (.slice anY nnY cnY) ∧ wz.cell? ⟨g2, o2 + i * 6 + 4, none⟩ = some (.slice apY npY cpY) ∧ wz.cell? ⟨g2, o2 + i * 6 + 5, none⟩ = some (.slice arY nrY crY)) (first | exact cs0 | exact cs6 | go_keep) ((go_at_call 13; ((with_reducible refine (CALL.out _ HBW5.out.drew).mono ?_); (rintro e w6 ⟨rfl, h6⟩); (have H6 := hid_of (hb.out.trans ((undrew h6).mono hb.out.size))); (have G6 := hid_of (HBW5.out.trans ((undrew h6).mono HBW5.out.size))); (obtain ⟨_, _, _, _, z4, _, _, _, _, _, z10, _⟩ := HC.out w6 H6.out); (obtain ⟨x0, x1, x2, x3, x4, x5⟩ := HX.out w6 G6.out); (obtain ⟨y0, y1, y2, y3, y4, y5⟩ := HY.out w6 G6.out); (have cs6 := And.intro z4 (And.intro z10 (And.intro x0 (And.intro x1 (And.intro x2 (And.intro x3 (And.intro x4 (And.intro x5 (And.intro y0 (And.intro y1 (And.intro y2 (And.intro y3 (And.intro y4 y5))))))))))))); clear h6)))
            all_goals go_wp2
            all_goals go_ret
            all_goals exact ⟨ret_b RF.out, HBB.out.trans (H6.out.mono HBB.out.size)⟩
          · have HE : Hid (∀ j, j < i + 1 → ps'[j]? = u.ps[j]?) := hid_of (fun j hj => by
              by_cases e : j = i
              · subst e
                rw [List.getElem?_eq_getElem hl, List.getElem?_eq_getElem hm]
                exact congrArg some (of_decide_eq_true hq.symm)
              · exact HM.out j (by omega))
            clear hlt hl hm hcX hcY hq hbw LX LY
            go_wp2
            have cs0 := And.intro a4 (And.intro b4 (And.intro c0 (And.intro c1 (And.intro c2 (And.intro c3 (And.intro c4 (And.intro c5 (And.intro d0 (And.intro d2 (And.intro d3 (And.intro d4 (And.intro d5 d6))))))))))))
            go_region_held3 (fun wz => wz.cell? ⟨w.heap.size, 4, none⟩ = some (.slice (some ⟨g, o, none⟩) npA cpA) ∧ wz.cell? ⟨w.heap.size + 1, 4, none⟩ = some (.slice (some ⟨g2, o2, none⟩) npA cpB) ∧ wz.cell? ⟨g, o + i * 6, none⟩ = some (.int .i64 kX) ∧ wz.cell? ⟨g, o + i * 6 + 1, none⟩ = some (.int .i64 loX) ∧ wz.cell? ⟨g, o + i * 6 + 2, none⟩ = some (.int .i64 hiX) ∧ wz.cell? ⟨g, o + i * 6 + 3, none⟩ = some (.slice anX nnX cnX) ∧ wz.cell? ⟨g, o + i * 6 + 4, none⟩ = some (.slice apX npX cpX) ∧ wz.cell? ⟨g, o + i * 6 + 5, none⟩ = some (.slice arX nrX crX) ∧ wz.cell? ⟨g2, o2 + i * 6, none⟩ = some (.int .i64 kY) ∧ wz.cell? ⟨g2, o2 + i * 6 + 1, none⟩ = some (.int .i64 loY) ∧ wz.cell? ⟨g2, o2 + i * 6 + 2, none⟩ = some (.int .i64 hiY) ∧ wz.cell? ⟨g2, o2 + i * 6 + 3, none⟩ = some (.slice anY nnY cnY) ∧ wz.cell? ⟨g2, o2 + i * 6 + 4, none⟩ = some (.slice apY npY cpY) ∧ wz.cell? ⟨g2, o2 + i * 6 + 5, none⟩ = some (.slice arY nrY crY)) (first | exact cs0 | exact cs6 | go_keep) ((go_at_call 13; ((with_reducible refine (CALL.out _ HBW5.out.drew).mono ?_); (rintro e w6 ⟨rfl, h6⟩); (have H6 := hid_of (hb.out.trans ((undrew h6).mono hb.out.size))); (have G6 := hid_of (HBW5.out.trans ((undrew h6).mono HBW5.out.size))); (obtain ⟨_, _, _, _, z4, _, _, _, _, _, z10, _⟩ := HC.out w6 H6.out); (obtain ⟨x0, x1, x2, x3, x4, x5⟩ := HX.out w6 G6.out); (obtain ⟨y0, y1, y2, y3, y4, y5⟩ := HY.out w6 G6.out); (have cs6 := And.intro z4 (And.intro z10 (And.intro x0 (And.intro x1 (And.intro x2 (And.intro x3 (And.intro x4 (And.intro x5 (And.intro y0 (And.intro y1 (And.intro y2 (And.intro y3 (And.intro y4 y5))))))))))))); clear h6)))
            all_goals go_wp2
            go_roundw
            case rel => exact ⟨i + 1, by go_num, HLT.out, HE, H6⟩
            case measure => have := HLT.out; simp [intOf]; omega
        · have d1 : decide (i < npA) = false := decide_eq_false hlt
          have RT : Hid (true = r) := hid_of (by
            rw [HR3.out]
            exact (decide_eq_true (ext_to HL.out.1 HL.out.2.1 (fun j hj => HM.out j (by omega)))).symm)
          clear hlt
          go_wp2
          go_ret
          exact ⟨ret_b RT.out, HBB.out.trans (hb.out.mono HBB.out.size)⟩
end Go.Proofs.Ytgbadiajdhehpaa

/- Descriptions that came in, opened. What a row may take is asked of the form's own reach. -/
namespace Go.Proofs.Ytgbadiajdhehpaa
open Go.RowKit Go.ChangeShapes Go.WideShapes

theorem wf_r64 {n : Int} (h : (Lit.int .i64 n).wf = true) : R64 n := by
  have h1 : IntKind.i64.min = -9223372036854775808 := by rfl
  have h2 : IntKind.i64.max = 9223372036854775807 := by rfl
  have : (decide (IntKind.i64.min ≤ n) && decide (n ≤ IntKind.i64.max)) = true := h
  rw [h1, h2] at this
  simpa using this
section
variable {H : Type} {enc : TypeId × Value → H} {P : Program} {w : World} {base : Nat} {spare : TypeId → Bool} {held : Bool}
/-- Every weight is within the form's reach. -/
def Fits (P : Program) (t : TypeId) (d : DataW H) : Prop := ∀ n ∈ d.weights P t, n ≤ reachBytes
theorem fits_each : ∀ {ts : List TypeId} {ds : List (DataW H)}, (∀ n ∈ DataW.weightsEach P ts ds, n ≤ reachBytes) → ∀ (i : Nat) (t : TypeId) (d : DataW H), ts[i]? = some t → ds[i]? = some d → Fits P t d :=
  fun h _ _ _ ht hd n hn => h n (DataW.weights_mem_each ht hd n hn)
theorem fits_all : ∀ {e : TypeId} {ds : List (DataW H)}, (∀ n ∈ DataW.weightsAll P e ds, n ≤ reachBytes) → ∀ d ∈ ds, Fits P e d
  | _, [], _, d, hd => by cases hd
  | e, x :: r, h, d, hd => by
    simp only [DataW.weightsAll, List.mem_append] at h
    rcases List.mem_cons.1 hd with rfl | hd
    · exact fun n hn => h n (.inl hn)
    · exact fits_all (fun n hn => h n (.inr hn)) d hd
end
theorem Try.cellsLat : Try.prog.cellsOf 26 = 6 := by kernel_rfl
theorem Try.cellsRule : Try.prog.cellsOf 46 = 2 := by kernel_rfl
theorem Try.cellsStrs : Try.prog.cellsOf 22 = 1 := by kernel_rfl
theorem Try.cellsLats : Try.prog.cellsOf 23 = 1 := by kernel_rfl
theorem Try.cellsRules : Try.prog.cellsOf 24 = 1 := by kernel_rfl
theorem Try.cellsStr : Try.prog.cellsOf 9 = 1 := by kernel_rfl
theorem Try.cellsInt : Try.prog.cellsOf 3 = 1 := by kernel_rfl
theorem Try.cellsI64 : Try.prog.cellsOf 2 = 1 := by kernel_rfl
theorem Try.bytesStr : Try.prog.bytesOf 9 = 16 := by kernel_rfl
theorem plain_add (a o j : Nat) : (⟨a, o, none⟩ : Addr).add j = ⟨a, o + j, none⟩ := by unfold Addr.add; split <;> simp_all
/-- A slice that came in: nil, or a row of elements, each read with less fuel. -/
theorem open_row {H : Type} {enc : TypeId × Value → H} {w : World} {fuel : Nat} {S e : TypeId} {v : Value} {y : DataW H × List MemPlace} (ht : Try.prog.underlying S = some (.slice e)) (h : DataW.trod enc Try.prog w 0 (fun _ => true) true fuel S [v] = some y) :
    (v = .slice none 0 0 ∧ y.1 = .nil) ∨ ∃ (ad : Addr) (len cap n : Nat) (elems spare : List (DataW H)), v = .slice (some ad) len cap ∧ fuel = n + 1 ∧ y.1 = .slice elems spare ∧ elems.length = len ∧ elems.length + spare.length = cap ∧ len ≤ cap ∧ cap ≤ maxLen ∧
      ∀ i, i < len → ∃ cs' z, w.cells? 0 (ad.add (i * Try.prog.cellsOf e)) (Try.prog.cellsOf e) = some cs' ∧ DataW.trod enc Try.prog w 0 (fun _ => true) true n e cs' = some z ∧ elems[i]? = some z.1 := by
  rcases DataW.trod_slice ht h with ⟨e1, e2⟩ | ⟨a, len, cap, elems, rest, n, hf, e1, e2, _, hl, hm, hlen, hel, hsp, _⟩
  · simp only [List.cons.injEq, and_true] at e1
    exact .inl ⟨e1, by rw [e2]⟩
  · simp only [List.cons.injEq, and_true] at e1
    refine .inr ⟨a, len, cap, n, elems.map (·.1), rest.map (·.1), e1, hf, by rw [e2], by simp [hlen], by have := (hsp rfl).1; simp [hlen, this]; omega, hl, hm, fun i hi => ?_⟩
    have := hel i hi
    rw [List.getElem?_eq_getElem (by omega)] at this
    rw [Option.bind_eq_some_iff] at this
    obtain ⟨cs', h1, h2⟩ := this
    exact ⟨cs', elems[i]'(by omega), h1, h2, by rw [List.getElem?_map, List.getElem?_eq_getElem (by omega)]; rfl⟩
set_option maxRecDepth 100000 in
/-- A slice of strings. -/
theorem open_sl {H : Type} {enc : TypeId × Value → H} {w : World} {fuel : Nat} {v : Value} {x : DataW H × List MemPlace} (h : DataW.trod enc Try.prog w 0 (fun _ => true) true fuel 22 [v] = some x) :
    ∃ l : List Str, Rd w v (ss l) ∧ Ok l ∧ (Fits Try.prog 22 x.1 → l.length * 16 ≤ reachBytes) := by
  rcases open_row Try.underlying22 h with ⟨rfl, _⟩ | ⟨ad, len, cap, n, elems, sp, rfl, _, hd, hlen, hcap, hlc, hcm, hel⟩
  · exact ⟨[], ⟨none, 0, rfl, Nat.le_refl _, by omega, fun h => by simp [ss] at h⟩, (fun y hy => by cases hy), fun _ => by simp⟩
  unfold maxLen at hcm
  have hex : ∀ i, i < len → ∃ s : ByteArray, w.cell? (ad.add i) = some (.string s) ∧ s.size ≤ maxLen := by
    intro i hi
    obtain ⟨cs', z, h1, h2, _⟩ := hel i hi
    rw [Try.cellsStr, Nat.mul_one] at h1
    obtain ⟨s, e, _, hs⟩ := DataW.trod_string Try.underlying9 h2
    subst e
    obtain ⟨_, _, hc⟩ := World.cells?_some h1
    refine ⟨s, ?_, hs⟩
    have := hc 0 (by omega)
    simpa [Addr.add] using this
  have hfit : Fits Try.prog 22 x.1 → len * 16 ≤ reachBytes := fun hf => by
    rw [hd] at hf
    have := hf ((elems.length + sp.length) * Try.prog.bytesOf 9) (by simp [DataW.weights, Try.underlying22])
    rw [Try.bytesStr] at this
    omega
  haveI : Inhabited ByteArray := ⟨⟨#[]⟩⟩
  obtain ⟨f, hf⟩ := Go.Deep.choose_lt hex
  have hget : ∀ (i : Nat) (q : Nat), (List.range len)[i]? = some q → i < len ∧ q = i := by
    intro i q hr
    obtain ⟨h1, h2⟩ := List.getElem?_eq_some_iff.1 hr
    simp at h1 h2
    exact ⟨h1, h2.symm⟩
  refine ⟨(List.range len).map fun i => (f i).data.toList, ?_, fun y hy => ?_, fun h => by simpa using hfit h⟩
  · refine ⟨some ad, cap, by rw [ss_length]; simp, by rw [ss_length]; simpa using hlc, by omega, fun h0 => ?_⟩
    rw [ss_length, List.length_map, List.length_range] at h0
    have h6 := (hf 0 h0).1
    rw [show ad.add 0 = ad by rfl] at h6
    have hx := spot_none h6
    refine ⟨ad.block, ad.off, by rw [← hx], World.block_lt_of_cell? w _ h6, fun j u hu => ?_⟩
    simp only [ss, List.map_map, List.getElem?_map] at hu
    obtain ⟨q, hq, rfl⟩ := Option.map_eq_some_iff.1 hu
    obtain ⟨h1, rfl⟩ := hget j q hq
    have h7 := (hf q h1).1
    rw [hx, Addr.add_mid] at h7
    rw [h7]
    rfl
  · obtain ⟨q, hq, rfl⟩ := List.mem_map.1 hy
    have := (hf q (by simpa using hq)).2
    unfold maxLen at this
    have e : (f q).data.toList.length = (f q).size := Array.length_toList
    omega
set_option maxRecDepth 100000 in
theorem rule_fields : ∃ f0 f1 : Field, Try.prog.underlying 46 = some (.struct #[f0, f1]) ∧ f0.type = 22 ∧ f1.type = 9 ∧ f0.offset = 0 ∧ f1.offset = 1 :=
  ⟨_, _, Try.underlying46, rfl, rfl, rfl, rfl⟩
set_option maxRecDepth 100000 in
/-- A slice of rules. -/
theorem open_rl {H : Type} {enc : TypeId × Value → H} {w : World} {fuel : Nat} {v : Value} {x : DataW H × List MemPlace} (h : DataW.trod enc Try.prog w 0 (fun _ => true) true fuel 24 [v] = some x) (hfit : Fits Try.prog 24 x.1) :
    ∃ rs : List Gr, RuR w v rs ∧ OkR rs := by
  rcases open_row Try.underlying24 h with ⟨rfl, _⟩ | ⟨ad, len, cap, n, elems, sp, rfl, _, hd, hlen, hcap, hlc, hcm, hel⟩
  · exact ⟨[], rur_nil w, fun r hr => by cases hr⟩
  unfold maxLen at hcm
  have hfe : ∀ d ∈ elems, Fits Try.prog 46 d := by
    rw [hd] at hfit
    refine fits_all fun m hm => hfit m ?_
    simp only [DataW.weights, Try.underlying24, List.mem_cons, List.mem_append]
    exact .inr (.inl hm)
  have hex : ∀ i, i < len → ∃ q : Value × Gr, (w.cell? ((ad.add (i * 2)).add 0) = some q.1 ∧ w.cell? ((ad.add (i * 2)).add 1) = some (.string (ba q.2.2))) ∧ Rd w q.1 (ss q.2.1) ∧ Ok q.2.1 ∧ q.2.2.length ≤ 9223372036854775807 ∧ q.2.1.length ≤ 8796093021952 := by
    intro i hi
    obtain ⟨cs', z, h1, h2, h3⟩ := hel i hi
    rw [Try.cellsRule] at h1
    have hz := hfe z.1 (List.mem_of_getElem? h3)
    obtain ⟨f0, f1, hu, t0, t1, o0, o1⟩ := rule_fields
    obtain ⟨xs, m, _, hzz, hl, hlx, hf⟩ := DataW.trod_struct hu h2
    match xs, hlx with
    | [y0, y1], _ =>
      have g0 := hf 0 f0 rfl
      have g1 := hf 1 f1 rfl
      rw [t0, o0, Try.cellsStrs] at g0
      rw [t1, o1, Try.cellsStr] at g1
      rw [Try.cellsRule] at hl
      match cs', hl with
      | [v0, v1], _ =>
        simp only [List.drop_zero, List.drop_succ_cons, List.take_succ_cons, List.take_zero, List.getElem?_cons_zero, List.getElem?_cons_succ] at g0 g1
        obtain ⟨l, r1, r2, r3⟩ := open_sl g0
        obtain ⟨s, e, _, hs⟩ := DataW.trod_string Try.underlying9 g1
        simp only [List.cons.injEq, and_true] at e
        subst e
        obtain ⟨_, _, hc⟩ := World.cells?_some h1
        refine ⟨(v0, l, s.data.toList), ⟨by simpa using hc 0 (by omega), by simpa [ba_of] using hc 1 (by omega)⟩, r1, r2, ?_, ?_⟩
        · unfold maxLen at hs
          have e : s.data.toList.length = s.size := Array.length_toList
          show s.data.toList.length ≤ _
          omega
        · have hz0 : Fits Try.prog 22 y0.1 := by
            rw [hzz] at hz
            refine fits_each (ts := [22, 9]) (ds := [y0.1, y1.1]) (fun m hm => hz m ?_) 0 _ _ rfl rfl
            simp only [DataW.weights, hu, List.map_cons, List.map_nil, t0, t1]
            exact hm
          have := r3 hz0
          have hr : reachBytes = 140737488351232 := by rfl
          show l.length ≤ _
          omega
  by_cases h0 : len = 0
  · subst h0
    exact ⟨[], ⟨[], ⟨some ad, cap, rfl, hlc, by omega, fun h => by simp at h⟩, rfl, fun i t r ht => by simp at ht⟩, fun r hr => by cases hr⟩
  have hsp : ad.spot = none := by
    obtain ⟨y, hc, _⟩ := hex 0 (by omega)
    have := hc.1
    simpa [Addr.add] using World.cell?_spot (w := w) (a := (ad.add (0 * 2)).add 0) this
  obtain ⟨b, o, sp2⟩ := ad
  simp only at hsp
  subst hsp
  haveI : Inhabited (Value × Gr) := ⟨⟨.slice none 0 0, [], []⟩⟩
  obtain ⟨f, hf⟩ := Go.Deep.choose_lt hex
  have hget : ∀ (i : Nat) (q : Nat), (List.range len)[i]? = some q → i < len ∧ q = i := by
    intro i q hr
    obtain ⟨h1, h2⟩ := List.getElem?_eq_some_iff.1 hr
    simp at h1 h2
    exact ⟨h1, h2.symm⟩
  have c00 := (hf 0 (by omega)).1.1
  rw [plain_add, plain_add] at c00
  refine ⟨(List.range len).map fun i => (f i).2, ⟨(List.range len).map fun i => ((f i).1, .string (ba (f i).2.2)), ⟨_, _, by rw [List.length_map, List.length_range], by simpa using hlc, by omega, fun _ => ⟨b, o, rfl, World.block_lt_of_cell? w _ c00, fun i t ht => ?_⟩⟩, by simp, fun i t r ht hr => ?_⟩, fun r hr => ?_⟩
  · rw [List.getElem?_map] at ht
    obtain ⟨q, hq, rfl⟩ := Option.map_eq_some_iff.1 ht
    obtain ⟨h1, rfl⟩ := hget i q hq
    obtain ⟨⟨a1, a2⟩, _⟩ := hf q h1
    rw [plain_add, plain_add] at a1 a2
    exact ⟨a1, a2⟩
  · rw [List.getElem?_map] at ht hr
    obtain ⟨q, hq, rfl⟩ := Option.map_eq_some_iff.1 ht
    obtain ⟨q', hq', rfl⟩ := Option.map_eq_some_iff.1 hr
    obtain ⟨h1, rfl⟩ := hget i q hq
    obtain ⟨_, rfl⟩ := hget _ q' hq'
    exact ⟨(hf _ h1).2.1, rfl⟩
  · obtain ⟨q, hq, rfl⟩ := List.mem_map.1 hr
    exact (hf q (by simpa using hq)).2.2
set_option maxRecDepth 100000 in
theorem lat_fields : ∃ f0 f1 f2 f3 f4 f5 : Field, Try.prog.underlying 26 = some (.struct #[f0, f1, f2, f3, f4, f5]) ∧ f0.type = 3 ∧ f1.type = 2 ∧ f2.type = 2 ∧ f3.type = 22 ∧ f4.type = 23 ∧ f5.type = 24 ∧ f0.offset = 0 ∧ f1.offset = 1 ∧ f2.offset = 2 ∧ f3.offset = 3 ∧ f4.offset = 4 ∧ f5.offset = 5 :=
  ⟨_, _, _, _, _, _, Try.underlying26, rfl, rfl, rfl, rfl, rfl, rfl, rfl, rfl, rfl, rfl, rfl, rfl⟩
set_option maxRecDepth 100000 in
/-- A description. -/
theorem open_lat {H : Type} {enc : TypeId × Value → H} {w : World} : ∀ (F fuel : Nat), fuel < F → ∀ (cs : List Value) (x : DataW H × List MemPlace), DataW.trod enc Try.prog w 0 (fun _ => true) true fuel 26 cs = some x → Fits Try.prog 26 x.1 → ∃ (y : LX) (t : Lat), cs = y.q.cs ∧ LD w y t := by
  intro F
  induction F with
  | zero => intro fuel h; omega
  | succ F ih =>
    intro fuel hF cs x h hfit
    obtain ⟨f0, f1, f2, f3, f4, f5, hu, t0, t1, t2, t3, t4, t5, o0, o1, o2, o3, o4, o5⟩ := lat_fields
    obtain ⟨xs, m, hm, hxx, hl, hlx, hf⟩ := DataW.trod_struct hu h
    match xs, hlx with
    | [y0, y1, y2, y3, y4, y5], _ =>
      have g0 := hf 0 f0 rfl
      have g1 := hf 1 f1 rfl
      have g2 := hf 2 f2 rfl
      have g3 := hf 3 f3 rfl
      have g4 := hf 4 f4 rfl
      have g5 := hf 5 f5 rfl
      rw [Try.cellsLat] at hl
      match cs, hl with
      | [v0, v1, v2, v3, v4, v5], _ =>
        rw [t0, o0, Try.cellsInt] at g0
        rw [t1, o1, Try.cellsI64] at g1
        rw [t2, o2, Try.cellsI64] at g2
        rw [t3, o3, Try.cellsStrs] at g3
        rw [t4, o4, Try.cellsLats] at g4
        rw [t5, o5, Try.cellsRules] at g5
        simp only [List.drop_zero, List.drop_succ_cons, List.take_succ_cons, List.take_zero, List.getElem?_cons_zero, List.getElem?_cons_succ] at g0 g1 g2 g3 g4 g5
        obtain ⟨k0, e0, _, q0⟩ := DataW.trod_int Try.underlying3 g0
        obtain ⟨k1, e1, _, q1⟩ := DataW.trod_int Try.underlying2 g1
        obtain ⟨k2, e2, _, q2⟩ := DataW.trod_int Try.underlying2 g2
        simp only [List.cons.injEq, and_true] at e0 e1 e2
        subst e0 e1 e2
        have hz : ∀ (i : Nat) (t : TypeId) (d : DataW H), [3, 2, 2, 22, 23, 24][i]? = some t → [y0.1, y1.1, y2.1, y3.1, y4.1, y5.1][i]? = some d → Fits Try.prog t d := by
          refine fits_each (fun n hn => hfit n ?_)
          rw [hxx]
          simp only [DataW.weights, hu, List.map_cons, List.map_nil, t0, t1, t2, t3, t4, t5]
          exact hn
        obtain ⟨ns, n1, n2, _⟩ := open_sl g3
        obtain ⟨rs, r1, r2⟩ := open_rl g5 (hz 5 _ _ rfl rfl)
        have hp : ∃ ts, LDs w v4 ts := by
          rcases open_row Try.underlying23 g4 with ⟨rfl, _⟩ | ⟨ad, len, cap, n, elems, sp, rfl, hfu, hd, hlen, hcap, hlc, hcm, hel⟩
          · exact ⟨[], lds_nil w⟩
          unfold maxLen at hcm
          have hfe : ∀ d ∈ elems, Fits Try.prog 26 d := by
            have hz4 := hz 4 _ _ rfl rfl
            rw [hd] at hz4
            refine fits_all fun m hm => hz4 m ?_
            simp only [DataW.weights, Try.underlying23, List.mem_cons, List.mem_append]
            exact .inr (.inl hm)
          have hex : ∀ i, i < len → ∃ q : LX × Lat, (∀ j, j < 6 → w.cell? ((ad.add (i * 6)).add j) = q.1.q.cs[j]?) ∧ LD w q.1 q.2 := by
            intro i hi
            obtain ⟨cs', z, h1, h2, h3⟩ := hel i hi
            rw [Try.cellsLat] at h1
            obtain ⟨y, t, e, hy⟩ := ih n (by omega) cs' z h2 (hfe z.1 (List.mem_of_getElem? h3))
            obtain ⟨_, _, hc⟩ := World.cells?_some h1
            exact ⟨(y, t), fun j hj => by rw [hc j hj, e], hy⟩
          by_cases h0 : len = 0
          · subst h0
            exact ⟨[], [], ⟨some ad, cap, rfl, hlc, by omega, fun h => by simp at h⟩, rfl, fun i y u hy => by simp at hy⟩
          have hsp : ad.spot = none := by
            obtain ⟨y, hc, _⟩ := hex 0 (by omega)
            have := hc 0 (by omega)
            simpa [Addr.add] using World.cell?_spot (w := w) (a := (ad.add (0 * 6)).add 0) this
          obtain ⟨b, o, sp2⟩ := ad
          simp only at hsp
          subst hsp
          haveI : Inhabited (LX × Lat) := ⟨⟨⟨0, 0, 0, .slice none 0 0, .slice none 0 0, .slice none 0 0⟩, ⟨0, 0, 0, [], [], []⟩⟩⟩
          obtain ⟨f, hf⟩ := Go.Deep.choose_lt hex
          have hget : ∀ (i : Nat) (q : Nat), (List.range len)[i]? = some q → i < len ∧ q = i := by
            intro i q hr
            obtain ⟨h1, h2⟩ := List.getElem?_eq_some_iff.1 hr
            simp at h1 h2
            exact ⟨h1, h2.symm⟩
          have hcell : ∀ i j, i < len → j < 6 → w.cell? ⟨b, o + i * 6 + j, none⟩ = (f i).1.q.cs[j]? := by
            intro i j hi hj
            have := (hf i hi).1 j hj
            rwa [plain_add, plain_add] at this
          refine ⟨(List.range len).map fun i => (f i).2, (List.range len).map fun i => (f i).1, ⟨some ⟨b, o, none⟩, cap, by simp, by simpa using hlc, by omega, fun _ => ⟨b, o, rfl, World.block_lt_of_cell? w _ (hcell 0 0 (by omega) (by omega)), fun i t ht => ?_⟩⟩, by simp, fun i y u hy hu => ?_⟩
          · rw [List.getElem?_map, List.getElem?_map] at ht
            obtain ⟨q, hq, rfl⟩ := Option.map_eq_some_iff.1 ht
            obtain ⟨q', hq', rfl⟩ := Option.map_eq_some_iff.1 hq
            obtain ⟨h1, rfl⟩ := hget i q' hq'
            exact ⟨hcell q' 0 h1 (by omega), hcell q' 1 h1 (by omega), hcell q' 2 h1 (by omega), hcell q' 3 h1 (by omega), hcell q' 4 h1 (by omega), hcell q' 5 h1 (by omega)⟩
          · rw [List.getElem?_map] at hy hu
            obtain ⟨q, hq, rfl⟩ := Option.map_eq_some_iff.1 hy
            obtain ⟨q', hq', rfl⟩ := Option.map_eq_some_iff.1 hu
            obtain ⟨h1, rfl⟩ := hget i q hq
            obtain ⟨_, rfl⟩ := hget _ q' hq'
            exact (hf _ h1).2
        obtain ⟨ts, ps, p1, p2, p3⟩ := hp
        exact ⟨⟨k0, k1, k2, v3, v4, v5⟩, ⟨k0, k1, k2, ns, ts, rs⟩, rfl, .mk ps rfl rfl rfl (wf_r64 q0) (wf_r64 q1) (wf_r64 q2) n1 n2 r1 r2 p1 p2 p3⟩
set_option maxRecDepth 100000 in
/-- A description by value. -/
theorem open_latv {H : Type} {enc : TypeId × Value → H} {w : World} {base : Nat} {v : Value} {d : DataW H} {p : List MemPlace} (hv : Value.okWide Try.prog w .any base 26 v) (h : DataW.Trod enc Try.prog w 0 (fun _ => true) true 26 v d p) (hfit : Fits Try.prog 26 d) :
    ∃ (k lo hi : Int) (an : Option Addr) (nn cn : Nat) (ap : Option Addr) (np cp : Nat) (ar : Option Addr) (nr cr : Nat) (t : Lat), v = .agg #[.int .i64 k, .int .i64 lo, .int .i64 hi, .slice an nn cn, .slice ap np cp, .slice ar nr cr] ∧ LO w k lo hi an nn cn ap np cp ar nr cr t := by
  obtain ⟨cs, rfl, _⟩ := okWide_struct Try.underlying26 hv
  obtain ⟨fuel, hf⟩ := h
  obtain ⟨y, t, e, r⟩ := open_lat _ fuel (Nat.lt_succ_self _) _ _ hf hfit
  obtain ⟨k, lo, hi, an, nn, cn, ap, np, cp, ar, nr, cr, rfl, ho⟩ := r.open
  have e3 : cs = #[.int .i64 k, .int .i64 lo, .int .i64 hi, .slice an nn cn, .slice ap np cp, .slice ar nr cr] := by rw [← Array.toArray_toList (xs := cs), show cs.toList = _ from e]; rfl
  subst e3
  exact ⟨k, lo, hi, an, nn, cn, ap, np, cp, ar, nr, cr, t, rfl, ho⟩
end Go.Proofs.Ytgbadiajdhehpaa

/- The law on equality. Bounds on sizes alone. -/
namespace Go.Proofs.Ytgbadiajdhehpaa
open Go.RowKit

theorem dec_comm (t u : Lat) : decide (u = t) = decide (t = u) := by
  by_cases h : t = u
  · rw [decide_eq_true h, decide_eq_true h.symm]
  · rw [decide_eq_false h, decide_eq_false (fun e => h e.symm)]
set_option maxRecDepth 100000 in
set_option maxHeartbeats 6400000 in
theorem equal_law (t u : Lat) (kA loA hiA : Int) (anA : Option Addr) (nnA cnA : Nat) (apA : Option Addr) (npA cpA : Nat) (arA : Option Addr) (nrA crA : Nat) (kB loB hiB : Int) (anB : Option Addr) (nnB cnB : Nat) (apB : Option Addr) (npB cpB : Nat) (arB : Option Addr) (nrB crB : Nat) (w : World) (H1 : LO w kA loA hiA anA nnA cnA apA npA cpA arA nrA crA t) (H2 : LO w kB loB hiB anB nnB cnB apB npB cpB arB nrB crB u) : Calls Try.prog 4 #[.agg #[.int .i64 kA, .int .i64 loA, .int .i64 hiA, .slice anA nnA cnA, .slice apA npA cpA, .slice arA nrA crA], .agg #[.int .i64 kB, .int .i64 loB, .int .i64 hiB, .slice anB nnB cnB, .slice apB npB cpB, .slice arB nrB crB]] w (BoP true w) := by
  have HBB := hid_of (((Below.refl w.heap.size w).alloc (Nat.le_refl _) (.cells #[.int .i64 kA, .int .i64 loA, .int .i64 hiA, .slice anA nnA cnA, .slice apA npA cpA, .slice arA nrA crA] 26)).alloc (by simp) (.cells #[.int .i64 kB, .int .i64 loB, .int .i64 hiB, .slice anB nnB cnB, .slice apB npB cpB, .slice arB nrB crB] 26))
  have HC := hid_of (fun (w' : World) (h : Below ((w.alloc (.cells #[.int .i64 kA, .int .i64 loA, .int .i64 hiA, .slice anA nnA cnA, .slice apA npA cpA, .slice arA nrA crA] 26)).alloc (.cells #[.int .i64 kB, .int .i64 loB, .int .i64 hiB, .slice anB nnB cnB, .slice apB npB cpB, .slice arB nrB crB] 26)).heap.size ((w.alloc (.cells #[.int .i64 kA, .int .i64 loA, .int .i64 hiA, .slice anA nnA cnA, .slice apA npA cpA, .slice arA nrA crA] 26)).alloc (.cells #[.int .i64 kB, .int .i64 loB, .int .i64 hiB, .slice anB nnB cnB, .slice apB npB cpB, .slice arB nrB crB] 26)) w') => two_box kA loA hiA anA nnA cnA apA npA cpA arA nrA crA kB loB hiB anB nnB cnB apB npB cpB arB nrB crB h)
  have AW := hid_of (fun w => awake_any w)
  have EAB := hid_of (fun (wz : World) (hz : Below ((w.alloc (.cells #[.int .i64 kA, .int .i64 loA, .int .i64 hiA, .slice anA nnA cnA, .slice apA npA cpA, .slice arA nrA crA] 26)).alloc (.cells #[.int .i64 kB, .int .i64 loB, .int .i64 hiB, .slice anB nnB cnB, .slice apB npB cpB, .slice arB nrB crB] 26)).heap.size ((w.alloc (.cells #[.int .i64 kA, .int .i64 loA, .int .i64 hiA, .slice anA nnA cnA, .slice apA npA cpA, .slice arA nrA crA] 26)).alloc (.cells #[.int .i64 kB, .int .i64 loB, .int .i64 hiB, .slice anB nnB cnB, .slice apB npB cpB, .slice arB nrB crB] 26)) wz) => equal_any t u kA loA hiA anA nnA cnA apA npA cpA arA nrA crA kB loB hiB anB nnB cnB apB npB cpB arB nrB crB wz (H1.at (HBB.out.trans (hz.mono HBB.out.size))) (H2.at (HBB.out.trans (hz.mono HBB.out.size))))
  have EBA := hid_of (fun (wz : World) (hz : Below ((w.alloc (.cells #[.int .i64 kA, .int .i64 loA, .int .i64 hiA, .slice anA nnA cnA, .slice apA npA cpA, .slice arA nrA crA] 26)).alloc (.cells #[.int .i64 kB, .int .i64 loB, .int .i64 hiB, .slice anB nnB cnB, .slice apB npB cpB, .slice arB nrB crB] 26)).heap.size ((w.alloc (.cells #[.int .i64 kA, .int .i64 loA, .int .i64 hiA, .slice anA nnA cnA, .slice apA npA cpA, .slice arA nrA crA] 26)).alloc (.cells #[.int .i64 kB, .int .i64 loB, .int .i64 hiB, .slice anB nnB cnB, .slice apB npB cpB, .slice arB nrB crB] 26)) wz) => equal_any u t kB loB hiB anB nnB cnB apB npB cpB arB nrB crB kA loA hiA anA nnA cnA apA npA cpA arA nrA crA wz (H2.at (HBB.out.trans (hz.mono HBB.out.size))) (H1.at (HBB.out.trans (hz.mono HBB.out.size))))
  have EAA := hid_of (fun (wz : World) (hz : Below ((w.alloc (.cells #[.int .i64 kA, .int .i64 loA, .int .i64 hiA, .slice anA nnA cnA, .slice apA npA cpA, .slice arA nrA crA] 26)).alloc (.cells #[.int .i64 kB, .int .i64 loB, .int .i64 hiB, .slice anB nnB cnB, .slice apB npB cpB, .slice arB nrB crB] 26)).heap.size ((w.alloc (.cells #[.int .i64 kA, .int .i64 loA, .int .i64 hiA, .slice anA nnA cnA, .slice apA npA cpA, .slice arA nrA crA] 26)).alloc (.cells #[.int .i64 kB, .int .i64 loB, .int .i64 hiB, .slice anB nnB cnB, .slice apB npB cpB, .slice arB nrB crB] 26)) wz) => equal_any t t kA loA hiA anA nnA cnA apA npA cpA arA nrA crA kA loA hiA anA nnA cnA apA npA cpA arA nrA crA wz (H1.at (HBB.out.trans (hz.mono HBB.out.size))) (H1.at (HBB.out.trans (hz.mono HBB.out.size))))
  have RAB := hid_of (fun (wz : World) (hz : Below ((w.alloc (.cells #[.int .i64 kA, .int .i64 loA, .int .i64 hiA, .slice anA nnA cnA, .slice apA npA cpA, .slice arA nrA crA] 26)).alloc (.cells #[.int .i64 kB, .int .i64 loB, .int .i64 hiB, .slice anB nnB cnB, .slice apB npB cpB, .slice arB nrB crB] 26)).heap.size ((w.alloc (.cells #[.int .i64 kA, .int .i64 loA, .int .i64 hiA, .slice anA nnA cnA, .slice apA npA cpA, .slice arA nrA crA] 26)).alloc (.cells #[.int .i64 kB, .int .i64 loB, .int .i64 hiB, .slice anB nnB cnB, .slice apB npB cpB, .slice arB nrB crB] 26)) wz) => requal_any t u kA loA hiA anA nnA cnA apA npA cpA arA nrA crA kB loB hiB anB nnB cnB apB npB cpB arB nrB crB wz (H1.at (HBB.out.trans (hz.mono HBB.out.size))) (H2.at (HBB.out.trans (hz.mono HBB.out.size))))
  rw [dec_comm t u] at EBA
  rw [show decide (t = t) = true by simp] at EAA
  obtain ⟨q, hq⟩ : ∃ q, q = decide (t = u) := ⟨_, rfl⟩
  rw [← hq] at EAB EBA RAB
  have cs0 := HC.out ((w.alloc (.cells #[.int .i64 kA, .int .i64 loA, .int .i64 hiA, .slice anA nnA cnA, .slice apA npA cpA, .slice arA nrA crA] 26)).alloc (.cells #[.int .i64 kB, .int .i64 loB, .int .i64 hiB, .slice anB nnB cnB, .slice apB npB cpB, .slice arB nrB crB] 26)) (Below.refl _ _)
  clear hq H1 H2
  cases q
  all_goals
    go_enter Try.func4, Try.ntmps4
    go_wp2
    go_region_held3 (fun wz => wz.cell? ⟨w.heap.size, 0, none⟩ = some (.int .i64 kA) ∧ wz.cell? ⟨w.heap.size, 1, none⟩ = some (.int .i64 loA) ∧ wz.cell? ⟨w.heap.size, 2, none⟩ = some (.int .i64 hiA) ∧ wz.cell? ⟨w.heap.size, 3, none⟩ = some (.slice anA nnA cnA) ∧ wz.cell? ⟨w.heap.size, 4, none⟩ = some (.slice apA npA cpA) ∧ wz.cell? ⟨w.heap.size, 5, none⟩ = some (.slice arA nrA crA) ∧ wz.cell? ⟨w.heap.size + 1, 0, none⟩ = some (.int .i64 kB) ∧ wz.cell? ⟨w.heap.size + 1, 1, none⟩ = some (.int .i64 loB) ∧ wz.cell? ⟨w.heap.size + 1, 2, none⟩ = some (.int .i64 hiB) ∧ wz.cell? ⟨w.heap.size + 1, 3, none⟩ = some (.slice anB nnB cnB) ∧ wz.cell? ⟨w.heap.size + 1, 4, none⟩ = some (.slice apB npB cpB) ∧ wz.cell? ⟨w.heap.size + 1, 5, none⟩ = some (.slice arB nrB crB)) (first | exact cs0 | exact cs1 | exact cs2 | exact cs3 | exact cs4 | exact cs5 | exact cs6 | go_keep) (first
      | (go_at_call 9; ((with_reducible refine (AW.out _).mono ?_); (rintro e w1 ⟨rfl, h1⟩); (have E1 := hid_of (undrew h1)); (have cs1 := HC.out w1 E1.out); clear h1))
      | (go_at_call 12; ((with_reducible refine (EAB.out w1 E1.out).mono ?_); (rintro e w2 ⟨rfl, h2⟩); (have E2 := hid_of (E1.out.trans (h2.mono E1.out.size))); (have cs2 := HC.out w2 E2.out); clear h2))
      | (go_at_call 13; ((with_reducible refine (RAB.out w1 E1.out).mono ?_); (rintro e w2 ⟨rfl, h2⟩); (have E2 := hid_of (E1.out.trans (h2.mono E1.out.size))); (have cs2 := HC.out w2 E2.out); clear h2))
      | (go_at_call 13; ((with_reducible refine (RAB.out w2 E2.out).mono ?_); (rintro e w3 ⟨rfl, h3⟩); (have E3 := hid_of (E2.out.trans (h3.mono E2.out.size))); (have cs3 := HC.out w3 E3.out); clear h3))
      | (go_at_call 12; ((with_reducible refine (EAB.out w2 E2.out).mono ?_); (rintro e w3 ⟨rfl, h3⟩); (have E3 := hid_of (E2.out.trans (h3.mono E2.out.size))); (have cs3 := HC.out w3 E3.out); clear h3))
      | (go_at_call 12; ((with_reducible refine (EAA.out w3 E3.out).mono ?_); (rintro e w4 ⟨rfl, h4⟩); (have E4 := hid_of (E3.out.trans (h4.mono E3.out.size))); (have cs4 := HC.out w4 E4.out); clear h4))
      | (go_at_call 12; ((with_reducible refine (EBA.out w4 E4.out).mono ?_); (rintro e w5 ⟨rfl, h5⟩); (have E5 := hid_of (E4.out.trans (h5.mono E4.out.size))); (have cs5 := HC.out w5 E5.out); clear h5))
      | (go_at_call 12; ((with_reducible refine (EAB.out w4 E4.out).mono ?_); (rintro e w5 ⟨rfl, h5⟩); (have E5 := hid_of (E4.out.trans (h5.mono E4.out.size))); (have cs5 := HC.out w5 E5.out); clear h5))
      | (go_at_call 12; ((with_reducible refine (EAB.out w5 E5.out).mono ?_); (rintro e w6 ⟨rfl, h6⟩); (have E6 := hid_of (E5.out.trans (h6.mono E5.out.size))); (have cs6 := HC.out w6 E6.out); clear h6))
      | (go_at_call 12; ((with_reducible refine (EBA.out w5 E5.out).mono ?_); (rintro e w6 ⟨rfl, h6⟩); (have E6 := hid_of (E5.out.trans (h6.mono E5.out.size))); (have cs6 := HC.out w6 E6.out); clear h6)))
    all_goals go_wp2
    all_goals go_ret
    all_goals exact ⟨rfl, HBB.out.trans (E6.out.mono HBB.out.size)⟩
end Go.Proofs.Ytgbadiajdhehpaa
