/- The reference: Equal. Bounds on sizes alone. -/
import Derived.Test.YtoogcafceghdjaaLatChx
import Derived.Test.YtoogcafceghdjaaLatNod
namespace Go.Proofs.Ytoogcafceghdjaa
open Go.RowKit

set_option maxRecDepth 100000 in
set_option maxHeartbeats 3200000 in
theorem rnames_q (l m : List Str) (ao bo : Option Addr) (n n2 cap cap2 : Nat) (w : World) (R1 : Rd w (.slice ao n cap) (ss l)) (R2 : Rd w (.slice bo n2 cap2) (ss m)) :
    Calls Try.prog 30 #[.slice ao n cap, .slice bo n2 cap2] w (fun e w' => e = .returned (.bool (decide (l = m))) ∧ ∃ m, w' = w.drewN m) := by
  obtain ⟨hn, _, hcap, h3⟩ := rds_open R1
  obtain ⟨hn2, _, hcap2, k3⟩ := rds_open R2
  obtain ⟨r, hr⟩ : ∃ r, r = decide (l = m) := ⟨_, rfl⟩
  rw [← hr]
  have HR := hid_of hr
  clear hr R1 R2
  by_cases hnn : n = n2
  case neg =>
    have RF : Hid (false = r) := hid_of (by rw [HR.out]; exact (decide_eq_false (fun h => hnn (by rw [hn, hn2, h]))).symm)
    have e1 : (n == n2) = false := beq_eq_false_iff_ne.2 hnn
    have e2 : ((n : Int) == (n2 : Int)) = false := beq_eq_false_iff_ne.2 (by omega)
    have e3 : ((n : Int) != (n2 : Int)) = true := bne_iff_ne.2 (by omega)
    clear hnn hn hn2 h3 k3
    go_enter Try.func30, Try.ntmps30
    go_wp2
    go_ret
    exact ⟨ret_b RF.out, 0, rfl⟩
  subst hnn
  have HN := hid_of hn
  have HN2 := hid_of hn2
  have H3 := hid_of h3
  have K3 := hid_of k3
  clear hn hn2 h3 k3
  go_enter Try.func30, Try.ntmps30
  go_wp2
  go_loopw [5] (fun iv wr => ∃ i : Nat, iv = .int .i64 i ∧ i ≤ n ∧ Hid (∀ j, j < i → l[j]? = m[j]?) ∧ Hid (∃ m, wr = w.drewN m)) (fun iv _ => n - (intOf iv).toNat)
  case atStart => exact ⟨0, rfl, Nat.zero_le _, hid_of (fun j h => absurd h (Nat.not_lt_zero j)), hid_of ⟨0, rfl⟩⟩
  case round =>
    obtain ⟨i, rfl, hi, HM, hb⟩ := hrel
    by_cases hlt : i < n
    · have d1 : decide (i < n) = true := decide_eq_true hlt
      have hlt' : (i : Int) < (n : Int) := by omega
      have HLT := hid_of hlt
      have hl : i < l.length := by have := HN.out; omega
      have hm : i < m.length := by have := HN2.out; omega
      rcases H3.out with h3 | ⟨g, o, rfl, hg, hc⟩
      · exfalso; rw [h3] at hl; simp at hl
      rcases K3.out with k3 | ⟨g2, o2, rfl, hg2, hc2⟩
      · exfalso; rw [k3] at hm; simp at hm
      have hbb : Below w.heap.size w wr := by obtain ⟨md, hmd⟩ := hb.out; rw [hmd]; exact bel_drewN (Below.refl _ _) md
      have c1 := (hbb.cell (p := ⟨g, o + i, none⟩) hg).trans (hc i _ (List.getElem?_eq_getElem hl))
      have c2 := (hbb.cell (p := ⟨g2, o2 + i, none⟩) hg2).trans (hc2 i _ (List.getElem?_eq_getElem hm))
      obtain ⟨bx, hx⟩ : ∃ bx, bx = ba l[i] := ⟨_, rfl⟩
      obtain ⟨by', hy⟩ : ∃ by', by' = ba m[i] := ⟨_, rfl⟩
      rw [← hx] at c1
      rw [← hy] at c2
      by_cases he : l[i] = m[i]
      · have et := eq_t hx hy he
        have HE : Hid (∀ j, j < i + 1 → l[j]? = m[j]?) := hid_of (fun j hj => by
          by_cases e : j = i
          · subst e; rw [List.getElem?_eq_getElem hl, List.getElem?_eq_getElem hm, he]
          · exact HM.out j (by omega))
        clear hbb hlt hc hc2 hx hy he hl hm H3 K3 hg hg2 HM
        go_wp2
        go_quiet (fail)
        go_wp2
        go_roundw
        case rel => exact ⟨i + 1, by go_num, HLT.out, HE, hid_of (by obtain ⟨md, hmd⟩ := hb.out; exact ⟨md + nq, by rw [hmd, World.drewN_drewN]⟩)⟩
        case measure => have := HLT.out; simp [intOf]; omega
      · have et := eq_f hx hy he
        have RF : Hid (false = r) := hid_of (by
          rw [HR.out]
          refine (decide_eq_false fun h => he ?_).symm
          subst h; rfl)
        clear hbb hlt hc hc2 hx hy he hl hm H3 K3 hg hg2 HM
        go_wp2
        go_quiet (fail)
        go_wp2
        go_ret
        exact ⟨ret_b RF.out, by obtain ⟨md, hmd⟩ := hb.out; exact ⟨md + nq, by rw [hmd, World.drewN_drewN]⟩⟩
    · have d1 : decide (i < n) = false := decide_eq_false hlt
      have RT : Hid (true = r) := hid_of (by
        rw [HR.out]
        refine (decide_eq_true ?_).symm
        refine List.ext_getElem? fun j => ?_
        by_cases hj : j < n
        · exact HM.out j (by omega)
        · rw [List.getElem?_eq_none (by have := HN.out; omega), List.getElem?_eq_none (by have := HN2.out; omega)])
      go_wp2
      go_ret
      exact ⟨ret_b RT.out, hb.out⟩

theorem two_box {w w' : World} (kA loA hiA : Int) (anA : Option Addr) (nnA cnA : Nat) (apA : Option Addr) (npA cpA : Nat) (arA : Option Addr) (nrA crA : Nat) (kB loB hiB : Int) (anB : Option Addr) (nnB cnB : Nat) (apB : Option Addr) (npB cpB : Nat) (arB : Option Addr) (nrB crB : Nat) (h : Below ((w.alloc (.cells #[.int .i64 kA, .int .i64 loA, .int .i64 hiA, .slice anA nnA cnA, .slice apA npA cpA, .slice arA nrA crA] 26)).alloc (.cells #[.int .i64 kB, .int .i64 loB, .int .i64 hiB, .slice anB nnB cnB, .slice apB npB cpB, .slice arB nrB crB] 26)).heap.size ((w.alloc (.cells #[.int .i64 kA, .int .i64 loA, .int .i64 hiA, .slice anA nnA cnA, .slice apA npA cpA, .slice arA nrA crA] 26)).alloc (.cells #[.int .i64 kB, .int .i64 loB, .int .i64 hiB, .slice anB nnB cnB, .slice apB npB cpB, .slice arB nrB crB] 26)) w') : w'.cell? ⟨w.heap.size, 0, none⟩ = some (.int .i64 kA) ∧ w'.cell? ⟨w.heap.size, 1, none⟩ = some (.int .i64 loA) ∧ w'.cell? ⟨w.heap.size, 2, none⟩ = some (.int .i64 hiA) ∧ w'.cell? ⟨w.heap.size, 3, none⟩ = some (.slice anA nnA cnA) ∧ w'.cell? ⟨w.heap.size, 4, none⟩ = some (.slice apA npA cpA) ∧ w'.cell? ⟨w.heap.size, 5, none⟩ = some (.slice arA nrA crA) ∧
    w'.cell? ⟨w.heap.size + 1, 0, none⟩ = some (.int .i64 kB) ∧ w'.cell? ⟨w.heap.size + 1, 1, none⟩ = some (.int .i64 loB) ∧ w'.cell? ⟨w.heap.size + 1, 2, none⟩ = some (.int .i64 hiB) ∧ w'.cell? ⟨w.heap.size + 1, 3, none⟩ = some (.slice anB nnB cnB) ∧ w'.cell? ⟨w.heap.size + 1, 4, none⟩ = some (.slice apB npB cpB) ∧ w'.cell? ⟨w.heap.size + 1, 5, none⟩ = some (.slice arB nrB crB) := by
  obtain ⟨b1, b2⟩ := two_new w (.cells #[.int .i64 kA, .int .i64 loA, .int .i64 hiA, .slice anA nnA cnA, .slice apA npA cpA, .slice arA nrA crA] 26) (.cells #[.int .i64 kB, .int .i64 loB, .int .i64 hiB, .slice anB nnB cnB, .slice apB npB cpB, .slice arB nrB crB] 26)
  exact ⟨blk_kept (cs := [.int .i64 kA, .int .i64 loA, .int .i64 hiA, .slice anA nnA cnA, .slice apA npA cpA, .slice arA nrA crA]) b1 h rfl, blk_kept (cs := [.int .i64 kA, .int .i64 loA, .int .i64 hiA, .slice anA nnA cnA, .slice apA npA cpA, .slice arA nrA crA]) b1 h rfl, blk_kept (cs := [.int .i64 kA, .int .i64 loA, .int .i64 hiA, .slice anA nnA cnA, .slice apA npA cpA, .slice arA nrA crA]) b1 h rfl, blk_kept (cs := [.int .i64 kA, .int .i64 loA, .int .i64 hiA, .slice anA nnA cnA, .slice apA npA cpA, .slice arA nrA crA]) b1 h rfl, blk_kept (cs := [.int .i64 kA, .int .i64 loA, .int .i64 hiA, .slice anA nnA cnA, .slice apA npA cpA, .slice arA nrA crA]) b1 h rfl, blk_kept (cs := [.int .i64 kA, .int .i64 loA, .int .i64 hiA, .slice anA nnA cnA, .slice apA npA cpA, .slice arA nrA crA]) b1 h rfl, blk_kept (cs := [.int .i64 kB, .int .i64 loB, .int .i64 hiB, .slice anB nnB cnB, .slice apB npB cpB, .slice arB nrB crB]) b2 h rfl, blk_kept (cs := [.int .i64 kB, .int .i64 loB, .int .i64 hiB, .slice anB nnB cnB, .slice apB npB cpB, .slice arB nrB crB]) b2 h rfl, blk_kept (cs := [.int .i64 kB, .int .i64 loB, .int .i64 hiB, .slice anB nnB cnB, .slice apB npB cpB, .slice arB nrB crB]) b2 h rfl, blk_kept (cs := [.int .i64 kB, .int .i64 loB, .int .i64 hiB, .slice anB nnB cnB, .slice apB npB cpB, .slice arB nrB crB]) b2 h rfl, blk_kept (cs := [.int .i64 kB, .int .i64 loB, .int .i64 hiB, .slice anB nnB cnB, .slice apB npB cpB, .slice arB nrB crB]) b2 h rfl, blk_kept (cs := [.int .i64 kB, .int .i64 loB, .int .i64 hiB, .slice anB nnB cnB, .slice apB npB cpB, .slice arB nrB crB]) b2 h rfl⟩
theorem ext_to {α : Type} {l m : List α} {n : Nat} (h1 : n = l.length) (h2 : n = m.length) (h : ∀ j, j < n → l[j]? = m[j]?) : l = m := by
  refine List.ext_getElem? fun j => ?_
  by_cases hj : j < n
  · exact h j hj
  · rw [List.getElem?_eq_none (by omega), List.getElem?_eq_none (by omega)]
set_option maxRecDepth 100000 in
set_option maxHeartbeats 6400000 in
theorem requal_any : ∀ (t u : Lat) (kA loA hiA : Int) (anA : Option Addr) (nnA cnA : Nat) (apA : Option Addr) (npA cpA : Nat) (arA : Option Addr) (nrA crA : Nat) (kB loB hiB : Int) (anB : Option Addr) (nnB cnB : Nat) (apB : Option Addr) (npB cpB : Nat) (arB : Option Addr) (nrB crB : Nat) (w : World), LO w kA loA hiA anA nnA cnA apA npA cpA arA nrA crA t → LO w kB loB hiB anB nnB cnB apB npB cpB arB nrB crB u → Calls Try.prog 11 #[.agg #[.int .i64 kA, .int .i64 loA, .int .i64 hiA, .slice anA nnA cnA, .slice apA npA cpA, .slice arA nrA crA], .agg #[.int .i64 kB, .int .i64 loB, .int .i64 hiB, .slice anB nnB cnB, .slice apB npB cpB, .slice arB nrB crB]] w (BoP (decide (t = u)) w) := by
  refine lat_ind ?_
  intro k' lo' hi' ns' ps' rs' ih u kA loA hiA anA nnA cnA apA npA cpA arA nrA crA kB loB hiB anB nnB cnB apB npB cpB arB nrB crB w H1 H2
  obtain rfl : kA = k' := H1.hk
  obtain rfl : loA = lo' := H1.hlo
  obtain rfl : hiA = hi' := H1.hhi
  obtain ⟨r, hr⟩ : ∃ r, r = decide (Lat.mk kA loA hiA ns' ps' rs' = u) := ⟨_, rfl⟩
  have hr0 := hr
  rw [lat_eq, ← H2.hk, ← H2.hlo, ← H2.hhi] at hr
  rw [← hr0]
  have HR := hid_of hr
  have HBB := hid_of (((Below.refl w.heap.size w).alloc (Nat.le_refl _) (.cells #[.int .i64 kA, .int .i64 loA, .int .i64 hiA, .slice anA nnA cnA, .slice apA npA cpA, .slice arA nrA crA] 26)).alloc (by simp) (.cells #[.int .i64 kB, .int .i64 loB, .int .i64 hiB, .slice anB nnB cnB, .slice apB npB cpB, .slice arB nrB crB] 26))
  have HC := hid_of (fun (w' : World) (h : Below ((w.alloc (.cells #[.int .i64 kA, .int .i64 loA, .int .i64 hiA, .slice anA nnA cnA, .slice apA npA cpA, .slice arA nrA crA] 26)).alloc (.cells #[.int .i64 kB, .int .i64 loB, .int .i64 hiB, .slice anB nnB cnB, .slice apB npB cpB, .slice arB nrB crB] 26)).heap.size ((w.alloc (.cells #[.int .i64 kA, .int .i64 loA, .int .i64 hiA, .slice anA nnA cnA, .slice apA npA cpA, .slice arA nrA crA] 26)).alloc (.cells #[.int .i64 kB, .int .i64 loB, .int .i64 hiB, .slice anB nnB cnB, .slice apB npB cpB, .slice arB nrB crB] 26)) w') => two_box kA loA hiA anA nnA cnA apA npA cpA arA nrA crA kB loB hiB anB nnB cnB apB npB cpB arB nrB crB h)
  have CN := hid_of (fun (wz : World) (hz : Below w.heap.size w wz) => rnames_any ns' u.ns anA anB nnA nnB cnA cnB wz (H1.n.at hz) (H2.n.at hz))
  have L1p := H1.p.len
  have L2p := H2.p.len
  have L1r := H1.r.len
  have L2r := H2.r.len
  have hpA : npA ≤ 9223372036854775807 := by omega
  have hpB : npB ≤ 9223372036854775807 := by omega
  have hrA : nrA ≤ 9223372036854775807 := by omega
  have hrB : nrB ≤ 9223372036854775807 := by omega
  have X1 := hid_of H1
  have X2 := hid_of H2
  have IH := hid_of ih
  obtain ⟨qn, hqn⟩ : ∃ q, q = decide (ns' = u.ns) := ⟨_, rfl⟩
  rw [← hqn] at CN
  have HQN := hid_of hqn
  have HL : Hid (npA = ps'.length ∧ npB = u.ps.length ∧ nrA = rs'.length ∧ nrB = u.rs.length) := hid_of ⟨L1p.1, L2p.1, L1r.1, L2r.1⟩
  clear hr hr0 H1 H2 ih hqn L1p L2p L1r L2r
  by_cases hk : kA = kB
  case neg =>
    have RF : Hid (false = r) := hid_of (by rw [HR.out, decide_eq_false hk]; rfl)
    have e1 : (kA == kB) = false := beq_eq_false_iff_ne.2 hk
    have e1' : (kA != kB) = true := bne_iff_ne.2 hk
    clear hk
    go_enter Try.func11, Try.ntmps11
    go_wp2
    go_ret
    exact ⟨ret_b RF.out, HBB.out⟩
  by_cases hlo : loA = loB
  case neg =>
    have RF : Hid (false = r) := hid_of (by rw [HR.out, decide_eq_false hlo]; simp)
    have e1 : (kA == kB) = true := beq_iff_eq.2 hk
    have e1' : (kA != kB) = false := by simp [hk]
    have e2 : (loA == loB) = false := beq_eq_false_iff_ne.2 hlo
    have e2' : (loA != loB) = true := bne_iff_ne.2 hlo
    clear hk hlo
    go_enter Try.func11, Try.ntmps11
    go_wp2
    go_ret
    exact ⟨ret_b RF.out, HBB.out⟩
  by_cases hhi : hiA = hiB
  case neg =>
    have RF : Hid (false = r) := hid_of (by rw [HR.out, decide_eq_false hhi]; simp)
    have e1 : (kA == kB) = true := beq_iff_eq.2 hk
    have e1' : (kA != kB) = false := by simp [hk]
    have e2 : (loA == loB) = true := beq_iff_eq.2 hlo
    have e2' : (loA != loB) = false := by simp [hlo]
    have e3 : (hiA == hiB) = false := beq_eq_false_iff_ne.2 hhi
    have e3' : (hiA != hiB) = true := bne_iff_ne.2 hhi
    clear hk hlo hhi
    go_enter Try.func11, Try.ntmps11
    go_wp2
    go_ret
    exact ⟨ret_b RF.out, HBB.out⟩
  have e1 : (kA == kB) = true := beq_iff_eq.2 hk
  have e1' : (kA != kB) = false := by simp [hk]
  have e2 : (loA == loB) = true := beq_iff_eq.2 hlo
  have e2' : (loA != loB) = false := by simp [hlo]
  have e3 : (hiA == hiB) = true := beq_iff_eq.2 hhi
  have e3' : (hiA != hiB) = false := by simp [hhi]
  have HR2 : Hid (r = (qn && decide (ps' = u.ps) && decide (rs' = u.rs))) := hid_of (by rw [HR.out, decide_eq_true hk, decide_eq_true hlo, decide_eq_true hhi, HQN.out]; rfl)
  clear hk hlo hhi HR
  cases qn
  · have RF : Hid (false = r) := hid_of (by rw [HR2.out]; rfl)
    go_enter Try.func11, Try.ntmps11
    go_wp2_with (go_at_call 30; ((with_reducible refine (CN.out _ HBB.out).mono ?_); (rintro e w2 ⟨rfl, h2⟩)); (have K2 := hid_of h2); (obtain ⟨a0, a1, a2, a3, a4, a5, b0, b1, b2, b3, b4, b5⟩ := HC.out w2 h2); clear h2)
    go_ret
    exact ⟨ret_b RF.out, HBB.out.trans (K2.out.mono HBB.out.size)⟩
  by_cases hp : npA = npB
  case neg =>
    have RF : Hid (false = r) := hid_of (by rw [HR2.out, decide_eq_false (p := ps' = u.ps) (fun h => hp (by rw [HL.out.1, HL.out.2.1, h]))]; rfl)
    have f1 : (npA == npB) = false := beq_eq_false_iff_ne.2 hp
    have f2 : ((npA : Int) == (npB : Int)) = false := beq_eq_false_iff_ne.2 (by omega)
    have f3 : ((npA : Int) != (npB : Int)) = true := bne_iff_ne.2 (by omega)
    clear hp
    go_enter Try.func11, Try.ntmps11
    go_wp2_with (go_at_call 30; ((with_reducible refine (CN.out _ HBB.out).mono ?_); (rintro e w2 ⟨rfl, h2⟩)); (have K2 := hid_of h2); (obtain ⟨a0, a1, a2, a3, a4, a5, b0, b1, b2, b3, b4, b5⟩ := HC.out w2 h2); clear h2)
    go_ret
    exact ⟨ret_b RF.out, HBB.out.trans (K2.out.mono HBB.out.size)⟩
  by_cases hrr : nrA = nrB
  case neg =>
    subst hp
    have RF : Hid (false = r) := hid_of (by rw [HR2.out, decide_eq_false (p := rs' = u.rs) (fun h => hrr (by rw [HL.out.2.2.1, HL.out.2.2.2, h])), Bool.and_false])
    have f1 : (nrA == nrB) = false := beq_eq_false_iff_ne.2 hrr
    have f2 : ((nrA : Int) == (nrB : Int)) = false := beq_eq_false_iff_ne.2 (by omega)
    have f3 : ((nrA : Int) != (nrB : Int)) = true := bne_iff_ne.2 (by omega)
    clear hrr
    go_enter Try.func11, Try.ntmps11
    go_wp2_with (go_at_call 30; ((with_reducible refine (CN.out _ HBB.out).mono ?_); (rintro e w2 ⟨rfl, h2⟩)); (have K2 := hid_of h2); (obtain ⟨a0, a1, a2, a3, a4, a5, b0, b1, b2, b3, b4, b5⟩ := HC.out w2 h2); clear h2)
    go_ret
    exact ⟨ret_b RF.out, HBB.out.trans (K2.out.mono HBB.out.size)⟩
  subst hp hrr
  go_enter Try.func11, Try.ntmps11
  go_wp2_with (go_at_call 30; ((with_reducible refine (CN.out _ HBB.out).mono ?_); (rintro e w2 ⟨rfl, h2⟩)); (have K2 := hid_of h2); (obtain ⟨a0, a1, a2, a3, a4, a5, b0, b1, b2, b3, b4, b5⟩ := HC.out w2 h2); clear h2)
  obtain ⟨WW, hWW⟩ : ∃ WW, WW = ((w.alloc (.cells #[.int .i64 kA, .int .i64 loA, .int .i64 hiA, .slice anA nnA cnA, .slice apA npA cpA, .slice arA nrA crA] 26)).alloc (.cells #[.int .i64 kB, .int .i64 loB, .int .i64 hiB, .slice anB nnB cnB, .slice apB npA cpB, .slice arB nrA crB] 26)) := ⟨_, rfl⟩
  rw [← hWW] at K2 HC HBB
  clear hWW
  clear a0 a1 a2 a3 a4 a5 b0 b1 b2 b3 b4 b5
  go_loopw [5] (fun iv wr => ∃ i : Nat, iv = .int .i64 i ∧ i ≤ nrA ∧ Hid (∀ j, j < i → rs'[j]? = u.rs[j]?) ∧ Hid (Below WW.heap.size WW wr)) (fun iv _ => nrA - (intOf iv).toNat)
  case atStart => exact ⟨0, rfl, Nat.zero_le _, hid_of (fun j h => absurd h (Nat.not_lt_zero j)), K2⟩
  case round =>
    clear K2
    obtain ⟨i, rfl, hi, HM, hb⟩ := hrel
    obtain ⟨a0, a1, a2, a3, a4, a5, b0, b1, b2, b3, b4, b5⟩ := HC.out wr hb.out
    by_cases hlt : i < nrA
    · have d1 : decide (i < nrA) = true := decide_eq_true hlt
      have hlt' : (i : Int) < (nrA : Int) := by omega
      have HLT := hid_of hlt
      have hl : i < rs'.length := by have := HL.out; omega
      have hm : i < u.rs.length := by have := HL.out; omega
      obtain ⟨g, o, aX, kX, dX, rfl, RX, hcX⟩ := X1.out.r.get (List.getElem?_eq_getElem hl)
      obtain ⟨g2, o2, aY, kY, dY, rfl, RY, hcY⟩ := X2.out.r.get (List.getElem?_eq_getElem hm)
      have hbw : Below w.heap.size w wr := HBB.out.trans (hb.out.mono HBB.out.size)
      obtain ⟨c0, c1⟩ := hcX wr hbw
      obtain ⟨d0, d2⟩ := hcY wr hbw
      obtain ⟨bx, hx⟩ : ∃ bx, bx = ba rs'[i].2 := ⟨_, rfl⟩
      obtain ⟨bz, hz⟩ : ∃ bz, bz = ba u.rs[i].2 := ⟨_, rfl⟩
      rw [← hx] at c1
      rw [← hz] at d2
      have RQ : Hid (∀ m, Calls Try.prog 30 #[.slice aX kX dX, .slice aY kY dY] (wr.drewN m) fun e w' => e = .returned (.bool (decide (rs'[i].1 = u.rs[i].1))) ∧ ∃ m', w' = (wr.drewN m).drewN m') := hid_of (fun m => rnames_q _ _ aX aY kX kY dX dY _ (RX.at (bel_drewN hbw m)) (RY.at (bel_drewN hbw m)))
      obtain ⟨q, hq⟩ : ∃ q, q = decide (rs'[i].1 = u.rs[i].1) := ⟨_, rfl⟩
      rw [← hq] at RQ
      have HLX := hid_of hl
      have HMX := hid_of hm
      by_cases he : rs'[i].2 = u.rs[i].2
      case neg =>
        have et := eq_f hx hz he
        have RF : Hid (false = r) := hid_of (by
          rw [HR2.out, decide_eq_false (p := rs' = u.rs) (fun h => he (by subst h; rfl)), Bool.and_false])
        clear hlt hl hm hcX hcY hx hz he hq hbw RX RY
        go_wp2
        go_quiet (fail)
        go_wp2
        go_ret
        exact ⟨ret_b RF.out, HBB.out.trans ((bel_drewN hb.out nq).mono HBB.out.size)⟩
      have et := eq_t hx hz he
      cases q
      · have RF : Hid (false = r) := hid_of (by
          rw [HR2.out, decide_eq_false (p := rs' = u.rs) (fun h => of_decide_eq_false hq.symm (by subst h; rfl)), Bool.and_false])
        clear hlt hl hm hcX hcY hx hz he hq hbw RX RY
        go_wp2
        go_quiet ((go_at_call 30; exact Calls.quiet_of (RQ.out _)))
        go_wp2
        go_ret
        exact ⟨ret_b RF.out, HBB.out.trans ((bel_drewN hb.out nq).mono HBB.out.size)⟩
      · have HE : Hid (∀ j, j < i + 1 → rs'[j]? = u.rs[j]?) := hid_of (fun j hj => by
          by_cases e : j = i
          · subst e
            rw [List.getElem?_eq_getElem hl, List.getElem?_eq_getElem hm]
            exact congrArg some (Prod.ext (of_decide_eq_true hq.symm) he)
          · exact HM.out j (by omega))
        clear hlt hl hm hcX hcY hx hz he hq hbw RX RY
        go_wp2
        go_quiet ((go_at_call 30; exact Calls.quiet_of (RQ.out _)))
        go_wp2
        go_roundw
        case rel => exact ⟨i + 1, by go_num, HLT.out, HE, hid_of (bel_drewN hb.out nq)⟩
        case measure => have := HLT.out; simp [intOf]; omega
    · have d1 : decide (i < nrA) = false := decide_eq_false hlt
      have HRE : Hid (rs' = u.rs) := hid_of (ext_to HL.out.2.2.1 HL.out.2.2.2 (fun j hj => HM.out j (by omega)))
      have HR3 : Hid (r = decide (ps' = u.ps)) := hid_of (by rw [HR2.out, decide_eq_true HRE.out]; simp)
      have HB0 := hb
      clear hlt hi HM
      go_wp2
      clear a0 a1 a2 a3 a4 a5 b0 b1 b2 b3 b4 b5
      go_loopw [6] (fun iv w5 => ∃ i : Nat, iv = .int .i64 i ∧ i ≤ npA ∧ Hid (∀ j, j < i → ps'[j]? = u.ps[j]?) ∧ Hid (Below WW.heap.size WW w5)) (fun iv _ => npA - (intOf iv).toNat)
      case atStart => exact ⟨0, rfl, Nat.zero_le _, hid_of (fun j h => absurd h (Nat.not_lt_zero j)), HB0⟩
      case round =>
        clear HB0 hb d1
        obtain ⟨i, rfl, hin, HM, hb⟩ := hrel
        obtain ⟨a0, a1, a2, a3, a4, a5, b0, b1, b2, b3, b4, b5⟩ := HC.out wr hb.out
        by_cases hlt : i < npA
        · have d1 : decide (i < npA) = true := decide_eq_true hlt
          have hlt' : (i : Int) < (npA : Int) := by omega
          have HLT := hid_of hlt
          have hl : i < ps'.length := by have := HL.out; omega
          have hm : i < u.ps.length := by have := HL.out; omega
          obtain ⟨g, o, kX, loX, hiX, anX, nnX, cnX, apX, npX, cpX, arX, nrX, crX, rfl, LX, hcX⟩ := X1.out.p.get (List.getElem?_eq_getElem hl)
          obtain ⟨g2, o2, kY, loY, hiY, anY, nnY, cnY, apY, npY, cpY, arY, nrY, crY, rfl, LY, hcY⟩ := X2.out.p.get (List.getElem?_eq_getElem hm)
          have hbw : Below w.heap.size w wr := HBB.out.trans (hb.out.mono HBB.out.size)
          have HX : Hid (∀ wz, Below w.heap.size w wz → _) := hid_of hcX
          have HY : Hid (∀ wz, Below w.heap.size w wz → _) := hid_of hcY
          obtain ⟨c0, c1, c2, c3, c4, c5⟩ := hcX wr hbw
          obtain ⟨d0, d2, d3, d4, d5, d6⟩ := hcY wr hbw
          have CALL := hid_of (fun (wz : World) (hz : Below w.heap.size w wz) => IH.out ps'[i] (List.getElem_mem hl) u.ps[i] kX loX hiX anX nnX cnX apX npX cpX arX nrX crX kY loY hiY anY nnY cnY apY npY cpY arY nrY crY wz (LX.at hz) (LY.at hz))
          obtain ⟨q, hq⟩ : ∃ q, q = decide (ps'[i] = u.ps[i]) := ⟨_, rfl⟩
          rw [← hq] at CALL
          have HBW5 := hid_of hbw
          cases q
          · have RF : Hid (false = r) := hid_of (by
              rw [HR3.out, decide_eq_false (p := ps' = u.ps) (fun h => of_decide_eq_false hq.symm (by subst h; rfl))])
            clear hlt hl hm hcX hcY hq hbw LX LY
            go_wp2
            have cs0 := And.intro a4 (And.intro b4 (And.intro c0 (And.intro c1 (And.intro c2 (And.intro c3 (And.intro c4 (And.intro c5 (And.intro d0 (And.intro d2 (And.intro d3 (And.intro d4 (And.intro d5 d6))))))))))))
            go_region_held3 (fun wz => wz.cell? ⟨w.heap.size, 4, none⟩ = some (.slice (some ⟨g, o, none⟩) npA cpA) ∧ wz.cell? ⟨w.heap.size + 1, 4, none⟩ = some (.slice (some ⟨g2, o2, none⟩) npA cpB) ∧ wz.cell? ⟨g, o + i * 6, none⟩ = some (.int .i64 kX) ∧ wz.cell? ⟨g, o + i * 6 + 1, none⟩ = some (.int .i64 loX) ∧ wz.cell? ⟨g, o + i * 6 + 2, none⟩ = some (.int .i64 hiX) ∧ wz.cell? ⟨g, o + i * 6 + 3, none⟩ = some (.slice anX nnX cnX) ∧ wz.cell? ⟨g, o + i * 6 + 4, none⟩ = some (.slice apX npX cpX) ∧ wz.cell? ⟨g, o + i * 6 + 5, none⟩ = some (.slice arX nrX crX) ∧ wz.cell? ⟨g2, o2 + i * 6, none⟩ = some (.int .i64 kY) ∧ wz.cell? ⟨g2, o2 + i * 6 + 1, none⟩ = some (.int .i64 loY) ∧ wz.cell? ⟨g2, o2 + i * 6 + 2, none⟩ = some (.int .i64 hiY) ∧ wz.cell? ⟨g2, o2 + i * 6 + 3, none⟩ = some (.slice anY nnY cnY) ∧ wz.cell? ⟨g2, o2 + i * 6 + 4, none⟩ = some (.slice apY npY cpY) ∧ wz.cell? ⟨g2, o2 + i * 6 + 5, none⟩ = some (.slice arY nrY crY)) (first | exact cs0 | exact cs6 | go_keep) ((go_at_call 11; ((with_reducible refine (CALL.out _ HBW5.out.drew).mono ?_); (rintro e w6 ⟨rfl, h6⟩); (have H6 := hid_of (hb.out.trans ((undrew h6).mono hb.out.size))); (have G6 := hid_of (HBW5.out.trans ((undrew h6).mono HBW5.out.size))); (obtain ⟨_, _, _, _, z4, _, _, _, _, _, z10, _⟩ := HC.out w6 H6.out); (obtain ⟨x0, x1, x2, x3, x4, x5⟩ := HX.out w6 G6.out); (obtain ⟨y0, y1, y2, y3, y4, y5⟩ := HY.out w6 G6.out); (have cs6 := And.intro z4 (And.intro z10 (And.intro x0 (And.intro x1 (And.intro x2 (And.intro x3 (And.intro x4 (And.intro x5 (And.intro y0 (And.intro y1 (And.intro y2 (And.intro y3 (And.intro y4 y5))))))))))))); clear h6)))
            all_goals go_wp2
            all_goals go_ret
            all_goals exact ⟨ret_b RF.out, HBB.out.trans (H6.out.mono HBB.out.size)⟩
          · have HE : Hid (∀ j, j < i + 1 → ps'[j]? = u.ps[j]?) := hid_of (fun j hj => by
              by_cases e : j = i
              · subst e
                rw [List.getElem?_eq_getElem hl, List.getElem?_eq_getElem hm]
                exact congrArg some (of_decide_eq_true hq.symm)
              · exact HM.out j (by omega))
            clear hlt hl hm hcX hcY hq hbw LX LY
            go_wp2
            have cs0 := And.intro a4 (And.intro b4 (And.intro c0 (And.intro c1 (And.intro c2 (And.intro c3 (And.intro c4 (And.intro c5 (And.intro d0 (And.intro d2 (And.intro d3 (And.intro d4 (And.intro d5 d6))))))))))))
            go_region_held3 (fun wz => wz.cell? ⟨w.heap.size, 4, none⟩ = some (.slice (some ⟨g, o, none⟩) npA cpA) ∧ wz.cell? ⟨w.heap.size + 1, 4, none⟩ = some (.slice (some ⟨g2, o2, none⟩) npA cpB) ∧ wz.cell? ⟨g, o + i * 6, none⟩ = some (.int .i64 kX) ∧ wz.cell? ⟨g, o + i * 6 + 1, none⟩ = some (.int .i64 loX) ∧ wz.cell? ⟨g, o + i * 6 + 2, none⟩ = some (.int .i64 hiX) ∧ wz.cell? ⟨g, o + i * 6 + 3, none⟩ = some (.slice anX nnX cnX) ∧ wz.cell? ⟨g, o + i * 6 + 4, none⟩ = some (.slice apX npX cpX) ∧ wz.cell? ⟨g, o + i * 6 + 5, none⟩ = some (.slice arX nrX crX) ∧ wz.cell? ⟨g2, o2 + i * 6, none⟩ = some (.int .i64 kY) ∧ wz.cell? ⟨g2, o2 + i * 6 + 1, none⟩ = some (.int .i64 loY) ∧ wz.cell? ⟨g2, o2 + i * 6 + 2, none⟩ = some (.int .i64 hiY) ∧ wz.cell? ⟨g2, o2 + i * 6 + 3, none⟩ = some (.slice anY nnY cnY) ∧ wz.cell? ⟨g2, o2 + i * 6 + 4, none⟩ = some (.slice apY npY cpY) ∧ wz.cell? ⟨g2, o2 + i * 6 + 5, none⟩ = some (.slice arY nrY crY)) (first | exact cs0 | exact cs6 | go_keep) ((go_at_call 11; ((with_reducible refine (CALL.out _ HBW5.out.drew).mono ?_); (rintro e w6 ⟨rfl, h6⟩); (have H6 := hid_of (hb.out.trans ((undrew h6).mono hb.out.size))); (have G6 := hid_of (HBW5.out.trans ((undrew h6).mono HBW5.out.size))); (obtain ⟨_, _, _, _, z4, _, _, _, _, _, z10, _⟩ := HC.out w6 H6.out); (obtain ⟨x0, x1, x2, x3, x4, x5⟩ := HX.out w6 G6.out); (obtain ⟨y0, y1, y2, y3, y4, y5⟩ := HY.out w6 G6.out); (have cs6 := And.intro z4 (And.intro z10 (And.intro x0 (And.intro x1 (And.intro x2 (And.intro x3 (And.intro x4 (And.intro x5 (And.intro y0 (And.intro y1 (And.intro y2 (And.intro y3 (And.intro y4 y5))))))))))))); clear h6)))
            all_goals go_wp2
            go_roundw
            case rel => exact ⟨i + 1, by go_num, HLT.out, HE, H6⟩
            case measure => have := HLT.out; simp [intOf]; omega
        · have d1 : decide (i < npA) = false := decide_eq_false hlt
          have RT : Hid (true = r) := hid_of (by
            rw [HR3.out]
            exact (decide_eq_true (ext_to HL.out.1 HL.out.2.1 (fun j hj => HM.out j (by omega)))).symm)
          clear hlt
          go_wp2
          go_ret
          exact ⟨ret_b RT.out, HBB.out.trans (hb.out.mono HBB.out.size)⟩
end Go.Proofs.Ytoogcafceghdjaa
