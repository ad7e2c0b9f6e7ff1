/- Whether two rows of strings are the same: slices.Equal, and the reference's names. Bounds on sizes alone. -/
import Derived.Test.YtoogcafceghdjaaLatFin
namespace Go.Proofs.Ytoogcafceghdjaa
open Go.RowKit

set_option maxRecDepth 100000 in
set_option maxHeartbeats 3200000 in
theorem seqs_any (l m : List Str) (ao bo : Option Addr) (n n2 cap cap2 : Nat) (w : World) (R1 : Rd w (.slice ao n cap) (ss l)) (R2 : Rd w (.slice bo n2 cap2) (ss m)) :
    Calls Try.prog 35 #[.slice ao n cap, .slice bo n2 cap2] w (BoP (decide (l = m)) w) := by
  obtain ⟨hn, _, hcap, h3⟩ := rds_open R1
  obtain ⟨hn2, _, hcap2, k3⟩ := rds_open R2
  obtain ⟨r, hr⟩ : ∃ r, r = decide (l = m) := ⟨_, rfl⟩
  rw [← hr]
  have HR := hid_of hr
  clear hr R1 R2
  by_cases hnn : n = n2
  case neg =>
    have RF : Hid (false = r) := hid_of (by rw [HR.out]; exact (decide_eq_false (fun h => hnn (by rw [hn, hn2, h]))).symm)
    have e1 : (n == n2) = false := beq_eq_false_iff_ne.2 hnn
    have e2 : ((n : Int) == (n2 : Int)) = false := beq_eq_false_iff_ne.2 (by omega)
    have e3 : ((n : Int) != (n2 : Int)) = true := bne_iff_ne.2 (by omega)
    clear hnn hn hn2 h3 k3
    go_enter Try.func35, Try.ntmps35
    go_wp2
    go_ret
    exact ⟨ret_b RF.out, Below.refl _ _⟩
  subst hnn
  have HN := hid_of hn
  have HN2 := hid_of hn2
  have H3 := hid_of h3
  have K3 := hid_of k3
  clear hn hn2 h3 k3
  go_enter Try.func35, Try.ntmps35
  go_wp2
  go_loopw [13] (fun iv wr => ∃ i : Nat, iv = .int .i64 i ∧ i ≤ n ∧ Hid (∀ j, j < i → l[j]? = m[j]?) ∧ Hid (Below w.heap.size w wr)) (fun iv _ => n - (intOf iv).toNat)
  case atStart => exact ⟨0, rfl, Nat.zero_le _, hid_of (fun j h => absurd h (Nat.not_lt_zero j)), hid_of (Below.refl _ _)⟩
  case round =>
    obtain ⟨i, rfl, hi, HM, hb⟩ := hrel
    by_cases hlt : i < n
    · have d1 : decide (i < n) = true := decide_eq_true hlt
      have hlt' : (i : Int) < (n : Int) := by omega
      have HLT := hid_of hlt
      have hl : i < l.length := by have := HN.out; omega
      have hm : i < m.length := by have := HN2.out; omega
      rcases H3.out with h3 | ⟨g, o, rfl, hg, hc⟩
      · exfalso; rw [h3] at hl; simp at hl
      rcases K3.out with k3 | ⟨g2, o2, rfl, hg2, hc2⟩
      · exfalso; rw [k3] at hm; simp at hm
      have c1 := (hb.out.cell (p := ⟨g, o + i, none⟩) hg).trans (hc i _ (List.getElem?_eq_getElem hl))
      have c2 := (hb.out.cell (p := ⟨g2, o2 + i, none⟩) hg2).trans (hc2 i _ (List.getElem?_eq_getElem hm))
      obtain ⟨bx, hx⟩ : ∃ bx, bx = ba l[i] := ⟨_, rfl⟩
      obtain ⟨by', hy⟩ : ∃ by', by' = ba m[i] := ⟨_, rfl⟩
      rw [← hx] at c1
      rw [← hy] at c2
      by_cases he : l[i] = m[i]
      · have et := eq_t hx hy he
        have HE : Hid (∀ j, j < i + 1 → l[j]? = m[j]?) := hid_of (fun j hj => by
          by_cases e : j = i
          · subst e; rw [List.getElem?_eq_getElem hl, List.getElem?_eq_getElem hm, he]
          · exact HM.out j (by omega))
        clear hlt hc hc2 hx hy he hl hm H3 K3 hg hg2 HM
        go_wp2
        go_quiet (fail)
        go_wp2
        go_roundw
        case rel => exact ⟨i + 1, by go_num, HLT.out, HE, hid_of (bel_drewN hb.out _)⟩
        case measure => have := HLT.out; simp [intOf]; omega
      · have et := eq_f hx hy he
        have RF : Hid (false = r) := hid_of (by
          rw [HR.out]
          refine (decide_eq_false fun h => he ?_).symm
          subst h; rfl)
        clear hlt hc hc2 hx hy he hl hm H3 K3 hg hg2 HM
        go_wp2
        go_quiet (fail)
        go_wp2
        go_ret
        exact ⟨ret_b RF.out, bel_drewN hb.out _⟩
    · have d1 : decide (i < n) = false := decide_eq_false hlt
      have RT : Hid (true = r) := hid_of (by
        rw [HR.out]
        refine (decide_eq_true ?_).symm
        refine List.ext_getElem? fun j => ?_
        by_cases hj : j < n
        · exact HM.out j (by omega)
        · rw [List.getElem?_eq_none (by have := HN.out; omega), List.getElem?_eq_none (by have := HN2.out; omega)])
      go_wp2
      go_ret
      exact ⟨ret_b RT.out, hb.out⟩

set_option maxRecDepth 100000 in
set_option maxHeartbeats 3200000 in
theorem rnames_any (l m : List Str) (ao bo : Option Addr) (n n2 cap cap2 : Nat) (w : World) (R1 : Rd w (.slice ao n cap) (ss l)) (R2 : Rd w (.slice bo n2 cap2) (ss m)) :
    Calls Try.prog 30 #[.slice ao n cap, .slice bo n2 cap2] w (BoP (decide (l = m)) w) := by
  obtain ⟨hn, _, hcap, h3⟩ := rds_open R1
  obtain ⟨hn2, _, hcap2, k3⟩ := rds_open R2
  obtain ⟨r, hr⟩ : ∃ r, r = decide (l = m) := ⟨_, rfl⟩
  rw [← hr]
  have HR := hid_of hr
  clear hr R1 R2
  by_cases hnn : n = n2
  case neg =>
    have RF : Hid (false = r) := hid_of (by rw [HR.out]; exact (decide_eq_false (fun h => hnn (by rw [hn, hn2, h]))).symm)
    have e1 : (n == n2) = false := beq_eq_false_iff_ne.2 hnn
    have e2 : ((n : Int) == (n2 : Int)) = false := beq_eq_false_iff_ne.2 (by omega)
    have e3 : ((n : Int) != (n2 : Int)) = true := bne_iff_ne.2 (by omega)
    clear hnn hn hn2 h3 k3
    go_enter Try.func30, Try.ntmps30
    go_wp2
    go_ret
    exact ⟨ret_b RF.out, Below.refl _ _⟩
  subst hnn
  have HN := hid_of hn
  have HN2 := hid_of hn2
  have H3 := hid_of h3
  have K3 := hid_of k3
  clear hn hn2 h3 k3
  go_enter Try.func30, Try.ntmps30
  go_wp2
  go_loopw [5] (fun iv wr => ∃ i : Nat, iv = .int .i64 i ∧ i ≤ n ∧ Hid (∀ j, j < i → l[j]? = m[j]?) ∧ Hid (Below w.heap.size w wr)) (fun iv _ => n - (intOf iv).toNat)
  case atStart => exact ⟨0, rfl, Nat.zero_le _, hid_of (fun j h => absurd h (Nat.not_lt_zero j)), hid_of (Below.refl _ _)⟩
  case round =>
    obtain ⟨i, rfl, hi, HM, hb⟩ := hrel
    by_cases hlt : i < n
    · have d1 : decide (i < n) = true := decide_eq_true hlt
      have hlt' : (i : Int) < (n : Int) := by omega
      have HLT := hid_of hlt
      have hl : i < l.length := by have := HN.out; omega
      have hm : i < m.length := by have := HN2.out; omega
      rcases H3.out with h3 | ⟨g, o, rfl, hg, hc⟩
      · exfalso; rw [h3] at hl; simp at hl
      rcases K3.out with k3 | ⟨g2, o2, rfl, hg2, hc2⟩
      · exfalso; rw [k3] at hm; simp at hm
      have c1 := (hb.out.cell (p := ⟨g, o + i, none⟩) hg).trans (hc i _ (List.getElem?_eq_getElem hl))
      have c2 := (hb.out.cell (p := ⟨g2, o2 + i, none⟩) hg2).trans (hc2 i _ (List.getElem?_eq_getElem hm))
      obtain ⟨bx, hx⟩ : ∃ bx, bx = ba l[i] := ⟨_, rfl⟩
      obtain ⟨by', hy⟩ : ∃ by', by' = ba m[i] := ⟨_, rfl⟩
      rw [← hx] at c1
      rw [← hy] at c2
      by_cases he : l[i] = m[i]
      · have et := eq_t hx hy he
        have HE : Hid (∀ j, j < i + 1 → l[j]? = m[j]?) := hid_of (fun j hj => by
          by_cases e : j = i
          · subst e; rw [List.getElem?_eq_getElem hl, List.getElem?_eq_getElem hm, he]
          · exact HM.out j (by omega))
        clear hlt hc hc2 hx hy he hl hm H3 K3 hg hg2 HM
        go_wp2
        go_quiet (fail)
        go_wp2
        go_roundw
        case rel => exact ⟨i + 1, by go_num, HLT.out, HE, hid_of (bel_drewN hb.out _)⟩
        case measure => have := HLT.out; simp [intOf]; omega
      · have et := eq_f hx hy he
        have RF : Hid (false = r) := hid_of (by
          rw [HR.out]
          refine (decide_eq_false fun h => he ?_).symm
          subst h; rfl)
        clear hlt hc hc2 hx hy he hl hm H3 K3 hg hg2 HM
        go_wp2
        go_quiet (fail)
        go_wp2
        go_ret
        exact ⟨ret_b RF.out, bel_drewN hb.out _⟩
    · have d1 : decide (i < n) = false := decide_eq_false hlt
      have RT : Hid (true = r) := hid_of (by
        rw [HR.out]
        refine (decide_eq_true ?_).symm
        refine List.ext_getElem? fun j => ?_
        by_cases hj : j < n
        · exact HM.out j (by omega)
        · rw [List.getElem?_eq_none (by have := HN.out; omega), List.getElem?_eq_none (by have := HN2.out; omega)])
      go_wp2
      go_ret
      exact ⟨ret_b RT.out, hb.out⟩

end Go.Proofs.Ytoogcafceghdjaa
