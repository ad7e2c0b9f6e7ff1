/- Intersect, Minus, Subset and Compare of package names; Compare of the reference. Bounds on sizes alone. -/
import Derived.Test.YtpbjnbceloibnaaNamOpn
namespace Go.Proofs.Ytpbjnbceloibnaa
open Go.RowKit

def inter (a b : List Str) : List Str := chosen a b true
def diff (a b : List Str) : List Str := chosen a b false
theorem inter_mem {a b : List Str} (x : Str) : x ∈ inter a b ↔ x ∈ a ∧ x ∈ b := by unfold inter; rw [chosen_mem]; simp
theorem diff_mem {a b : List Str} (x : Str) : x ∈ diff a b ↔ x ∈ a ∧ x ∉ b := by unfold diff; rw [chosen_mem]; simp
theorem inter_le (a b : List Str) : (inter a b).length ≤ a.length := Nat.le_trans (List.length_filter_le _ _) (setOf_le a)
theorem diff_le (a b : List Str) : (diff a b).length ≤ a.length := Nat.le_trans (List.length_filter_le _ _) (setOf_le a)
set_option maxRecDepth 100000 in
theorem inter_any (ao : Option Addr) (n cap : Nat) (bo : Option Addr) (m cap2 : Nat) (a b : List Str) (w : World) (Ra : Rd w (.slice ao n cap) (ss a)) (Rb : Rd w (.slice bo m cap2) (ss b)) (ha : a.length ≤ big) (hb : b.length ≤ big) :
    Calls Try.prog 19 #[.slice ao n cap, .slice bo m cap2] w fun e w' => ∃ xo xc, e = .returned (.slice xo (inter a b).length xc) ∧ Ow 9 w.heap.size w w' (.slice xo (inter a b).length xc) (ss (inter a b)) := by
  have CH := hid_of (choose_any ao n cap bo m cap2 a b true w Ra Rb ha hb)
  rw [show chosen a b true = inter a b from rfl] at CH
  clear Ra Rb ha hb
  go_enter Try.func19, Try.ntmps19
  go_wp2_with (go_at_call 44; ((with_reducible refine (CH.out).mono ?_); (rintro ee w1 ⟨xo1, xc1, rfl, h1⟩; have O1 := hid_of h1; clear h1)))
  go_ret
  exact ⟨xo1, xc1, rfl, O1.out⟩
set_option maxRecDepth 100000 in
theorem minus_any (ao : Option Addr) (n cap : Nat) (bo : Option Addr) (m cap2 : Nat) (a b : List Str) (w : World) (Ra : Rd w (.slice ao n cap) (ss a)) (Rb : Rd w (.slice bo m cap2) (ss b)) (ha : a.length ≤ big) (hb : b.length ≤ big) :
    Calls Try.prog 20 #[.slice ao n cap, .slice bo m cap2] w fun e w' => ∃ xo xc, e = .returned (.slice xo (diff a b).length xc) ∧ Ow 9 w.heap.size w w' (.slice xo (diff a b).length xc) (ss (diff a b)) := by
  have CH := hid_of (choose_any ao n cap bo m cap2 a b false w Ra Rb ha hb)
  rw [show chosen a b false = diff a b from rfl] at CH
  clear Ra Rb ha hb
  go_enter Try.func20, Try.ntmps20
  go_wp2_with (go_at_call 44; ((with_reducible refine (CH.out).mono ?_); (rintro ee w1 ⟨xo1, xc1, rfl, h1⟩; have O1 := hid_of h1; clear h1)))
  go_ret
  exact ⟨xo1, xc1, rfl, O1.out⟩
def subB (a b : List Str) : Bool := a.all (fun x => decide (x ∈ b))
theorem subB_iff {a b : List Str} : subB a b = true ↔ ∀ x ∈ a, x ∈ b := by simp [subB]
theorem diff_zero {a b : List Str} : (diff a b).length = 0 ↔ subB a b = true := by
  rw [subB_iff]
  constructor
  · intro h x hx
    by_cases hb : x ∈ b
    · exact hb
    · have := (diff_mem x).2 ⟨hx, hb⟩
      rw [List.eq_nil_of_length_eq_zero h] at this; simp at this
  · intro h
    cases hd : diff a b with
    | nil => rfl
    | cons y l =>
      have := (diff_mem (a := a) (b := b) y).1 (by rw [hd]; simp)
      exact absurd (h y this.1) this.2
set_option maxRecDepth 100000 in
theorem subset_any (ao : Option Addr) (n cap : Nat) (bo : Option Addr) (m cap2 : Nat) (a b : List Str) (w : World) (Ra : Rd w (.slice ao n cap) (ss a)) (Rb : Rd w (.slice bo m cap2) (ss b)) (ha : a.length ≤ big) (hb : b.length ≤ big) :
    Calls Try.prog 26 #[.slice ao n cap, .slice bo m cap2] w fun e w' => e = .returned (.bool (subB a b)) ∧ Below w.heap.size w w' := by
  have CH := hid_of (minus_any ao n cap bo m cap2 a b w Ra Rb ha hb)
  have HZ := hid_of (diff_zero (a := a) (b := b))
  obtain ⟨d, hd⟩ : ∃ d, d = diff a b := ⟨_, rfl⟩
  rw [← hd] at CH HZ
  have HDD : Hid (d.length ≤ 1000000) := hid_of (by rw [hd]; have := diff_le a b; unfold big at ha; omega)
  obtain ⟨k, hk⟩ : ∃ k, k = d.length := ⟨_, rfl⟩
  rw [← hk] at CH HZ
  obtain ⟨q, hq⟩ : ∃ q, q = subB a b := ⟨_, rfl⟩
  rw [← hq] at HZ ⊢
  clear Ra Rb ha hb hd hk hq
  by_cases h0 : k = 0
  · have t1 : ((k : Int) == 0) = true := by simp; omega
    have t2 : (k == 0) = true := by simp; omega
    have RF : Hid (q = true) := hid_of (HZ.out.1 h0)
    clear h0
    go_enter Try.func26, Try.ntmps26
    go_wp2_with (go_at_call 20; ((with_reducible refine (CH.out).mono ?_); (rintro ee w1 ⟨xo1, xc1, rfl, h1⟩; have O1 := hid_of h1; clear h1)))
    go_ret
    exact ⟨ret_b RF.out.symm, O1.out.bel⟩
  · have t1 : ((k : Int) == 0) = false := by simp; omega
    have t2 : (k == 0) = false := by simp; omega
    have RF : Hid (q = false) := hid_of (by rw [Bool.eq_false_iff]; exact fun h => h0 (HZ.out.2 h))
    clear h0
    go_enter Try.func26, Try.ntmps26
    go_wp2_with (go_at_call 20; ((with_reducible refine (CH.out).mono ?_); (rintro ee w1 ⟨xo1, xc1, rfl, h1⟩; have O1 := hid_of h1; clear h1)))
    go_ret
    exact ⟨ret_b RF.out.symm, O1.out.bel⟩

theorem cmpL_at : ∀ {a b : List Str} (k : Nat) (hk : k < a.length) (hk2 : k < b.length), a.take k = b.take k → cmpL a b = if a[k] < b[k] then -1 else if b[k] < a[k] then 1 else cmpL (a.drop (k + 1)) (b.drop (k + 1)) := by
  intro a; induction a with
  | nil => intro b k hk; simp at hk
  | cons x a ih =>
    intro b k hk hk2 h
    cases b with
    | nil => simp at hk2
    | cons y b =>
      cases k with
      | zero => rfl
      | succ k =>
        simp only [List.take_succ_cons, List.cons.injEq] at h
        obtain ⟨rfl, h⟩ := h
        rw [cmpL, if_neg (str_irr x), if_neg (str_irr x), ih k (by simpa using hk) (by simpa using hk2) h]
        rfl
theorem cmpL_lt {a b : List Str} {k : Nat} (hk : k < a.length) (hk2 : k < b.length) (h : a.take k = b.take k) (hl : a[k] < b[k]) : cmpL a b = -1 := by rw [cmpL_at k hk hk2 h, if_pos hl]
theorem cmpL_gt {a b : List Str} {k : Nat} (hk : k < a.length) (hk2 : k < b.length) (h : a.take k = b.take k) (hl : b[k] < a[k]) : cmpL a b = 1 := by rw [cmpL_at k hk hk2 h, if_neg (str_asym hl), if_pos hl]
theorem cmpS_short {a b : List Str} (h : a.length < b.length) : cmpS a b = -1 := by rw [cmpS, if_pos h]
theorem cmpS_long {a b : List Str} (h : b.length < a.length) : cmpS a b = 1 := by rw [cmpS, if_neg (by omega), if_pos h]
theorem cmpS_same {a b : List Str} (h : a.length = b.length) : cmpS a b = cmpL a b := by rw [cmpS, if_neg (by omega), if_neg (by omega)]
theorem ret_i {a b : Int} (h : a = b) : Ending.returned (.int .i64 a) = .returned (.int .i64 b) := by rw [h]

set_option maxRecDepth 100000 in
set_option maxHeartbeats 1600000 in
theorem compare_any (ao : Option Addr) (n cap : Nat) (bo : Option Addr) (m cap2 : Nat) (a b : List Str) (w : World) (Ra : Rd w (.slice ao n cap) (ss a)) (Rb : Rd w (.slice bo m cap2) (ss b)) (ha : a.length ≤ big) (hb : b.length ≤ big) :
    Calls Try.prog 27 #[.slice ao n cap, .slice bo m cap2] w fun e w' => e = .returned (.int .i64 (cmpS (setOf a) (setOf b))) ∧ Below w.heap.size w w' := by
  have OFA := hid_of (of_any ao n cap a w Ra ha)
  have OFB : Hid (∀ w1, Below w.heap.size w w1 → Calls Try.prog 17 #[.slice bo m cap2] w1 fun e w' => ∃ xo xc, e = .returned (.slice xo (setOf b).length xc) ∧ Ow 9 w1.heap.size w1 w' (.slice xo (setOf b).length xc) (ss (setOf b))) := hid_of (fun w1 h => of_any bo m cap2 b w1 (Rb.at h) hb)
  obtain ⟨A, hA⟩ : ∃ A, A = setOf a := ⟨_, rfl⟩
  obtain ⟨B, hB⟩ : ∃ B, B = setOf b := ⟨_, rfl⟩
  rw [← hA] at OFA ⊢
  rw [← hB] at OFB ⊢
  have HLA : Hid (A.length ≤ 1000000) := hid_of (by have := setOf_le a; unfold big at ha; rw [hA]; omega)
  have HLB : Hid (B.length ≤ 1000000) := hid_of (by have := setOf_le b; unfold big at hb; rw [hB]; omega)
  obtain ⟨nA, hnA⟩ : ∃ nA, nA = A.length := ⟨_, rfl⟩
  obtain ⟨nB, hnB⟩ : ∃ nB, nB = B.length := ⟨_, rfl⟩
  rw [← hnA] at OFA
  rw [← hnB] at OFB
  have HNA := hid_of hnA
  have HNB := hid_of hnB
  have hA9 : nA ≤ 1000000 := by rw [hnA]; exact HLA.out
  have hB9 : nB ≤ 1000000 := by rw [hnB]; exact HLB.out
  obtain ⟨r, hr⟩ : ∃ r, r = cmpS A B := ⟨_, rfl⟩
  rw [← hr]
  have HR := hid_of hr
  clear Ra Rb ha hb hA hB hnA hnB hr
  by_cases hlt0 : nA < nB
  · have q1 : decide (nA < nB) = true := by simp; omega
    have q0 : ((nA : Int) != (nB : Int)) = true := by simp; omega
    have q0' : (nA != nB) = true := by simp; omega
    have q1' : decide ((nA : Int) < (nB : Int)) = true := by simp; omega
    have RF : Hid (r = -1) := hid_of (by rw [HR.out]; exact cmpS_short (by rw [← HNA.out, ← HNB.out]; exact hlt0))
    clear hlt0
    go_enter Try.func27, Try.ntmps27
    go_wp2_with (go_at_call 17; (first
      | ((with_reducible refine (OFA.out).mono ?_); (rintro ee w1 ⟨xo1, xc1, rfl, h1⟩; have O1 := hid_of h1; clear h1))
      | ((with_reducible refine (OFB.out w1 O1.out.bel).mono ?_); (rintro ee w2 ⟨xo2, xc2, rfl, h1⟩; have O2 := hid_of h1; clear h1))))
    go_ret
    exact ⟨ret_i RF.out.symm, step_b O1.out.bel O2.out.bel O1.out.size⟩
  · by_cases hgt0 : nB < nA
    · have q1 : decide (nA < nB) = false := by simp; omega
      have q0 : ((nA : Int) != (nB : Int)) = true := by simp; omega
      have q0' : (nA != nB) = true := by simp; omega
      have q1' : decide ((nA : Int) < (nB : Int)) = false := by simp; omega
      have q2 : decide (nB < nA) = true := by simp; omega
      have q2' : decide ((nB : Int) < (nA : Int)) = true := by simp; omega
      have RF : Hid (r = 1) := hid_of (by rw [HR.out]; exact cmpS_long (by rw [← HNA.out, ← HNB.out]; exact hgt0))
      clear hlt0 hgt0
      go_enter Try.func27, Try.ntmps27
      go_wp2_with (go_at_call 17; (first
        | ((with_reducible refine (OFA.out).mono ?_); (rintro ee w1 ⟨xo1, xc1, rfl, h1⟩; have O1 := hid_of h1; clear h1))
        | ((with_reducible refine (OFB.out w1 O1.out.bel).mono ?_); (rintro ee w2 ⟨xo2, xc2, rfl, h1⟩; have O2 := hid_of h1; clear h1))))
      go_ret
      exact ⟨ret_i RF.out.symm, step_b O1.out.bel O2.out.bel O1.out.size⟩
    · obtain rfl : nA = nB := by omega
      have q1 : decide (nA < nA) = false := by simp
      have q0 : ((nA : Int) != (nA : Int)) = false := by simp
      have q0' : (nA != nA) = false := by simp
      have HRL : Hid (r = cmpL A B) := hid_of (by rw [HR.out]; exact cmpS_same (by rw [← HNA.out, ← HNB.out]))
      clear hlt0 hgt0
      go_enter Try.func27, Try.ntmps27
      go_wp2_with (go_at_call 17; (first
        | ((with_reducible refine (OFA.out).mono ?_); (rintro ee w1 ⟨xo1, xc1, rfl, h1⟩; have O1 := hid_of h1; clear h1))
        | ((with_reducible refine (OFB.out w1 O1.out.bel).mono ?_); (rintro ee w2 ⟨xo2, xc2, rfl, h1⟩; have O2 := hid_of h1; clear h1))))
      have BB : Hid (Below w.heap.size w w2) := hid_of (step_b O1.out.bel O2.out.bel O1.out.size)
      have R1 : Hid (Rd w2 (.slice xo1 nA xc1) (ss A)) := hid_of ((O1.out.rd (by rw [ss_length]; have := HLA.out; omega)).at O2.out.bel)
      have R2 : Hid (Rd w2 (.slice xo2 nA xc2) (ss B)) := hid_of (O2.out.rd (by rw [ss_length]; have := HLB.out; omega))
      by_cases h0 : nA = 0
      · have RF : Hid (r = 0) := hid_of (by
          rw [HRL.out, cmpL_zero, List.eq_nil_of_length_eq_zero (HNA.out.symm.trans h0), List.eq_nil_of_length_eq_zero (HNB.out.symm.trans h0)])
        subst h0
        go_loopw [7, 24] (fun uv iv wr => ∃ v : Value, uv = v ∧ iv = .int .i64 0 ∧ w2 = wr) (fun _ _ _ => 0)
        case atStart => exact ⟨_, rfl, rfl, rfl⟩
        case round =>
          obtain ⟨v, rfl, rfl, rfl⟩ := hrel
          go_wp2
          go_ret
          exact ⟨ret_i RF.out.symm, BB.out⟩
      · obtain ⟨s10, s11, s12, s13⟩ := rds_open R1.out
        obtain ⟨s20, s21, s22, s23⟩ := rds_open R2.out
        obtain ⟨g, o, rfl, hg, hc⟩ := s13.resolve_left (fun e => by rw [e] at s10; simp at s10; omega)
        obtain ⟨g2, o2, rfl, hg2, hc2⟩ := s23.resolve_left (fun e => by rw [e] at s20; simp at s20; omega)
        have HC := hid_of hc
        have HC2 := hid_of hc2
        clear hc hc2 s10 s11 s13 s20 s21 s23 h0
        go_loopw [7, 24] (fun uv iv wr => ∃ (k : Nat) (v : Value), uv = v ∧ k ≤ nA ∧ iv = .int .i64 k ∧ Hid (A.take k = B.take k) ∧ Hid (Below w2.heap.size w2 wr)) (fun _ iv _ => nA - (intOf iv).toNat)
        case atStart => exact ⟨0, _, rfl, Nat.zero_le _, rfl, hid_of (by simp), hid_of (Below.refl _ _)⟩
        case round =>
          obtain ⟨k, v, rfl, hk, rfl, hs, hb⟩ := hrel
          by_cases hlt : k < nA
          · have hd : decide (k < nA) = true := by simp; omega
            have hkl : Hid (k < A.length) := hid_of (by have := HNA.out; omega)
            have hpl : Hid (k < B.length) := hid_of (by have := HNB.out; omega)
            obtain ⟨bk, hbk⟩ : ∃ b, b = ba (A[k]'hkl.out) := ⟨_, rfl⟩
            obtain ⟨bp, hbp⟩ : ∃ b, b = ba (B[k]'hpl.out) := ⟨_, rfl⟩
            have c1 := (hb.out.cell (p := ⟨g, o + k, none⟩) hg).trans (HC.out k _ (List.getElem?_eq_getElem hkl.out))
            have c2 := (hb.out.cell (p := ⟨g2, o2 + k, none⟩) hg2).trans (HC2.out k _ (List.getElem?_eq_getElem hpl.out))
            rw [← hbk] at c1
            rw [← hbp] at c2
            have b1 : (k : Int) < (nA : Int) := by omega
            have b3 : (0 : Int) ≤ (k : Int) := by omega
            by_cases e1 : (A[k]'hkl.out) < (B[k]'hpl.out)
            · have t1 := lt_t hbk hbp e1
              have RF : Hid (r = -1) := hid_of (HRL.out.trans (cmpL_lt hkl.out hpl.out hs.out e1))
              clear hbk hbp e1
              go_wp2
              go_quiet (fail)
              go_wp2
              go_ret
              exact ⟨ret_i RF.out.symm, bel_drewN (step_b BB.out hb.out BB.out.size) _⟩
            · by_cases e2 : (B[k]'hpl.out) < (A[k]'hkl.out)
              · have t1 := lt_f hbk hbp e1
                have t2 := eq_f hbk hbp (fun e => str_irr _ (e ▸ e2))
                have RF : Hid (r = 1) := hid_of (HRL.out.trans (cmpL_gt hkl.out hpl.out hs.out e2))
                clear hbk hbp e1 e2
                go_wp2
                go_quiet (fail)
                go_wp2
                go_quiet (fail)
                go_wp2
                go_ret
                exact ⟨ret_i RF.out.symm, bel_drewN (bel_drewN (step_b BB.out hb.out BB.out.size) _) _⟩
              · have e3 : (A[k]'hkl.out) = (B[k]'hpl.out) := by
                  rcases str_tri (A[k]'hkl.out) (B[k]'hpl.out) with h | h | h
                  · exact absurd h e1
                  · exact h
                  · exact absurd h e2
                have t1 := lt_f hbk hbp e1
                have t2 := eq_t hbk hbp e3
                have HS2 : Hid (A.take (k + 1) = B.take (k + 1)) := hid_of (by rw [take_snoc' hkl.out, take_snoc' hpl.out, hs.out, e3])
                clear hbk hbp e1 e2 e3
                go_wp2
                go_quiet (fail)
                go_wp2
                go_quiet (fail)
                go_wp2
                go_roundw
                case rel => exact ⟨k + 1, _, rfl, by omega, by go_num, HS2, hid_of (bel_drewN hb.out _)⟩
                case measure => simp [intOf]; omega
          · have hd : decide (k < nA) = false := by simp; omega
            have RF : Hid (r = 0) := hid_of (by
              rw [HRL.out, cmpL_zero]
              have h := hs.out
              rw [List.take_of_length_le (by have := HNA.out; omega), List.take_of_length_le (by have := HNB.out; omega)] at h
              exact h)
            go_wp2
            go_ret
            exact ⟨ret_i RF.out.symm, step_b BB.out hb.out BB.out.size⟩
set_option maxRecDepth 100000 in
set_option maxHeartbeats 1600000 in
theorem rcompare_any (ao : Option Addr) (n cap : Nat) (bo : Option Addr) (m cap2 : Nat) (a b : List Str) (w : World) (Ra : Rd w (.slice ao n cap) (ss a)) (Rb : Rd w (.slice bo m cap2) (ss b)) (ha : a.length ≤ big) (hb : b.length ≤ big) :
    Calls Try.prog 28 #[.slice ao n cap, .slice bo m cap2] w fun e w' => e = .returned (.int .i64 (cmpS (setOf a) (setOf b))) ∧ Below w.heap.size w w' := by
  have OFA := hid_of (rof_any ao n cap a w Ra ha)
  have OFB : Hid (∀ w1, Below w.heap.size w w1 → Calls Try.prog 30 #[.slice bo m cap2] w1 fun e w' => ∃ xo xc, e = .returned (.slice xo (setOf b).length xc) ∧ Ow 9 w1.heap.size w1 w' (.slice xo (setOf b).length xc) (ss (setOf b))) := hid_of (fun w1 h => rof_any bo m cap2 b w1 (Rb.at h) hb)
  obtain ⟨A, hA⟩ : ∃ A, A = setOf a := ⟨_, rfl⟩
  obtain ⟨B, hB⟩ : ∃ B, B = setOf b := ⟨_, rfl⟩
  rw [← hA] at OFA ⊢
  rw [← hB] at OFB ⊢
  have HLA : Hid (A.length ≤ 1000000) := hid_of (by have := setOf_le a; unfold big at ha; rw [hA]; omega)
  have HLB : Hid (B.length ≤ 1000000) := hid_of (by have := setOf_le b; unfold big at hb; rw [hB]; omega)
  obtain ⟨nA, hnA⟩ : ∃ nA, nA = A.length := ⟨_, rfl⟩
  obtain ⟨nB, hnB⟩ : ∃ nB, nB = B.length := ⟨_, rfl⟩
  rw [← hnA] at OFA
  rw [← hnB] at OFB
  have HNA := hid_of hnA
  have HNB := hid_of hnB
  have hA9 : nA ≤ 1000000 := by rw [hnA]; exact HLA.out
  have hB9 : nB ≤ 1000000 := by rw [hnB]; exact HLB.out
  obtain ⟨r, hr⟩ : ∃ r, r = cmpS A B := ⟨_, rfl⟩
  rw [← hr]
  have HR := hid_of hr
  clear Ra Rb ha hb hA hB hnA hnB hr
  by_cases hlt0 : nA < nB
  · have q1 : decide (nA < nB) = true := by simp; omega
    have q0 : ((nA : Int) != (nB : Int)) = true := by simp; omega
    have q0' : (nA != nB) = true := by simp; omega
    have q1' : decide ((nA : Int) < (nB : Int)) = true := by simp; omega
    have RF : Hid (r = -1) := hid_of (by rw [HR.out]; exact cmpS_short (by rw [← HNA.out, ← HNB.out]; exact hlt0))
    clear hlt0
    go_enter Try.func28, Try.ntmps28
    go_wp2_with (go_at_call 30; (first
      | ((with_reducible refine (OFA.out).mono ?_); (rintro ee w1 ⟨xo1, xc1, rfl, h1⟩; have O1 := hid_of h1; clear h1))
      | ((with_reducible refine (OFB.out w1 O1.out.bel).mono ?_); (rintro ee w2 ⟨xo2, xc2, rfl, h1⟩; have O2 := hid_of h1; clear h1))))
    go_ret
    exact ⟨ret_i RF.out.symm, step_b O1.out.bel O2.out.bel O1.out.size⟩
  · by_cases hgt0 : nB < nA
    · have q1 : decide (nA < nB) = false := by simp; omega
      have q0 : ((nA : Int) != (nB : Int)) = true := by simp; omega
      have q0' : (nA != nB) = true := by simp; omega
      have q1' : decide ((nA : Int) < (nB : Int)) = false := by simp; omega
      have q2 : decide (nB < nA) = true := by simp; omega
      have q2' : decide ((nB : Int) < (nA : Int)) = true := by simp; omega
      have RF : Hid (r = 1) := hid_of (by rw [HR.out]; exact cmpS_long (by rw [← HNA.out, ← HNB.out]; exact hgt0))
      clear hlt0 hgt0
      go_enter Try.func28, Try.ntmps28
      go_wp2_with (go_at_call 30; (first
        | ((with_reducible refine (OFA.out).mono ?_); (rintro ee w1 ⟨xo1, xc1, rfl, h1⟩; have O1 := hid_of h1; clear h1))
        | ((with_reducible refine (OFB.out w1 O1.out.bel).mono ?_); (rintro ee w2 ⟨xo2, xc2, rfl, h1⟩; have O2 := hid_of h1; clear h1))))
      go_ret
      exact ⟨ret_i RF.out.symm, step_b O1.out.bel O2.out.bel O1.out.size⟩
    · obtain rfl : nA = nB := by omega
      have q1 : decide (nA < nA) = false := by simp
      have q0 : ((nA : Int) != (nA : Int)) = false := by simp
      have q0' : (nA != nA) = false := by simp
      have HRL : Hid (r = cmpL A B) := hid_of (by rw [HR.out]; exact cmpS_same (by rw [← HNA.out, ← HNB.out]))
      clear hlt0 hgt0
      go_enter Try.func28, Try.ntmps28
      go_wp2_with (go_at_call 30; (first
        | ((with_reducible refine (OFA.out).mono ?_); (rintro ee w1 ⟨xo1, xc1, rfl, h1⟩; have O1 := hid_of h1; clear h1))
        | ((with_reducible refine (OFB.out w1 O1.out.bel).mono ?_); (rintro ee w2 ⟨xo2, xc2, rfl, h1⟩; have O2 := hid_of h1; clear h1))))
      have BB : Hid (Below w.heap.size w w2) := hid_of (step_b O1.out.bel O2.out.bel O1.out.size)
      have R1 : Hid (Rd w2 (.slice xo1 nA xc1) (ss A)) := hid_of ((O1.out.rd (by rw [ss_length]; have := HLA.out; omega)).at O2.out.bel)
      have R2 : Hid (Rd w2 (.slice xo2 nA xc2) (ss B)) := hid_of (O2.out.rd (by rw [ss_length]; have := HLB.out; omega))
      by_cases h0 : nA = 0
      · have RF : Hid (r = 0) := hid_of (by
          rw [HRL.out, cmpL_zero, List.eq_nil_of_length_eq_zero (HNA.out.symm.trans h0), List.eq_nil_of_length_eq_zero (HNB.out.symm.trans h0)])
        subst h0
        go_loopw [7] (fun iv wr => iv = .int .i64 0 ∧ w2 = wr) (fun _ _ => 0)
        case atStart => exact ⟨rfl, rfl⟩
        case round =>
          obtain ⟨rfl, rfl⟩ := hrel
          go_wp2
          go_ret
          exact ⟨ret_i RF.out.symm, BB.out⟩
      · obtain ⟨s10, s11, s12, s13⟩ := rds_open R1.out
        obtain ⟨s20, s21, s22, s23⟩ := rds_open R2.out
        obtain ⟨g, o, rfl, hg, hc⟩ := s13.resolve_left (fun e => by rw [e] at s10; simp at s10; omega)
        obtain ⟨g2, o2, rfl, hg2, hc2⟩ := s23.resolve_left (fun e => by rw [e] at s20; simp at s20; omega)
        have HC := hid_of hc
        have HC2 := hid_of hc2
        clear hc hc2 s10 s11 s13 s20 s21 s23 h0
        go_loopw [7] (fun iv wr => ∃ k : Nat, k ≤ nA ∧ iv = .int .i64 k ∧ Hid (A.take k = B.take k) ∧ Hid (Below w2.heap.size w2 wr)) (fun iv _ => nA - (intOf iv).toNat)
        case atStart => exact ⟨0, Nat.zero_le _, rfl, hid_of (by simp), hid_of (Below.refl _ _)⟩
        case round =>
          obtain ⟨k, hk, rfl, hs, hb⟩ := hrel
          by_cases hlt : k < nA
          · have hd : decide (k < nA) = true := by simp; omega
            have hkl : Hid (k < A.length) := hid_of (by have := HNA.out; omega)
            have hpl : Hid (k < B.length) := hid_of (by have := HNB.out; omega)
            obtain ⟨bk, hbk⟩ : ∃ b, b = ba (A[k]'hkl.out) := ⟨_, rfl⟩
            obtain ⟨bp, hbp⟩ : ∃ b, b = ba (B[k]'hpl.out) := ⟨_, rfl⟩
            have c1 := (hb.out.cell (p := ⟨g, o + k, none⟩) hg).trans (HC.out k _ (List.getElem?_eq_getElem hkl.out))
            have c2 := (hb.out.cell (p := ⟨g2, o2 + k, none⟩) hg2).trans (HC2.out k _ (List.getElem?_eq_getElem hpl.out))
            rw [← hbk] at c1
            rw [← hbp] at c2
            have b1 : (k : Int) < (nA : Int) := by omega
            have b3 : (0 : Int) ≤ (k : Int) := by omega
            by_cases e1 : (A[k]'hkl.out) < (B[k]'hpl.out)
            · have t1 := lt_t hbk hbp e1
              have RF : Hid (r = -1) := hid_of (HRL.out.trans (cmpL_lt hkl.out hpl.out hs.out e1))
              clear hbk hbp e1
              go_wp2
              go_quiet (fail)
              go_wp2
              go_ret
              exact ⟨ret_i RF.out.symm, bel_drewN (step_b BB.out hb.out BB.out.size) _⟩
            · by_cases e2 : (B[k]'hpl.out) < (A[k]'hkl.out)
              · have t1 := lt_f hbk hbp e1
                have t2 := eq_f hbk hbp (fun e => str_irr _ (e ▸ e2))
                have RF : Hid (r = 1) := hid_of (HRL.out.trans (cmpL_gt hkl.out hpl.out hs.out e2))
                clear hbk hbp e1 e2
                go_wp2
                go_quiet (fail)
                go_wp2
                go_quiet (fail)
                go_wp2
                go_ret
                exact ⟨ret_i RF.out.symm, bel_drewN (bel_drewN (step_b BB.out hb.out BB.out.size) _) _⟩
              · have e3 : (A[k]'hkl.out) = (B[k]'hpl.out) := by
                  rcases str_tri (A[k]'hkl.out) (B[k]'hpl.out) with h | h | h
                  · exact absurd h e1
                  · exact h
                  · exact absurd h e2
                have t1 := lt_f hbk hbp e1
                have t2 := eq_t hbk hbp e3
                have HS2 : Hid (A.take (k + 1) = B.take (k + 1)) := hid_of (by rw [take_snoc' hkl.out, take_snoc' hpl.out, hs.out, e3])
                clear hbk hbp e1 e2 e3
                go_wp2
                go_quiet (fail)
                go_wp2
                go_quiet (fail)
                go_wp2
                go_roundw
                case rel => exact ⟨k + 1, by omega, by go_num, HS2, hid_of (bel_drewN hb.out _)⟩
                case measure => simp [intOf]; omega
          · have hd : decide (k < nA) = false := by simp; omega
            have RF : Hid (r = 0) := hid_of (by
              rw [HRL.out, cmpL_zero]
              have h := hs.out
              rw [List.take_of_length_le (by have := HNA.out; omega), List.take_of_length_le (by have := HNB.out; omega)] at h
              exact h)
            go_wp2
            go_ret
            exact ⟨ret_i RF.out.symm, step_b BB.out hb.out BB.out.size⟩
end Go.Proofs.Ytpbjnbceloibnaa
