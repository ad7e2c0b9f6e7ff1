/- ClosureEquivalent. Bounds on sizes alone. -/
import Derived.Test.YtjponegeidiheaaClsEla
import Derived.Test.YtjponegeidiheaaClsRck2
import Derived.Test.YtjponegeidiheaaShelf
namespace Go.Proofs.Ytjponegeidiheaa
open Go.RowKit

set_option maxRecDepth 100000 in
set_option maxHeartbeats 1600000 in
theorem eqq_heavy1 (JC : JoinC) (uo : Option Addr) (un uc : Nat) (U : List Str) (ao : Option Addr) (an ac : Nat) (A : List Gr) (bo : Option Addr) (bn bc : Nat) (B : List Gr) (w : World) (hU : Rd w (.slice uo un uc) (ss U)) (hz : ∀ y ∈ U, y.length ≤ 9223372036854775807) (hA : RuR w (.slice ao an ac) A) (hB : RuR w (.slice bo bn bc) B) (hh : hvB U A = true) :
    Calls Try.prog 7 #[.slice uo un uc, .slice ao an ac, .slice bo bn bc] w fun e w' => e = .returned (.bool true) ∧ Below w.heap.size w w' := by
  have AW : Hid (Calls Try.prog 15 #[] w fun e w' => e = .returned (.bool true) ∧ Below w.heap.size w w') := hid_of (awake_any w)
  obtain ⟨va, eva⟩ : ∃ hv, hv = hvB U A := ⟨_, rfl⟩
  obtain ⟨vb, evb⟩ : ∃ hv, hv = hvB U B := ⟨_, rfl⟩
  have HVA : Hid (∀ W, Below w.heap.size w W → Calls Try.prog 16 #[.slice uo un uc, .slice ao an ac] W fun e w' => e = .returned (.bool va) ∧ W = w') := hid_of (fun W hb => by rw [eva]; exact heavy_any uo un uc U ao an ac A W (hU.at hb) (hA.at hb))
  have HVB : Hid (∀ W, Below w.heap.size w W → Calls Try.prog 16 #[.slice uo un uc, .slice bo bn bc] W fun e w' => e = .returned (.bool vb) ∧ W = w') := hid_of (fun W hb => by rw [evb]; exact heavy_any uo un uc U bo bn bc B W (hU.at hb) (hB.at hb))
  rw [hh] at eva
  subst eva
  clear hU hz hA hB hh evb JC
  go_enter Try.func7, Try.ntmps7
  go_wp2_with (first
    | (go_at_call 15; ((with_reducible refine (AW.out).mono ?_); (rintro ee w1 ⟨rfl, q1⟩)); have B1 := hid_of q1; clear q1)
    | (go_at_call 16; ((with_reducible refine (HVA.out w1 B1.out).mono ?_); (rintro ee w' ⟨rfl, rfl⟩)))
    | (go_at_call 16; ((with_reducible refine (HVB.out w1 B1.out).mono ?_); (rintro ee w' ⟨rfl, rfl⟩))))
  go_ret
  exact ⟨rfl, B1.out⟩
set_option maxRecDepth 100000 in
set_option maxHeartbeats 1600000 in
theorem eqq_heavy2 (JC : JoinC) (uo : Option Addr) (un uc : Nat) (U : List Str) (ao : Option Addr) (an ac : Nat) (A : List Gr) (bo : Option Addr) (bn bc : Nat) (B : List Gr) (w : World) (hU : Rd w (.slice uo un uc) (ss U)) (hz : ∀ y ∈ U, y.length ≤ 9223372036854775807) (hA : RuR w (.slice ao an ac) A) (hB : RuR w (.slice bo bn bc) B) (hh : hvB U A = false) (hg : hvB U B = true) :
    Calls Try.prog 7 #[.slice uo un uc, .slice ao an ac, .slice bo bn bc] w fun e w' => e = .returned (.bool true) ∧ Below w.heap.size w w' := by
  have AW : Hid (Calls Try.prog 15 #[] w fun e w' => e = .returned (.bool true) ∧ Below w.heap.size w w') := hid_of (awake_any w)
  obtain ⟨va, eva⟩ : ∃ hv, hv = hvB U A := ⟨_, rfl⟩
  obtain ⟨vb, evb⟩ : ∃ hv, hv = hvB U B := ⟨_, rfl⟩
  have HVA : Hid (∀ W, Below w.heap.size w W → Calls Try.prog 16 #[.slice uo un uc, .slice ao an ac] W fun e w' => e = .returned (.bool va) ∧ W = w') := hid_of (fun W hb => by rw [eva]; exact heavy_any uo un uc U ao an ac A W (hU.at hb) (hA.at hb))
  have HVB : Hid (∀ W, Below w.heap.size w W → Calls Try.prog 16 #[.slice uo un uc, .slice bo bn bc] W fun e w' => e = .returned (.bool vb) ∧ W = w') := hid_of (fun W hb => by rw [evb]; exact heavy_any uo un uc U bo bn bc B W (hU.at hb) (hB.at hb))
  rw [hh] at eva
  rw [hg] at evb
  subst eva evb
  clear hU hz hA hB hh hg JC
  go_enter Try.func7, Try.ntmps7
  go_wp2_with (first
    | (go_at_call 15; ((with_reducible refine (AW.out).mono ?_); (rintro ee w1 ⟨rfl, q1⟩)); have B1 := hid_of q1; clear q1)
    | (go_at_call 16; ((with_reducible refine (HVA.out w1 B1.out).mono ?_); (rintro ee w' ⟨rfl, rfl⟩)))
    | (go_at_call 16; ((with_reducible refine (HVB.out w1 B1.out).mono ?_); (rintro ee w' ⟨rfl, rfl⟩))))
  go_ret
  exact ⟨rfl, B1.out⟩
set_option maxRecDepth 100000 in
set_option maxHeartbeats 1600000 in
theorem eqq_bad1 (JC : JoinC) (uo : Option Addr) (un uc : Nat) (U : List Str) (ao : Option Addr) (an ac : Nat) (A : List Gr) (bo : Option Addr) (bn bc : Nat) (B : List Gr) (w : World) (hU : Rd w (.slice uo un uc) (ss U)) (hz : ∀ y ∈ U, y.length ≤ 9223372036854775807) (hA : RuR w (.slice ao an ac) A) (hB : RuR w (.slice bo bn bc) B) (hh : hvB U A = false) (hg : hvB U B = false) (q : Nat) (hq : chkE U A = q) (hq0 : q ≠ 0) :
    Calls Try.prog 7 #[.slice uo un uc, .slice ao an ac, .slice bo bn bc] w fun e w' => e = .returned (.bool true) ∧ Below w.heap.size w w' := by
  have AW : Hid (Calls Try.prog 15 #[] w fun e w' => e = .returned (.bool true) ∧ Below w.heap.size w w') := hid_of (awake_any w)
  obtain ⟨va, eva⟩ : ∃ hv, hv = hvB U A := ⟨_, rfl⟩
  obtain ⟨vb, evb⟩ : ∃ hv, hv = hvB U B := ⟨_, rfl⟩
  have HVA : Hid (∀ W, Below w.heap.size w W → Calls Try.prog 16 #[.slice uo un uc, .slice ao an ac] W fun e w' => e = .returned (.bool va) ∧ W = w') := hid_of (fun W hb => by rw [eva]; exact heavy_any uo un uc U ao an ac A W (hU.at hb) (hA.at hb))
  have HVB : Hid (∀ W, Below w.heap.size w W → Calls Try.prog 16 #[.slice uo un uc, .slice bo bn bc] W fun e w' => e = .returned (.bool vb) ∧ W = w') := hid_of (fun W hb => by rw [evb]; exact heavy_any uo un uc U bo bn bc B W (hU.at hb) (hB.at hb))
  obtain ⟨e1, e2, e3⟩ := hvB_no hh
  obtain ⟨f1, f2, f3⟩ := hvB_no hg
  have hul := (rds_open hU).1
  have hal := hA.len.1
  have hbl := hB.len.1
  have IA : InU w uo un uc U ao an ac A := ⟨hU, hA, hz, by omega, by omega, fun r hr => by have := e3 r hr; omega⟩
  have IB : InU w uo un uc U bo bn bc B := ⟨hU, hB, hz, by omega, by omega, fun r hr => by have := f3 r hr; omega⟩
  rw [hh] at eva
  rw [hg] at evb
  subst eva evb
  have RKA : Hid (∀ W, Below w.heap.size w W → Calls Try.prog 17 #[.slice uo un uc, .slice ao an ac] W fun e w' => e = .returned (.int .i64 q) ∧ Below w.heap.size w w') := hid_of (fun W hb => by
    have h := rcheck_any uo un uc U ao an ac A W (hU.at hb) hz (hA.at hb)
    rw [hq] at h
    exact h.mono fun e w' ⟨h1, h2⟩ => ⟨h1, hb.trans (h2.mono hb.size)⟩)
  have CE : Hid (∀ W, Below w.heap.size w W → Calls Try.prog 31 #[.slice uo un uc, .slice ao an ac, .slice bo bn bc] W fun e w' => e = .returned (.tuple #[.bool false, .int .i64 (q : Int)]) ∧ Below w.heap.size w w') := hid_of (fun W hb => by
    exact (eqv_err1 uo un uc U ao an ac A bo bn bc B W (IA.at hb) (IB.at hb) q hq hq0).mono fun e w' ⟨h1, h2⟩ => ⟨h1, hb.trans (h2.mono hb.size)⟩)
  have t1 : ((q : Int) != 0) = true := by simp; omega
  have t2 : ((q : Int) == 0) = false := by simp; omega
  clear hU hz hA hB hh hg IA IB e1 e2 e3 f1 f2 f3 hul hal hbl JC hq hq0
  go_enter Try.func7, Try.ntmps7
  go_wp2_with (first
    | (go_at_call 15; ((with_reducible refine (AW.out).mono ?_); (rintro ee w1 ⟨rfl, q1⟩)); have B1 := hid_of q1; clear q1)
    | (go_at_call 16; ((with_reducible refine (HVA.out w1 B1.out).mono ?_); (rintro ee w' ⟨rfl, rfl⟩)))
    | (go_at_call 16; ((with_reducible refine (HVB.out w1 B1.out).mono ?_); (rintro ee w' ⟨rfl, rfl⟩)))
    | (go_at_call 17; ((with_reducible refine (RKA.out w1 B1.out).mono ?_); (rintro ee w2 ⟨rfl, q1⟩)); have B2 := hid_of q1; clear q1)
    | (go_at_call 31; ((with_reducible refine (CE.out w2 B2.out).mono ?_); (rintro ee w3 ⟨rfl, q1⟩)); have B3 := hid_of q1; clear q1))
  go_ret
  exact ⟨rfl, B3.out⟩
set_option maxRecDepth 100000 in
set_option maxHeartbeats 1600000 in
theorem eqq_bad2 (JC : JoinC) (uo : Option Addr) (un uc : Nat) (U : List Str) (ao : Option Addr) (an ac : Nat) (A : List Gr) (bo : Option Addr) (bn bc : Nat) (B : List Gr) (w : World) (hU : Rd w (.slice uo un uc) (ss U)) (hz : ∀ y ∈ U, y.length ≤ 9223372036854775807) (hA : RuR w (.slice ao an ac) A) (hB : RuR w (.slice bo bn bc) B) (hh : hvB U A = false) (hg : hvB U B = false) (h0 : chkE U A = 0) (q : Nat) (hq : chkE U B = q) (hq0 : q ≠ 0) :
    Calls Try.prog 7 #[.slice uo un uc, .slice ao an ac, .slice bo bn bc] w fun e w' => e = .returned (.bool true) ∧ Below w.heap.size w w' := by
  have AW : Hid (Calls Try.prog 15 #[] w fun e w' => e = .returned (.bool true) ∧ Below w.heap.size w w') := hid_of (awake_any w)
  obtain ⟨va, eva⟩ : ∃ hv, hv = hvB U A := ⟨_, rfl⟩
  obtain ⟨vb, evb⟩ : ∃ hv, hv = hvB U B := ⟨_, rfl⟩
  have HVA : Hid (∀ W, Below w.heap.size w W → Calls Try.prog 16 #[.slice uo un uc, .slice ao an ac] W fun e w' => e = .returned (.bool va) ∧ W = w') := hid_of (fun W hb => by rw [eva]; exact heavy_any uo un uc U ao an ac A W (hU.at hb) (hA.at hb))
  have HVB : Hid (∀ W, Below w.heap.size w W → Calls Try.prog 16 #[.slice uo un uc, .slice bo bn bc] W fun e w' => e = .returned (.bool vb) ∧ W = w') := hid_of (fun W hb => by rw [evb]; exact heavy_any uo un uc U bo bn bc B W (hU.at hb) (hB.at hb))
  obtain ⟨e1, e2, e3⟩ := hvB_no hh
  obtain ⟨f1, f2, f3⟩ := hvB_no hg
  have hul := (rds_open hU).1
  have hal := hA.len.1
  have hbl := hB.len.1
  have IA : InU w uo un uc U ao an ac A := ⟨hU, hA, hz, by omega, by omega, fun r hr => by have := e3 r hr; omega⟩
  have IB : InU w uo un uc U bo bn bc B := ⟨hU, hB, hz, by omega, by omega, fun r hr => by have := f3 r hr; omega⟩
  rw [hh] at eva
  rw [hg] at evb
  subst eva evb
  have RKA : Hid (∀ W, Below w.heap.size w W → Calls Try.prog 17 #[.slice uo un uc, .slice ao an ac] W fun e w' => e = .returned (.int .i64 0) ∧ Below w.heap.size w w') := hid_of (fun W hb => by
    have h := rcheck_any uo un uc U ao an ac A W (hU.at hb) hz (hA.at hb)
    rw [h0] at h
    exact h.mono fun e w' ⟨h1, h2⟩ => ⟨h1, hb.trans (h2.mono hb.size)⟩)
  have RKB : Hid (∀ W, Below w.heap.size w W → Calls Try.prog 17 #[.slice uo un uc, .slice bo bn bc] W fun e w' => e = .returned (.int .i64 q) ∧ Below w.heap.size w w') := hid_of (fun W hb => by
    have h := rcheck_any uo un uc U bo bn bc B W (hU.at hb) hz (hB.at hb)
    rw [hq] at h
    exact h.mono fun e w' ⟨h1, h2⟩ => ⟨h1, hb.trans (h2.mono hb.size)⟩)
  have CE : Hid (∀ W, Below w.heap.size w W → Calls Try.prog 31 #[.slice uo un uc, .slice ao an ac, .slice bo bn bc] W fun e w' => e = .returned (.tuple #[.bool false, .int .i64 (q : Int)]) ∧ Below w.heap.size w w') := hid_of (fun W hb => by
    exact (eqv_err2 uo un uc U ao an ac A bo bn bc B W (IA.at hb) (IB.at hb) h0 q hq hq0).mono fun e w' ⟨h1, h2⟩ => ⟨h1, hb.trans (h2.mono hb.size)⟩)
  have t1 : ((q : Int) != 0) = true := by simp; omega
  have t2 : ((q : Int) == 0) = false := by simp; omega
  clear hU hz hA hB hh hg IA IB e1 e2 e3 f1 f2 f3 hul hal hbl JC hq hq0 h0
  go_enter Try.func7, Try.ntmps7
  go_wp2_with (first
    | (go_at_call 15; ((with_reducible refine (AW.out).mono ?_); (rintro ee w1 ⟨rfl, q1⟩)); have B1 := hid_of q1; clear q1)
    | (go_at_call 16; ((with_reducible refine (HVA.out w1 B1.out).mono ?_); (rintro ee w' ⟨rfl, rfl⟩)))
    | (go_at_call 16; ((with_reducible refine (HVB.out w1 B1.out).mono ?_); (rintro ee w' ⟨rfl, rfl⟩)))
    | (go_at_call 17; ((with_reducible refine (RKA.out w1 B1.out).mono ?_); (rintro ee w2 ⟨rfl, q1⟩)); have B2 := hid_of q1; clear q1)
    | (go_at_call 17; ((with_reducible refine (RKB.out w2 B2.out).mono ?_); (rintro ee w3 ⟨rfl, q1⟩)); have B3 := hid_of q1; clear q1)
    | (go_at_call 31; ((with_reducible refine (CE.out w3 B3.out).mono ?_); (rintro ee w4 ⟨rfl, q1⟩)); have B4 := hid_of q1; clear q1))
  go_ret
  exact ⟨rfl, B4.out⟩
set_option maxRecDepth 100000 in
set_option maxHeartbeats 1600000 in
theorem eqq_main (JC : JoinC) (uo : Option Addr) (un uc : Nat) (U : List Str) (ao : Option Addr) (an ac : Nat) (A : List Gr) (bo : Option Addr) (bn bc : Nat) (B : List Gr) (w : World) (hU : Rd w (.slice uo un uc) (ss U)) (hz : ∀ y ∈ U, y.length ≤ 9223372036854775807) (hA : RuR w (.slice ao an ac) A) (hB : RuR w (.slice bo bn bc) B) (hh : hvB U A = false) (hg : hvB U B = false) (h0 : chkE U A = 0) (h1 : chkE U B = 0) :
    Calls Try.prog 7 #[.slice uo un uc, .slice ao an ac, .slice bo bn bc] w fun e w' => e = .returned (.bool true) ∧ Below w.heap.size w w' := by
  have AW : Hid (Calls Try.prog 15 #[] w fun e w' => e = .returned (.bool true) ∧ Below w.heap.size w w') := hid_of (awake_any w)
  obtain ⟨va, eva⟩ : ∃ hv, hv = hvB U A := ⟨_, rfl⟩
  obtain ⟨vb, evb⟩ : ∃ hv, hv = hvB U B := ⟨_, rfl⟩
  have HVA : Hid (∀ W, Below w.heap.size w W → Calls Try.prog 16 #[.slice uo un uc, .slice ao an ac] W fun e w' => e = .returned (.bool va) ∧ W = w') := hid_of (fun W hb => by rw [eva]; exact heavy_any uo un uc U ao an ac A W (hU.at hb) (hA.at hb))
  have HVB : Hid (∀ W, Below w.heap.size w W → Calls Try.prog 16 #[.slice uo un uc, .slice bo bn bc] W fun e w' => e = .returned (.bool vb) ∧ W = w') := hid_of (fun W hb => by rw [evb]; exact heavy_any uo un uc U bo bn bc B W (hU.at hb) (hB.at hb))
  obtain ⟨e1, e2, e3⟩ := hvB_no hh
  obtain ⟨f1, f2, f3⟩ := hvB_no hg
  have hul := (rds_open hU).1
  have hal := hA.len.1
  have hbl := hB.len.1
  have IA : InU w uo un uc U ao an ac A := ⟨hU, hA, hz, by omega, by omega, fun r hr => by have := e3 r hr; omega⟩
  have IB : InU w uo un uc U bo bn bc B := ⟨hU, hB, hz, by omega, by omega, fun r hr => by have := f3 r hr; omega⟩
  rw [hh] at eva
  rw [hg] at evb
  subst eva evb
  have RKA : Hid (∀ W, Below w.heap.size w W → Calls Try.prog 17 #[.slice uo un uc, .slice ao an ac] W fun e w' => e = .returned (.int .i64 0) ∧ Below w.heap.size w w') := hid_of (fun W hb => by
    have h := rcheck_any uo un uc U ao an ac A W (hU.at hb) hz (hA.at hb)
    rw [h0] at h
    exact h.mono fun e w' ⟨h1, h2⟩ => ⟨h1, hb.trans (h2.mono hb.size)⟩)
  have RKB : Hid (∀ W, Below w.heap.size w W → Calls Try.prog 17 #[.slice uo un uc, .slice bo bn bc] W fun e w' => e = .returned (.int .i64 0) ∧ Below w.heap.size w w') := hid_of (fun W hb => by
    have h := rcheck_any uo un uc U bo bn bc B W (hU.at hb) hz (hB.at hb)
    rw [h1] at h
    exact h.mono fun e w' ⟨h1, h2⟩ => ⟨h1, hb.trans (h2.mono hb.size)⟩)
  have la : ∀ r ∈ A, r.1.length ≤ 10000 := fun r hr => by have := e3 r hr; omega
  have lb : ∀ r ∈ B, r.1.length ≤ 10000 := fun r hr => by have := f3 r hr; omega
  obtain ⟨v, hv⟩ : ∃ v, v = eqvB U A B := ⟨_, rfl⟩
  have CE : Hid (∀ W, Below w.heap.size w W → Calls Try.prog 31 #[.slice uo un uc, .slice ao an ac, .slice bo bn bc] W fun e w' => e = .returned (.tuple #[.bool v, .int .i64 0]) ∧ Below w.heap.size w w') := hid_of (fun W hb => by
    rw [hv]
    exact (eqv_good JC uo un uc U ao an ac A bo bn bc B W (IA.at hb) (IB.at hb) la lb h0 h1).mono fun e w' ⟨h1, h2⟩ => ⟨h1, hb.trans (h2.mono hb.size)⟩)
  have RE : Hid (∀ W, Below w.heap.size w W → Calls Try.prog 32 #[.slice uo un uc, .slice ao an ac, .slice bo bn bc] W fun e w' => e = .returned (.bool v) ∧ Below w.heap.size w w') := hid_of (fun W hb => by
    rw [hv]
    exact (reqv_any uo un uc U ao an ac A bo bn bc B W (hU.at hb) (by omega) (hA.at hb) (by omega) (hB.at hb) (by omega) (fun r hr => by have := e3 r hr; omega) (fun r hr => by have := f3 r hr; omega)).mono fun e w' ⟨h1, h2⟩ => ⟨h1, hb.trans (h2.mono hb.size)⟩)
  clear hU hz hA hB hh hg IA IB e1 e2 e3 f1 f2 f3 hul hal hbl JC h0 h1 hv la lb
  cases v
  all_goals
    go_enter Try.func7, Try.ntmps7
    go_wp2_with (first
      | (go_at_call 15; ((with_reducible refine (AW.out).mono ?_); (rintro ee w1 ⟨rfl, q1⟩)); have B1 := hid_of q1; clear q1)
      | (go_at_call 16; ((with_reducible refine (HVA.out w1 B1.out).mono ?_); (rintro ee w' ⟨rfl, rfl⟩)))
      | (go_at_call 16; ((with_reducible refine (HVB.out w1 B1.out).mono ?_); (rintro ee w' ⟨rfl, rfl⟩)))
      | (go_at_call 17; ((with_reducible refine (RKA.out w1 B1.out).mono ?_); (rintro ee w2 ⟨rfl, q1⟩)); have B2 := hid_of q1; clear q1)
      | (go_at_call 17; ((with_reducible refine (RKB.out w2 B2.out).mono ?_); (rintro ee w3 ⟨rfl, q1⟩)); have B3 := hid_of q1; clear q1)
      | (go_at_call 31; ((with_reducible refine (CE.out w3 B3.out).mono ?_); (rintro ee w4 ⟨rfl, q1⟩)); have B4 := hid_of q1; clear q1)
      | (go_at_call 32; ((with_reducible refine (RE.out w4 B4.out).mono ?_); (rintro ee w5 ⟨rfl, q1⟩)); have B5 := hid_of q1; clear q1))
    go_ret
    exact ⟨by first | rfl | simp, B5.out⟩
theorem eqq_law (JC : JoinC) (uo : Option Addr) (un uc : Nat) (U : List Str) (ao : Option Addr) (an ac : Nat) (A : List Gr) (bo : Option Addr) (bn bc : Nat) (B : List Gr) (w : World) (hU : Rd w (.slice uo un uc) (ss U)) (hz : ∀ y ∈ U, y.length ≤ 9223372036854775807) (hA : RuR w (.slice ao an ac) A) (hB : RuR w (.slice bo bn bc) B) :
    Calls Try.prog 7 #[.slice uo un uc, .slice ao an ac, .slice bo bn bc] w fun e w' => e = .returned (.bool true) ∧ Below w.heap.size w w' := by
  cases hh : hvB U A with
  | true => exact eqq_heavy1 JC uo un uc U ao an ac A bo bn bc B w hU hz hA hB hh
  | false =>
    cases hg : hvB U B with
    | true => exact eqq_heavy2 JC uo un uc U ao an ac A bo bn bc B w hU hz hA hB hh hg
    | false =>
      by_cases h0 : chkE U A = 0
      · by_cases h1 : chkE U B = 0
        · exact eqq_main JC uo un uc U ao an ac A bo bn bc B w hU hz hA hB hh hg h0 h1
        · exact eqq_bad2 JC uo un uc U ao an ac A bo bn bc B w hU hz hA hB hh hg h0 _ rfl h1
      · exact eqq_bad1 JC uo un uc U ao an ac A bo bn bc B w hU hz hA hB hh hg _ rfl h0
theorem joinC : JoinC := fun xo n xc l w R h16 hl => by
  obtain ⟨rfl, h1, h2, h3⟩ := rds_open R
  have hjn := jn_len (m := 16) l h16
  rcases h3 with rfl | ⟨g, o, rfl, hg, hc⟩
  · refine (sh_strings_Join_none xo xc ⟨#[44]⟩ w).mono ?_
    rintro e w' ⟨rfl, rfl⟩
    exact ⟨rfl, Below.refl _ _⟩
  · have key := sh_strings_Join g o xc (l.map ba) ⟨#[44]⟩ w (fun j x hx => ?_) hg (by simp; omega) (by simpa using h1) (by
      have e : (l.map ba).map (·.data.toList) = l := by rw [List.map_map]; exact List.map_id l
      rw [e]
      show (jn l).length ≤ _
      omega)
    · have e : (l.map ba).map (·.data.toList) = l := by rw [List.map_map]; exact List.map_id l
      rw [e, List.length_map] at key
      exact key
    · simp only [List.getElem?_map, Option.map_eq_some_iff] at hx
      obtain ⟨y, hy, rfl⟩ := hx
      exact hc j y hy
theorem equivalent_law (uo : Option Addr) (un uc : Nat) (U : List Str) (ao : Option Addr) (an ac : Nat) (A : List Gr) (bo : Option Addr) (bn bc : Nat) (B : List Gr) (w : World) (hU : Rd w (.slice uo un uc) (ss U)) (hz : ∀ y ∈ U, y.length ≤ 9223372036854775807) (hA : RuR w (.slice ao an ac) A) (hB : RuR w (.slice bo bn bc) B) :
    Calls Try.prog 7 #[.slice uo un uc, .slice ao an ac, .slice bo bn bc] w fun e w' => e = .returned (.bool true) ∧ Below w.heap.size w w' := by
  exact eqq_law joinC uo un uc U ao an ac A bo bn bc B w hU hz hA hB
end Go.Proofs.Ytjponegeidiheaa
