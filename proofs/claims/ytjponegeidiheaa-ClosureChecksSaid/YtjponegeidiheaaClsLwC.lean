/- ClosureChecks. Bounds on sizes alone. -/
import Derived.Test.YtjponegeidiheaaClsRch2
import Derived.Test.YtjponegeidiheaaClsRck2
namespace Go.Proofs.Ytjponegeidiheaa
open Go.RowKit

set_option maxRecDepth 100000 in
set_option maxHeartbeats 1600000 in
theorem chk_heavy (uo : Option Addr) (un uc : Nat) (U : List Str) (ro : Option Addr) (rn rc : Nat) (rs : List Gr) (so : Option Addr) (sn sc : Nat) (s : List Str) (w : World) (hU : Rd w (.slice uo un uc) (ss U)) (hz : ∀ y ∈ U, y.length ≤ 9223372036854775807) (hR : RuR w (.slice ro rn rc) rs) (hS : Rd w (.slice so sn sc) (ss s)) (hh : hvB U rs = true) :
    Calls Try.prog 3 #[.slice uo un uc, .slice ro rn rc, .slice so sn sc] w fun e w' => e = .returned (.bool true) ∧ Below w.heap.size w w' := by
  have AW : Hid (Calls Try.prog 15 #[] w fun e w' => e = .returned (.bool true) ∧ Below w.heap.size w w') := hid_of (awake_any w)
  obtain ⟨hv, ehv⟩ : ∃ hv, hv = hvB U rs := ⟨_, rfl⟩
  have HV : Hid (∀ W, Below w.heap.size w W → Calls Try.prog 16 #[.slice uo un uc, .slice ro rn rc] W fun e w' => e = .returned (.bool hv) ∧ W = w') := hid_of (fun W hb => by rw [ehv]; exact heavy_any uo un uc U ro rn rc rs W (hU.at hb) (hR.at hb))
  have hn1 : sn ≤ 9223372036854775807 := by have := (rds_open hS).2; omega
  rw [hh] at ehv
  subst ehv
  clear hU hz hR hS hh
  go_enter Try.func3, Try.ntmps3
  go_wp2_with (first
    | (go_at_call 15; ((with_reducible refine (AW.out).mono ?_); (rintro ee w1 ⟨rfl, q1⟩)); have B1 := hid_of q1; clear q1)
    | (go_at_call 16; ((with_reducible refine (HV.out w1 B1.out).mono ?_); (rintro ee w' ⟨rfl, rfl⟩))))
  go_ret
  exact ⟨rfl, B1.out⟩
set_option maxRecDepth 100000 in
set_option maxHeartbeats 1600000 in
theorem chk_long (uo : Option Addr) (un uc : Nat) (U : List Str) (ro : Option Addr) (rn rc : Nat) (rs : List Gr) (so : Option Addr) (sn sc : Nat) (s : List Str) (w : World) (hU : Rd w (.slice uo un uc) (ss U)) (hz : ∀ y ∈ U, y.length ≤ 9223372036854775807) (hR : RuR w (.slice ro rn rc) rs) (hS : Rd w (.slice so sn sc) (ss s)) (hh : hvB U rs = false) (hl : 41 < sn) :
    Calls Try.prog 3 #[.slice uo un uc, .slice ro rn rc, .slice so sn sc] w fun e w' => e = .returned (.bool true) ∧ Below w.heap.size w w' := by
  have AW : Hid (Calls Try.prog 15 #[] w fun e w' => e = .returned (.bool true) ∧ Below w.heap.size w w') := hid_of (awake_any w)
  obtain ⟨hv, ehv⟩ : ∃ hv, hv = hvB U rs := ⟨_, rfl⟩
  have HV : Hid (∀ W, Below w.heap.size w W → Calls Try.prog 16 #[.slice uo un uc, .slice ro rn rc] W fun e w' => e = .returned (.bool hv) ∧ W = w') := hid_of (fun W hb => by rw [ehv]; exact heavy_any uo un uc U ro rn rc rs W (hU.at hb) (hR.at hb))
  have hn1 : sn ≤ 9223372036854775807 := by have := (rds_open hS).2; omega
  rw [hh] at ehv
  subst ehv
  have ga_0 : decide ((41 : Int) < (sn : Int)) = true := by simp; omega
  have ga_1 : decide (41 < sn) = true := by simp; omega
  have ga_2 : decide ((sn : Int) > 41) = true := by simp; omega
  clear hU hz hR hS hh hl
  go_enter Try.func3, Try.ntmps3
  go_wp2_with (first
    | (go_at_call 15; ((with_reducible refine (AW.out).mono ?_); (rintro ee w1 ⟨rfl, q1⟩)); have B1 := hid_of q1; clear q1)
    | (go_at_call 16; ((with_reducible refine (HV.out w1 B1.out).mono ?_); (rintro ee w' ⟨rfl, rfl⟩))))
  go_ret
  exact ⟨rfl, B1.out⟩
set_option maxRecDepth 100000 in
set_option maxHeartbeats 1600000 in
theorem chk_bad1 (uo : Option Addr) (un uc : Nat) (U : List Str) (ro : Option Addr) (rn rc : Nat) (rs : List Gr) (so : Option Addr) (sn sc : Nat) (s : List Str) (w : World) (hU : Rd w (.slice uo un uc) (ss U)) (hz : ∀ y ∈ U, y.length ≤ 9223372036854775807) (hR : RuR w (.slice ro rn rc) rs) (hS : Rd w (.slice so sn sc) (ss s)) (hh : hvB U rs = false) (hl : ¬ 41 < sn) (q : Nat) (hq : chkE U rs = q) (hq0 : q ≠ 0) :
    Calls Try.prog 3 #[.slice uo un uc, .slice ro rn rc, .slice so sn sc] w fun e w' => e = .returned (.bool true) ∧ Below w.heap.size w w' := by
  have AW : Hid (Calls Try.prog 15 #[] w fun e w' => e = .returned (.bool true) ∧ Below w.heap.size w w') := hid_of (awake_any w)
  obtain ⟨hv, ehv⟩ : ∃ hv, hv = hvB U rs := ⟨_, rfl⟩
  have HV : Hid (∀ W, Below w.heap.size w W → Calls Try.prog 16 #[.slice uo un uc, .slice ro rn rc] W fun e w' => e = .returned (.bool hv) ∧ W = w') := hid_of (fun W hb => by rw [ehv]; exact heavy_any uo un uc U ro rn rc rs W (hU.at hb) (hR.at hb))
  have hn1 : sn ≤ 9223372036854775807 := by have := (rds_open hS).2; omega
  obtain ⟨e1, e2, e3⟩ := hvB_no hh
  have hul := (rds_open hU).1
  have hrl := hR.len.1
  have IU : InU w uo un uc U ro rn rc rs := ⟨hU, hR, hz, by omega, by omega, fun r hr => by have := e3 r hr; omega⟩
  rw [hh] at ehv
  subst ehv
  have hw : cwsE U rs s = q := by unfold cwsE; rw [if_neg (by omega)]; exact hq
  have RK : Hid (∀ W, Below w.heap.size w W → Calls Try.prog 17 #[.slice uo un uc, .slice ro rn rc] W fun e w' => e = .returned (.int .i64 q) ∧ Below w.heap.size w w') := hid_of (fun W hb => by
    have h := rcheck_any uo un uc U ro rn rc rs W (hU.at hb) hz (hR.at hb)
    rw [hq] at h
    exact h.mono fun e w' ⟨h1, h2⟩ => ⟨h1, hb.trans (h2.mono hb.size)⟩)
  have CK : Hid (∀ W, Below w.heap.size w W → Calls Try.prog 18 #[.slice uo un uc, .slice ro rn rc] W fun e w' => e = .returned (.int .i64 q) ∧ Below w.heap.size w w') := hid_of (fun W hb => by
    have h := check_any uo un uc U ro rn rc rs W (IU.at hb)
    rw [hq] at h
    exact h.mono fun e w' ⟨h1, h2⟩ => ⟨h1, hb.trans (h2.mono hb.size)⟩)
  have CE : Hid (∀ W, Below w.heap.size w W → Calls Try.prog 20 #[.slice uo un uc, .slice ro rn rc, .slice so sn sc] W fun e w' => e = .returned (.tuple #[.slice none 0 0, .int .i64 (q : Int)]) ∧ Below w.heap.size w w') := hid_of (fun W hb => by
    exact (close_err uo un uc U ro rn rc rs so sn sc s W (IU.at hb) (hS.at hb) (by omega) q hw hq0).mono fun e w' ⟨h1, h2⟩ => ⟨h1, hb.trans (h2.mono hb.size)⟩)
  have DE : Hid (∀ W, Below w.heap.size w W → Calls Try.prog 21 #[.slice uo un uc, .slice ro rn rc, .slice so sn sc] W fun e w' => e = .returned (.tuple #[.bool false, .int .i64 (q : Int)]) ∧ Below w.heap.size w w') := hid_of (fun W hb => by
    exact (closed_err uo un uc U ro rn rc rs so sn sc s W (IU.at hb) (hS.at hb) (by omega) q hw hq0).mono fun e w' ⟨h1, h2⟩ => ⟨h1, hb.trans (h2.mono hb.size)⟩)
  have ga_0 : decide ((41 : Int) < (sn : Int)) = false := by simp; omega
  have ga_1 : decide (41 < sn) = false := by simp; omega
  have ga_2 : decide ((sn : Int) > 41) = false := by simp; omega
  have t1 : ((q : Int) != 0) = true := by simp; omega
  have t2 : ((q : Int) == 0) = false := by simp; omega
  clear hU hz hR hS hh hl IU e1 e2 e3 hul hrl hq hq0 hw
  go_enter Try.func3, Try.ntmps3
  go_wp2_with (first
    | (go_at_call 15; ((with_reducible refine (AW.out).mono ?_); (rintro ee w1 ⟨rfl, q1⟩)); have B1 := hid_of q1; clear q1)
    | (go_at_call 16; ((with_reducible refine (HV.out w1 B1.out).mono ?_); (rintro ee w' ⟨rfl, rfl⟩)))
    | (go_at_call 17; ((with_reducible refine (RK.out w1 B1.out).mono ?_); (rintro ee w2 ⟨rfl, q1⟩)); have B2 := hid_of q1; clear q1)
    | (go_at_call 18; ((with_reducible refine (CK.out w2 B2.out).mono ?_); (rintro ee w3 ⟨rfl, q1⟩)); have B3 := hid_of q1; clear q1)
    | (go_at_call 20; ((with_reducible refine (CE.out w3 B3.out).mono ?_); (rintro ee w4 ⟨rfl, q1⟩)); have B4 := hid_of q1; clear q1)
    | (go_at_call 21; ((with_reducible refine (DE.out w4 B4.out).mono ?_); (rintro ee w5 ⟨rfl, q1⟩)); have B5 := hid_of q1; clear q1))
  go_ret
  exact ⟨rfl, B5.out⟩
set_option maxRecDepth 100000 in
set_option maxHeartbeats 1600000 in
theorem chk_bad2 (uo : Option Addr) (un uc : Nat) (U : List Str) (ro : Option Addr) (rn rc : Nat) (rs : List Gr) (so : Option Addr) (sn sc : Nat) (s : List Str) (w : World) (hU : Rd w (.slice uo un uc) (ss U)) (hz : ∀ y ∈ U, y.length ≤ 9223372036854775807) (hR : RuR w (.slice ro rn rc) rs) (hS : Rd w (.slice so sn sc) (ss s)) (hh : hvB U rs = false) (hl : ¬ 41 < sn) (hc : chkE U rs = 0) (q : Nat) (hq : setE U s = q) (hq0 : q ≠ 0) :
    Calls Try.prog 3 #[.slice uo un uc, .slice ro rn rc, .slice so sn sc] w fun e w' => e = .returned (.bool true) ∧ Below w.heap.size w w' := by
  have AW : Hid (Calls Try.prog 15 #[] w fun e w' => e = .returned (.bool true) ∧ Below w.heap.size w w') := hid_of (awake_any w)
  obtain ⟨hv, ehv⟩ : ∃ hv, hv = hvB U rs := ⟨_, rfl⟩
  have HV : Hid (∀ W, Below w.heap.size w W → Calls Try.prog 16 #[.slice uo un uc, .slice ro rn rc] W fun e w' => e = .returned (.bool hv) ∧ W = w') := hid_of (fun W hb => by rw [ehv]; exact heavy_any uo un uc U ro rn rc rs W (hU.at hb) (hR.at hb))
  have hn1 : sn ≤ 9223372036854775807 := by have := (rds_open hS).2; omega
  obtain ⟨e1, e2, e3⟩ := hvB_no hh
  have hul := (rds_open hU).1
  have hrl := hR.len.1
  have IU : InU w uo un uc U ro rn rc rs := ⟨hU, hR, hz, by omega, by omega, fun r hr => by have := e3 r hr; omega⟩
  rw [hh] at ehv
  subst ehv
  have hw : cwsE U rs s = q := by unfold cwsE; rw [if_pos hc]; exact hq
  have RK : Hid (∀ W, Below w.heap.size w W → Calls Try.prog 17 #[.slice uo un uc, .slice ro rn rc] W fun e w' => e = .returned (.int .i64 0) ∧ Below w.heap.size w w') := hid_of (fun W hb => by
    have h := rcheck_any uo un uc U ro rn rc rs W (hU.at hb) hz (hR.at hb)
    rw [hc] at h
    exact h.mono fun e w' ⟨h1, h2⟩ => ⟨h1, hb.trans (h2.mono hb.size)⟩)
  have CK : Hid (∀ W, Below w.heap.size w W → Calls Try.prog 18 #[.slice uo un uc, .slice ro rn rc] W fun e w' => e = .returned (.int .i64 0) ∧ Below w.heap.size w w') := hid_of (fun W hb => by
    have h := check_any uo un uc U ro rn rc rs W (IU.at hb)
    rw [hc] at h
    exact h.mono fun e w' ⟨h1, h2⟩ => ⟨h1, hb.trans (h2.mono hb.size)⟩)
  have RS : Hid (∀ W, Below w.heap.size w W → Calls Try.prog 19 #[.slice uo un uc, .slice so sn sc] W fun e w' => e = .returned (.int .i64 q) ∧ Below w.heap.size w w') := hid_of (fun W hb => by
    have h := rset_any uo un uc U so sn sc s W (hU.at hb) (hS.at hb)
    rw [hq] at h
    exact h.mono fun e w' ⟨h1, h2⟩ => ⟨h1, hb.trans (h2.mono hb.size)⟩)
  have CE : Hid (∀ W, Below w.heap.size w W → Calls Try.prog 20 #[.slice uo un uc, .slice ro rn rc, .slice so sn sc] W fun e w' => e = .returned (.tuple #[.slice none 0 0, .int .i64 (q : Int)]) ∧ Below w.heap.size w w') := hid_of (fun W hb => by
    exact (close_err uo un uc U ro rn rc rs so sn sc s W (IU.at hb) (hS.at hb) (by omega) q hw hq0).mono fun e w' ⟨h1, h2⟩ => ⟨h1, hb.trans (h2.mono hb.size)⟩)
  have DE : Hid (∀ W, Below w.heap.size w W → Calls Try.prog 21 #[.slice uo un uc, .slice ro rn rc, .slice so sn sc] W fun e w' => e = .returned (.tuple #[.bool false, .int .i64 (q : Int)]) ∧ Below w.heap.size w w') := hid_of (fun W hb => by
    exact (closed_err uo un uc U ro rn rc rs so sn sc s W (IU.at hb) (hS.at hb) (by omega) q hw hq0).mono fun e w' ⟨h1, h2⟩ => ⟨h1, hb.trans (h2.mono hb.size)⟩)
  have ga_0 : decide ((41 : Int) < (sn : Int)) = false := by simp; omega
  have ga_1 : decide (41 < sn) = false := by simp; omega
  have ga_2 : decide ((sn : Int) > 41) = false := by simp; omega
  have t1 : ((q : Int) != 0) = true := by simp; omega
  have t2 : ((q : Int) == 0) = false := by simp; omega
  clear hU hz hR hS hh hl IU e1 e2 e3 hul hrl hq hq0 hw hc
  go_enter Try.func3, Try.ntmps3
  go_wp2_with (first
    | (go_at_call 15; ((with_reducible refine (AW.out).mono ?_); (rintro ee w1 ⟨rfl, q1⟩)); have B1 := hid_of q1; clear q1)
    | (go_at_call 16; ((with_reducible refine (HV.out w1 B1.out).mono ?_); (rintro ee w' ⟨rfl, rfl⟩)))
    | (go_at_call 17; ((with_reducible refine (RK.out w1 B1.out).mono ?_); (rintro ee w2 ⟨rfl, q1⟩)); have B2 := hid_of q1; clear q1)
    | (go_at_call 18; ((with_reducible refine (CK.out w2 B2.out).mono ?_); (rintro ee w3 ⟨rfl, q1⟩)); have B3 := hid_of q1; clear q1)
    | (go_at_call 19; ((with_reducible refine (RS.out w3 B3.out).mono ?_); (rintro ee w4 ⟨rfl, q1⟩)); have B4 := hid_of q1; clear q1)
    | (go_at_call 20; ((with_reducible refine (CE.out w4 B4.out).mono ?_); (rintro ee w5 ⟨rfl, q1⟩)); have B5 := hid_of q1; clear q1)
    | (go_at_call 21; ((with_reducible refine (DE.out w5 B5.out).mono ?_); (rintro ee w6 ⟨rfl, q1⟩)); have B6 := hid_of q1; clear q1))
  go_ret
  exact ⟨rfl, B6.out⟩
set_option maxRecDepth 100000 in
set_option maxHeartbeats 1600000 in
theorem chk_main (uo : Option Addr) (un uc : Nat) (U : List Str) (ro : Option Addr) (rn rc : Nat) (rs : List Gr) (so : Option Addr) (sn sc : Nat) (s : List Str) (w : World) (hU : Rd w (.slice uo un uc) (ss U)) (hz : ∀ y ∈ U, y.length ≤ 9223372036854775807) (hR : RuR w (.slice ro rn rc) rs) (hS : Rd w (.slice so sn sc) (ss s)) (hh : hvB U rs = false) (hl : ¬ 41 < sn) (hq : cwsE U rs s = 0) :
    Calls Try.prog 3 #[.slice uo un uc, .slice ro rn rc, .slice so sn sc] w fun e w' => e = .returned (.bool true) ∧ Below w.heap.size w w' := by
  have AW : Hid (Calls Try.prog 15 #[] w fun e w' => e = .returned (.bool true) ∧ Below w.heap.size w w') := hid_of (awake_any w)
  obtain ⟨hv, ehv⟩ : ∃ hv, hv = hvB U rs := ⟨_, rfl⟩
  have HV : Hid (∀ W, Below w.heap.size w W → Calls Try.prog 16 #[.slice uo un uc, .slice ro rn rc] W fun e w' => e = .returned (.bool hv) ∧ W = w') := hid_of (fun W hb => by rw [ehv]; exact heavy_any uo un uc U ro rn rc rs W (hU.at hb) (hR.at hb))
  have hn1 : sn ≤ 9223372036854775807 := by have := (rds_open hS).2; omega
  obtain ⟨e1, e2, e3⟩ := hvB_no hh
  have hul := (rds_open hU).1
  have hrl := hR.len.1
  have IU : InU w uo un uc U ro rn rc rs := ⟨hU, hR, hz, by omega, by omega, fun r hr => by have := e3 r hr; omega⟩
  rw [hh] at ehv
  subst ehv
  have hk := (cws_open hq).1
  have hs0 : setE U s = 0 := setE_zero.2 (cws_open hq).2
  have RK : Hid (∀ W, Below w.heap.size w W → Calls Try.prog 17 #[.slice uo un uc, .slice ro rn rc] W fun e w' => e = .returned (.int .i64 0) ∧ Below w.heap.size w w') := hid_of (fun W hb => by
    have h := rcheck_any uo un uc U ro rn rc rs W (hU.at hb) hz (hR.at hb)
    rw [hk] at h
    exact h.mono fun e w' ⟨h1, h2⟩ => ⟨h1, hb.trans (h2.mono hb.size)⟩)
  have CK : Hid (∀ W, Below w.heap.size w W → Calls Try.prog 18 #[.slice uo un uc, .slice ro rn rc] W fun e w' => e = .returned (.int .i64 0) ∧ Below w.heap.size w w') := hid_of (fun W hb => by
    have h := check_any uo un uc U ro rn rc rs W (IU.at hb)
    rw [hk] at h
    exact h.mono fun e w' ⟨h1, h2⟩ => ⟨h1, hb.trans (h2.mono hb.size)⟩)
  have RS : Hid (∀ W, Below w.heap.size w W → Calls Try.prog 19 #[.slice uo un uc, .slice so sn sc] W fun e w' => e = .returned (.int .i64 0) ∧ Below w.heap.size w w') := hid_of (fun W hb => by
    have h := rset_any uo un uc U so sn sc s W (hU.at hb) (hS.at hb)
    rw [hs0] at h
    exact h.mono fun e w' ⟨h1, h2⟩ => ⟨h1, hb.trans (h2.mono hb.size)⟩)
  have CE : Hid (∀ W, Below w.heap.size w W → Calls Try.prog 20 #[.slice uo un uc, .slice ro rn rc, .slice so sn sc] W fun e w' => ∃ ao m cap, e = .returned (.tuple #[.slice ao m cap, .int .i64 0]) ∧ Hid (Rd w' (.slice ao m cap) (ss (clF U rs s))) ∧ Below w.heap.size w w') := hid_of (fun W hb => (close_any uo un uc U ro rn rc rs so sn sc s W (IU.at hb) (hS.at hb) (by omega) hq).mono (by
    rintro e w' ⟨l, ao, cap, rfl, h1, h2, h3, h4⟩
    have e : l = clF U rs s := ss_ext h2 (ss_clF (cws_open hq).1) fun x => by rw [h3 x, mem_clF hq]
    have h5 := h1.own
    have h6 : (ss l).length = l.length := by simp [ss]
    rw [h6] at h5
    refine ⟨ao, l.length, cap, rfl, hid_of ?_, hb.trans (h1.bel.mono hb.size)⟩
    rw [← e]
    exact rd_of_own1 h5 h6))
  obtain ⟨c, hc⟩ : ∃ c, c = clsB rs s := ⟨_, rfl⟩
  have DE : Hid (∀ W, Below w.heap.size w W → Calls Try.prog 21 #[.slice uo un uc, .slice ro rn rc, .slice so sn sc] W fun e w' => e = .returned (.tuple #[.bool c, .int .i64 0]) ∧ Below w.heap.size w w' ∧ Below W.heap.size W w') := hid_of (fun W hb => by
    rw [hc]
    exact (closed_any uo un uc U ro rn rc rs so sn sc s W (IU.at hb) (hS.at hb) (by omega) hq).mono fun e w' ⟨h1, h2⟩ => ⟨h1, hb.trans (h2.mono hb.size), h2⟩)
  have RC : Hid (∀ W, Below w.heap.size w W → Calls Try.prog 23 #[.slice uo un uc, .slice ro rn rc, .slice so sn sc] W fun e w' => ∃ ao m cap, e = .returned (.slice ao m cap) ∧ Hid (Rd w' (.slice ao m cap) (ss (clF U rs s))) ∧ Below w.heap.size w w' ∧ Below W.heap.size W w') := hid_of (fun W hb => (rclose_any uo un uc U ro rn rc rs so sn sc s W (hU.at hb) (by omega) (hR.at hb) (by omega) (hS.at hb) (by omega)).mono (by
    rintro e w' ⟨ao, m, cap, rfl, h1, h2⟩
    have h5 := h2.own
    have h6 : (ss (clF U rs s)).length = m := by rw [h1]; simp [ss]
    rw [h6] at h5
    exact ⟨ao, m, cap, rfl, hid_of (rd_of_own1 h5 h6), hb.trans (h2.bel.mono hb.size), h2.bel⟩))
  have RD : Hid (∀ W, Below w.heap.size w W → Calls Try.prog 24 #[.slice ro rn rc, .slice so sn sc] W fun e w' => e = .returned (.bool c) ∧ W = w') := hid_of (fun W hb => by
    rw [hc]
    exact rclosed_any ro rn rc rs so sn sc s W (hR.at hb) (hS.at hb))
  have SA : Hid (∀ W a1 m1 c1 a2 m2 c2, Rd W (.slice a1 m1 c1) (ss (clF U rs s)) → Rd W (.slice a2 m2 c2) (ss (clF U rs s)) → Calls Try.prog 22 #[.slice a1 m1 c1, .slice a2 m2 c2] W fun e w' => e = .returned (.bool true) ∧ Below W.heap.size W w') := hid_of (fun W a1 m1 c1 a2 m2 c2 h1 h2 => (rsame_any a1 m1 c1 a2 m2 c2 _ _ W h1 h2).mono fun e w' ⟨h3, h4⟩ => ⟨by rw [h3, decide_eq_true rfl], h4⟩)
  have ga_0 : decide ((41 : Int) < (sn : Int)) = false := by simp; omega
  have ga_1 : decide (41 < sn) = false := by simp; omega
  have ga_2 : decide ((sn : Int) > 41) = false := by simp; omega
  obtain ⟨F, hF⟩ : ∃ F, F = clF U rs s := ⟨_, rfl⟩
  rw [← hF] at CE RC SA
  clear hU hz hR hS hh hl IU e1 e2 e3 hul hrl hq hk hs0 hc hF
  go_enter Try.func3, Try.ntmps3
  go_wp2_with (first
    | (go_at_call 15; ((with_reducible refine (AW.out).mono ?_); (rintro ee w1 ⟨rfl, q1⟩)); have B1 := hid_of q1; clear q1)
    | (go_at_call 16; ((with_reducible refine (HV.out w1 B1.out).mono ?_); (rintro ee w' ⟨rfl, rfl⟩)))
    | (go_at_call 17; ((with_reducible refine (RK.out w1 B1.out).mono ?_); (rintro ee w2 ⟨rfl, q1⟩)); have B2 := hid_of q1; clear q1)
    | (go_at_call 18; ((with_reducible refine (CK.out w2 B2.out).mono ?_); (rintro ee w3 ⟨rfl, q1⟩)); have B3 := hid_of q1; clear q1)
    | (go_at_call 19; ((with_reducible refine (RS.out w3 B3.out).mono ?_); (rintro ee w4 ⟨rfl, q1⟩)); have B4 := hid_of q1; clear q1)
    | (go_at_call 20; ((with_reducible refine (CE.out w4 B4.out).mono ?_); (rintro ee w5 ⟨ao, am, ac, rfl, R5, q1⟩)); have B5 := hid_of q1; clear q1)
    | (go_at_call 21; ((with_reducible refine (DE.out w5 B5.out).mono ?_); (rintro ee w6 ⟨rfl, q1, q2⟩)); have B6 := hid_of q1; have R6 := hid_of (R5.out.at q2); clear q1 q2)
    | (go_at_call 23; ((with_reducible refine (RC.out w6 B6.out).mono ?_); (rintro ee w7 ⟨xo, xm, xc, rfl, S7, q1, q2⟩)); have B7 := hid_of q1; have R7 := hid_of (R6.out.at q2); clear q1 q2)
    | (go_at_call 22; ((with_reducible refine (SA.out w7 ao am ac xo xm xc R7.out S7.out).mono ?_); (rintro ee w8 ⟨rfl, q1⟩)); have B8 := hid_of (B7.out.trans (q1.mono B7.out.size)); clear q1)
    | (go_at_call 24; ((with_reducible refine (RD.out w8 B8.out).mono ?_); (rintro ee w9 ⟨rfl, rfl⟩))))
  go_ret
  exact ⟨by first | rfl | simp, B8.out⟩
theorem checks_law (uo : Option Addr) (un uc : Nat) (U : List Str) (ro : Option Addr) (rn rc : Nat) (rs : List Gr) (so : Option Addr) (sn sc : Nat) (s : List Str) (w : World) (hU : Rd w (.slice uo un uc) (ss U)) (hz : ∀ y ∈ U, y.length ≤ 9223372036854775807) (hR : RuR w (.slice ro rn rc) rs) (hS : Rd w (.slice so sn sc) (ss s)) :
    Calls Try.prog 3 #[.slice uo un uc, .slice ro rn rc, .slice so sn sc] w fun e w' => e = .returned (.bool true) ∧ Below w.heap.size w w' := by
  cases hh : hvB U rs with
  | true => exact chk_heavy uo un uc U ro rn rc rs so sn sc s w hU hz hR hS hh
  | false =>
    by_cases hl : 41 < sn
    · exact chk_long uo un uc U ro rn rc rs so sn sc s w hU hz hR hS hh hl
    · by_cases hc : chkE U rs = 0
      · by_cases hs : setE U s = 0
        · exact chk_main uo un uc U ro rn rc rs so sn sc s w hU hz hR hS hh hl (by unfold cwsE; rw [if_pos hc]; exact hs)
        · exact chk_bad2 uo un uc U ro rn rc rs so sn sc s w hU hz hR hS hh hl hc _ rfl hs
      · exact chk_bad1 uo un uc U ro rn rc rs so sn sc s w hU hz hR hS hh hl _ rfl hc
end Go.Proofs.Ytjponegeidiheaa
