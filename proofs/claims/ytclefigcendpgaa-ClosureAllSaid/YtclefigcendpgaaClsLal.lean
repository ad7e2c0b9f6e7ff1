/- ClosureAll. Bounds on sizes alone. -/
import Derived.Test.YtclefigcendpgaaClsRal
import Derived.Test.YtclefigcendpgaaClsRck2
import Derived.Test.YtclefigcendpgaaClsAllO
namespace Go.Proofs.Ytclefigcendpgaa
open Go.RowKit

set_option maxRecDepth 100000 in
set_option maxHeartbeats 1600000 in
theorem al_big (uo : Option Addr) (un uc : Nat) (U : List Str) (ro : Option Addr) (rn rc : Nat) (rs : List Gr) (lim : Int) (w : World) (hU : Rd w (.slice uo un uc) (ss U)) (hz : ∀ y ∈ U, y.length ≤ 9223372036854775807) (hR : RuR w (.slice ro rn rc) rs) (hl : 8 < un) :
    Calls Try.prog 12 #[.slice uo un uc, .slice ro rn rc, .int .i64 lim] w fun e w' => e = .returned (.bool true) ∧ Below w.heap.size w w' := by
  have AW : Hid (Calls Try.prog 15 #[] w fun e w' => e = .returned (.bool true) ∧ Below w.heap.size w w') := hid_of (awake_any w)
  obtain ⟨hv, ehv⟩ : ∃ hv, hv = hvB U rs := ⟨_, rfl⟩
  have HV : Hid (∀ W, Below w.heap.size w W → Calls Try.prog 16 #[.slice uo un uc, .slice ro rn rc] W fun e w' => e = .returned (.bool hv) ∧ W = w') := hid_of (fun W hb => by rw [ehv]; exact heavy_any uo un uc U ro rn rc rs W (hU.at hb) (hR.at hb))
  have hn0 : un ≤ 9223372036854775807 := by have := (rds_open hU).2; omega
  obtain ⟨q, hq⟩ : ∃ q, q = chkE U rs := ⟨_, rfl⟩
  have HK : Hid (∀ W, Below w.heap.size w W → Calls Try.prog 17 #[.slice uo un uc, .slice ro rn rc] W fun e w' => e = .returned (.int .i64 q) ∧ Below w.heap.size w w') := hid_of (fun W hb => by rw [hq]; exact (rcheck_any uo un uc U ro rn rc rs W (hU.at hb) hz (hR.at hb)).mono fun e w' ⟨h1, h2⟩ => ⟨h1, hb.trans (h2.mono hb.size)⟩)
  have ga_0 : decide ((8 : Int) < (un : Int)) = true := by simp; omega
  have ga_1 : decide (8 < un) = true := by simp; omega
  have ga_2 : decide ((un : Int) > 8) = true := by simp; omega
  clear hU hz hR hl HV ehv hq HK
  go_enter Try.func12, Try.ntmps12
  go_wp2_with (first
    | (go_at_call 15; ((with_reducible refine (AW.out).mono ?_); (rintro ee w1 ⟨rfl, q1⟩)); have B1 := hid_of q1; clear q1))
  go_ret
  exact ⟨rfl, B1.out⟩
set_option maxRecDepth 100000 in
set_option maxHeartbeats 1600000 in
theorem al_heavy (uo : Option Addr) (un uc : Nat) (U : List Str) (ro : Option Addr) (rn rc : Nat) (rs : List Gr) (lim : Int) (w : World) (hU : Rd w (.slice uo un uc) (ss U)) (hz : ∀ y ∈ U, y.length ≤ 9223372036854775807) (hR : RuR w (.slice ro rn rc) rs) (hl : ¬ 8 < un) (hh : hvB U rs = true) :
    Calls Try.prog 12 #[.slice uo un uc, .slice ro rn rc, .int .i64 lim] w fun e w' => e = .returned (.bool true) ∧ Below w.heap.size w w' := by
  have AW : Hid (Calls Try.prog 15 #[] w fun e w' => e = .returned (.bool true) ∧ Below w.heap.size w w') := hid_of (awake_any w)
  obtain ⟨hv, ehv⟩ : ∃ hv, hv = hvB U rs := ⟨_, rfl⟩
  have HV : Hid (∀ W, Below w.heap.size w W → Calls Try.prog 16 #[.slice uo un uc, .slice ro rn rc] W fun e w' => e = .returned (.bool hv) ∧ W = w') := hid_of (fun W hb => by rw [ehv]; exact heavy_any uo un uc U ro rn rc rs W (hU.at hb) (hR.at hb))
  have hn0 : un ≤ 9223372036854775807 := by have := (rds_open hU).2; omega
  obtain ⟨q, hq⟩ : ∃ q, q = chkE U rs := ⟨_, rfl⟩
  have HK : Hid (∀ W, Below w.heap.size w W → Calls Try.prog 17 #[.slice uo un uc, .slice ro rn rc] W fun e w' => e = .returned (.int .i64 q) ∧ Below w.heap.size w w') := hid_of (fun W hb => by rw [hq]; exact (rcheck_any uo un uc U ro rn rc rs W (hU.at hb) hz (hR.at hb)).mono fun e w' ⟨h1, h2⟩ => ⟨h1, hb.trans (h2.mono hb.size)⟩)
  rw [hh] at ehv
  subst ehv
  have ga_0 : decide ((8 : Int) < (un : Int)) = false := by simp; omega
  have ga_1 : decide (8 < un) = false := by simp; omega
  have ga_2 : decide ((un : Int) > 8) = false := by simp; omega
  clear hU hz hR hl hh hq HK
  go_enter Try.func12, Try.ntmps12
  go_wp2_with (first
    | (go_at_call 15; ((with_reducible refine (AW.out).mono ?_); (rintro ee w1 ⟨rfl, q1⟩)); have B1 := hid_of q1; clear q1)
    | (go_at_call 16; ((with_reducible refine (HV.out w1 B1.out).mono ?_); (rintro ee w' ⟨rfl, rfl⟩))))
  go_ret
  exact ⟨rfl, B1.out⟩
set_option maxRecDepth 100000 in
set_option maxHeartbeats 1600000 in
theorem al_chk (uo : Option Addr) (un uc : Nat) (U : List Str) (ro : Option Addr) (rn rc : Nat) (rs : List Gr) (lim : Int) (w : World) (hU : Rd w (.slice uo un uc) (ss U)) (hz : ∀ y ∈ U, y.length ≤ 9223372036854775807) (hR : RuR w (.slice ro rn rc) rs) (hl : ¬ 8 < un) (hh : hvB U rs = false) (hc : chkE U rs ≠ 0) :
    Calls Try.prog 12 #[.slice uo un uc, .slice ro rn rc, .int .i64 lim] w fun e w' => e = .returned (.bool true) ∧ Below w.heap.size w w' := by
  have AW : Hid (Calls Try.prog 15 #[] w fun e w' => e = .returned (.bool true) ∧ Below w.heap.size w w') := hid_of (awake_any w)
  obtain ⟨hv, ehv⟩ : ∃ hv, hv = hvB U rs := ⟨_, rfl⟩
  have HV : Hid (∀ W, Below w.heap.size w W → Calls Try.prog 16 #[.slice uo un uc, .slice ro rn rc] W fun e w' => e = .returned (.bool hv) ∧ W = w') := hid_of (fun W hb => by rw [ehv]; exact heavy_any uo un uc U ro rn rc rs W (hU.at hb) (hR.at hb))
  have hn0 : un ≤ 9223372036854775807 := by have := (rds_open hU).2; omega
  obtain ⟨q, hq⟩ : ∃ q, q = chkE U rs := ⟨_, rfl⟩
  have HK : Hid (∀ W, Below w.heap.size w W → Calls Try.prog 17 #[.slice uo un uc, .slice ro rn rc] W fun e w' => e = .returned (.int .i64 q) ∧ Below w.heap.size w w') := hid_of (fun W hb => by rw [hq]; exact (rcheck_any uo un uc U ro rn rc rs W (hU.at hb) hz (hR.at hb)).mono fun e w' ⟨h1, h2⟩ => ⟨h1, hb.trans (h2.mono hb.size)⟩)
  rw [hh] at ehv
  subst ehv
  have ga_0 : decide ((8 : Int) < (un : Int)) = false := by simp; omega
  have ga_1 : decide (8 < un) = false := by simp; omega
  have ga_2 : decide ((un : Int) > 8) = false := by simp; omega
  have t1 : ((q : Int) != 0) = true := by simp; omega
  clear hU hz hR hl hh hq hc
  go_enter Try.func12, Try.ntmps12
  go_wp2_with (first
    | (go_at_call 15; ((with_reducible refine (AW.out).mono ?_); (rintro ee w1 ⟨rfl, q1⟩)); have B1 := hid_of q1; clear q1)
    | (go_at_call 16; ((with_reducible refine (HV.out w1 B1.out).mono ?_); (rintro ee w' ⟨rfl, rfl⟩)))
    | (go_at_call 17; ((with_reducible refine (HK.out w1 B1.out).mono ?_); (rintro ee w2 ⟨rfl, q1⟩)); have B2 := hid_of q1; clear q1))
  go_ret
  exact ⟨rfl, B2.out⟩
set_option maxRecDepth 100000 in
set_option maxHeartbeats 1600000 in
theorem al_arg (uo : Option Addr) (un uc : Nat) (U : List Str) (ro : Option Addr) (rn rc : Nat) (rs : List Gr) (lim : Int) (w : World) (hU : Rd w (.slice uo un uc) (ss U)) (hz : ∀ y ∈ U, y.length ≤ 9223372036854775807) (hR : RuR w (.slice ro rn rc) rs) (hl : ¬ 8 < un) (hh : hvB U rs = false) (hc : chkE U rs = 0) (hlim : lim < 1) :
    Calls Try.prog 12 #[.slice uo un uc, .slice ro rn rc, .int .i64 lim] w fun e w' => e = .returned (.bool true) ∧ Below w.heap.size w w' := by
  have AW : Hid (Calls Try.prog 15 #[] w fun e w' => e = .returned (.bool true) ∧ Below w.heap.size w w') := hid_of (awake_any w)
  obtain ⟨hv, ehv⟩ : ∃ hv, hv = hvB U rs := ⟨_, rfl⟩
  have HV : Hid (∀ W, Below w.heap.size w W → Calls Try.prog 16 #[.slice uo un uc, .slice ro rn rc] W fun e w' => e = .returned (.bool hv) ∧ W = w') := hid_of (fun W hb => by rw [ehv]; exact heavy_any uo un uc U ro rn rc rs W (hU.at hb) (hR.at hb))
  have hn0 : un ≤ 9223372036854775807 := by have := (rds_open hU).2; omega
  obtain ⟨q, hq⟩ : ∃ q, q = chkE U rs := ⟨_, rfl⟩
  have HK : Hid (∀ W, Below w.heap.size w W → Calls Try.prog 17 #[.slice uo un uc, .slice ro rn rc] W fun e w' => e = .returned (.int .i64 q) ∧ Below w.heap.size w w') := hid_of (fun W hb => by rw [hq]; exact (rcheck_any uo un uc U ro rn rc rs W (hU.at hb) hz (hR.at hb)).mono fun e w' ⟨h1, h2⟩ => ⟨h1, hb.trans (h2.mono hb.size)⟩)
  obtain ⟨e1, e2, e3⟩ := hvB_no hh
  have hul := (rds_open hU).1
  have hrl := hR.len.1
  have IU : InU w uo un uc U ro rn rc rs := ⟨hU, hR, hz, by omega, by omega, fun r hr => by have := e3 r hr; omega⟩
  rw [hh] at ehv
  subst ehv
  rw [hc] at hq
  subst hq
  have hM : (allF U rs).length ≤ 256 := Nat.le_trans (allF_len U rs) (by
    have : 2 ^ U.length ≤ 2 ^ 8 := Nat.pow_le_pow_right (by omega) (by omega)
    omega)
  obtain ⟨M, hMM⟩ : ∃ M, M = (allF U rs).length := ⟨_, rfl⟩
  have RA : Hid (∀ W, Below w.heap.size w W → Calls Try.prog 39 #[.slice uo un uc, .slice ro rn rc] W fun e w' => ∃ ao cap, e = .returned (.slice ao M cap) ∧ SetsR W.heap.size w' (.slice ao M cap) (allF U rs) ∧ Below W.heap.size W w' ∧ Below w.heap.size w w') := hid_of (fun W hb => by
    refine (rall_any uo un uc U ro rn rc rs W (hU.at hb) (hR.at hb) (by omega)).mono fun e w' ⟨ao, n, cap, h1, h2, h3⟩ => ?_
    rw [← allF_eq hc] at h2
    have e := h2.len
    rw [← hMM] at e
    subst e
    exact ⟨ao, cap, h1, h2, h3, hb.trans (h3.mono hb.size)⟩)
  have ga_0 : decide ((8 : Int) < (un : Int)) = false := by simp; omega
  have ga_1 : decide (8 < un) = false := by simp; omega
  have ga_2 : decide ((un : Int) > 8) = false := by simp; omega
  have HA : Hid (∀ W, Below w.heap.size w W → Calls Try.prog 30 #[.slice uo un uc, .slice ro rn rc, .int .i64 lim] W fun e w' => e = .returned (.tuple #[.slice none 0 0, .int .i64 1]) ∧ Below w.heap.size w w') := hid_of (fun W hb => (all_arg uo un uc U ro rn rc rs lim W (IU.at hb) hc hlim).mono fun e w' ⟨h1, h2⟩ => ⟨h1, hb.trans (h2.mono hb.size)⟩)
  have hd : decide (lim < 1) = true := by simp; omega
  clear hU hz hR hl hh hc IU e1 e2 e3 hul hrl hM hMM RA hlim
  go_enter Try.func12, Try.ntmps12
  go_wp2_with (first
    | (go_at_call 15; ((with_reducible refine (AW.out).mono ?_); (rintro ee w1 ⟨rfl, q1⟩)); have B1 := hid_of q1; clear q1)
    | (go_at_call 16; ((with_reducible refine (HV.out w1 B1.out).mono ?_); (rintro ee w' ⟨rfl, rfl⟩)))
    | (go_at_call 17; ((with_reducible refine (HK.out w1 B1.out).mono ?_); (rintro ee w2 ⟨rfl, q1⟩)); have B2 := hid_of q1; clear q1)
    | (go_at_call 30; ((with_reducible refine (HA.out w2 B2.out).mono ?_); (rintro ee w3 ⟨rfl, q1⟩)); have B3 := hid_of q1; clear q1))
  go_ret
  exact ⟨rfl, B3.out⟩
set_option maxRecDepth 100000 in
set_option maxHeartbeats 1600000 in
theorem al_over (uo : Option Addr) (un uc : Nat) (U : List Str) (ro : Option Addr) (rn rc : Nat) (rs : List Gr) (lim : Int) (w : World) (hU : Rd w (.slice uo un uc) (ss U)) (hz : ∀ y ∈ U, y.length ≤ 9223372036854775807) (hR : RuR w (.slice ro rn rc) rs) (hl : ¬ 8 < un) (hh : hvB U rs = false) (hc : chkE U rs = 0) (hlim : ¬ lim < 1) (hlm : lim ≤ 9223372036854775807) (ho : lim < ((allF U rs).length : Int)) :
    Calls Try.prog 12 #[.slice uo un uc, .slice ro rn rc, .int .i64 lim] w fun e w' => e = .returned (.bool true) ∧ Below w.heap.size w w' := by
  have AW : Hid (Calls Try.prog 15 #[] w fun e w' => e = .returned (.bool true) ∧ Below w.heap.size w w') := hid_of (awake_any w)
  obtain ⟨hv, ehv⟩ : ∃ hv, hv = hvB U rs := ⟨_, rfl⟩
  have HV : Hid (∀ W, Below w.heap.size w W → Calls Try.prog 16 #[.slice uo un uc, .slice ro rn rc] W fun e w' => e = .returned (.bool hv) ∧ W = w') := hid_of (fun W hb => by rw [ehv]; exact heavy_any uo un uc U ro rn rc rs W (hU.at hb) (hR.at hb))
  have hn0 : un ≤ 9223372036854775807 := by have := (rds_open hU).2; omega
  obtain ⟨q, hq⟩ : ∃ q, q = chkE U rs := ⟨_, rfl⟩
  have HK : Hid (∀ W, Below w.heap.size w W → Calls Try.prog 17 #[.slice uo un uc, .slice ro rn rc] W fun e w' => e = .returned (.int .i64 q) ∧ Below w.heap.size w w') := hid_of (fun W hb => by rw [hq]; exact (rcheck_any uo un uc U ro rn rc rs W (hU.at hb) hz (hR.at hb)).mono fun e w' ⟨h1, h2⟩ => ⟨h1, hb.trans (h2.mono hb.size)⟩)
  obtain ⟨e1, e2, e3⟩ := hvB_no hh
  have hul := (rds_open hU).1
  have hrl := hR.len.1
  have IU : InU w uo un uc U ro rn rc rs := ⟨hU, hR, hz, by omega, by omega, fun r hr => by have := e3 r hr; omega⟩
  rw [hh] at ehv
  subst ehv
  rw [hc] at hq
  subst hq
  have hM : (allF U rs).length ≤ 256 := Nat.le_trans (allF_len U rs) (by
    have : 2 ^ U.length ≤ 2 ^ 8 := Nat.pow_le_pow_right (by omega) (by omega)
    omega)
  obtain ⟨M, hMM⟩ : ∃ M, M = (allF U rs).length := ⟨_, rfl⟩
  have RA : Hid (∀ W, Below w.heap.size w W → Calls Try.prog 39 #[.slice uo un uc, .slice ro rn rc] W fun e w' => ∃ ao cap, e = .returned (.slice ao M cap) ∧ SetsR W.heap.size w' (.slice ao M cap) (allF U rs) ∧ Below W.heap.size W w' ∧ Below w.heap.size w w') := hid_of (fun W hb => by
    refine (rall_any uo un uc U ro rn rc rs W (hU.at hb) (hR.at hb) (by omega)).mono fun e w' ⟨ao, n, cap, h1, h2, h3⟩ => ?_
    rw [← allF_eq hc] at h2
    have e := h2.len
    rw [← hMM] at e
    subst e
    exact ⟨ao, cap, h1, h2, h3, hb.trans (h3.mono hb.size)⟩)
  have ga_0 : decide ((8 : Int) < (un : Int)) = false := by simp; omega
  have ga_1 : decide (8 < un) = false := by simp; omega
  have ga_2 : decide ((un : Int) > 8) = false := by simp; omega
  have HA : Hid (∀ W, Below w.heap.size w W → Calls Try.prog 30 #[.slice uo un uc, .slice ro rn rc, .int .i64 lim] W fun e w' => e = .returned (.tuple #[.slice none 0 0, .int .i64 6]) ∧ Below w.heap.size w w') := hid_of (fun W hb => (all_over uo un uc U ro rn rc rs lim W (IU.at hb) hc (by omega) hlm (by omega) (by omega) ho).mono fun e w' ⟨h1, h2⟩ => ⟨h1, hb.trans (h2.mono hb.size)⟩)
  have hd : decide (lim < 1) = false := by simp; omega
  rw [← hMM] at ho
  have hd2 : decide ((M : Int) > lim) = true := by simp; omega
  have hd3 : decide (lim < (M : Int)) = true := by simp; omega
  have hM2 : M ≤ 256 := by omega
  clear hU hz hR hl hh hc IU e1 e2 e3 hul hrl hM hMM hlim hlm ho
  go_enter Try.func12, Try.ntmps12
  go_wp2_with (first
    | (go_at_call 15; ((with_reducible refine (AW.out).mono ?_); (rintro ee w1 ⟨rfl, q1⟩)); have B1 := hid_of q1; clear q1)
    | (go_at_call 16; ((with_reducible refine (HV.out w1 B1.out).mono ?_); (rintro ee w' ⟨rfl, rfl⟩)))
    | (go_at_call 17; ((with_reducible refine (HK.out w1 B1.out).mono ?_); (rintro ee w2 ⟨rfl, q1⟩)); have B2 := hid_of q1; clear q1)
    | (go_at_call 30; ((with_reducible refine (HA.out w2 B2.out).mono ?_); (rintro ee w3 ⟨rfl, q1⟩)); have B3 := hid_of q1; clear q1)
    | (go_at_call 39; ((with_reducible refine (RA.out w3 B3.out).mono ?_); (rintro ee w4 ⟨bo, bc, rfl, q0, q1, q2⟩)); have B4 := hid_of q2; clear q0 q1 q2))
  go_ret
  exact ⟨rfl, B4.out⟩
set_option maxRecDepth 100000 in
set_option maxHeartbeats 1600000 in
theorem al_main (uo : Option Addr) (un uc : Nat) (U : List Str) (ro : Option Addr) (rn rc : Nat) (rs : List Gr) (lim : Int) (w : World) (hU : Rd w (.slice uo un uc) (ss U)) (hz : ∀ y ∈ U, y.length ≤ 9223372036854775807) (hR : RuR w (.slice ro rn rc) rs) (hl : ¬ 8 < un) (hh : hvB U rs = false) (hc : chkE U rs = 0) (hlim : ¬ lim < 1) (hlm : lim ≤ 9223372036854775807) (ho : ¬ lim < ((allF U rs).length : Int)) :
    Calls Try.prog 12 #[.slice uo un uc, .slice ro rn rc, .int .i64 lim] w fun e w' => e = .returned (.bool true) ∧ Below w.heap.size w w' := by
  have AW : Hid (Calls Try.prog 15 #[] w fun e w' => e = .returned (.bool true) ∧ Below w.heap.size w w') := hid_of (awake_any w)
  obtain ⟨hv, ehv⟩ : ∃ hv, hv = hvB U rs := ⟨_, rfl⟩
  have HV : Hid (∀ W, Below w.heap.size w W → Calls Try.prog 16 #[.slice uo un uc, .slice ro rn rc] W fun e w' => e = .returned (.bool hv) ∧ W = w') := hid_of (fun W hb => by rw [ehv]; exact heavy_any uo un uc U ro rn rc rs W (hU.at hb) (hR.at hb))
  have hn0 : un ≤ 9223372036854775807 := by have := (rds_open hU).2; omega
  obtain ⟨q, hq⟩ : ∃ q, q = chkE U rs := ⟨_, rfl⟩
  have HK : Hid (∀ W, Below w.heap.size w W → Calls Try.prog 17 #[.slice uo un uc, .slice ro rn rc] W fun e w' => e = .returned (.int .i64 q) ∧ Below w.heap.size w w') := hid_of (fun W hb => by rw [hq]; exact (rcheck_any uo un uc U ro rn rc rs W (hU.at hb) hz (hR.at hb)).mono fun e w' ⟨h1, h2⟩ => ⟨h1, hb.trans (h2.mono hb.size)⟩)
  obtain ⟨e1, e2, e3⟩ := hvB_no hh
  have hul := (rds_open hU).1
  have hrl := hR.len.1
  have IU : InU w uo un uc U ro rn rc rs := ⟨hU, hR, hz, by omega, by omega, fun r hr => by have := e3 r hr; omega⟩
  rw [hh] at ehv
  subst ehv
  rw [hc] at hq
  subst hq
  have hM : (allF U rs).length ≤ 256 := Nat.le_trans (allF_len U rs) (by
    have : 2 ^ U.length ≤ 2 ^ 8 := Nat.pow_le_pow_right (by omega) (by omega)
    omega)
  obtain ⟨M, hMM⟩ : ∃ M, M = (allF U rs).length := ⟨_, rfl⟩
  have RA : Hid (∀ W, Below w.heap.size w W → Calls Try.prog 39 #[.slice uo un uc, .slice ro rn rc] W fun e w' => ∃ ao cap, e = .returned (.slice ao M cap) ∧ SetsR W.heap.size w' (.slice ao M cap) (allF U rs) ∧ Below W.heap.size W w' ∧ Below w.heap.size w w') := hid_of (fun W hb => by
    refine (rall_any uo un uc U ro rn rc rs W (hU.at hb) (hR.at hb) (by omega)).mono fun e w' ⟨ao, n, cap, h1, h2, h3⟩ => ?_
    rw [← allF_eq hc] at h2
    have e := h2.len
    rw [← hMM] at e
    subst e
    exact ⟨ao, cap, h1, h2, h3, hb.trans (h3.mono hb.size)⟩)
  have ga_0 : decide ((8 : Int) < (un : Int)) = false := by simp; omega
  have ga_1 : decide (8 < un) = false := by simp; omega
  have ga_2 : decide ((un : Int) > 8) = false := by simp; omega
  have HA : Hid (∀ W, Below w.heap.size w W → Calls Try.prog 30 #[.slice uo un uc, .slice ro rn rc, .int .i64 lim] W fun e w' => ∃ ao cap, e = .returned (.tuple #[.slice ao M cap, .int .i64 0]) ∧ SetsR W.heap.size w' (.slice ao M cap) (allF U rs) ∧ Below w.heap.size w w') := hid_of (fun W hb => by
    rw [hMM]
    exact (all_good uo un uc U ro rn rc rs lim W (IU.at hb) hc (by omega) hlm (by omega) (by omega) (by omega)).mono fun e w' ⟨ao, cap, h1, h2, h3⟩ => ⟨ao, cap, h1, h2, hb.trans (h3.mono hb.size)⟩)
  have hd : decide (lim < 1) = false := by simp; omega
  rw [← hMM] at ho
  have hd2 : decide ((M : Int) > lim) = false := by simp; omega
  have hd3 : decide (lim < (M : Int)) = false := by simp; omega
  have hM2 : M ≤ 256 := by omega
  have HSM : Hid (∀ W xo n xc yo yc (l : List Str), Rd W (.slice xo n xc) (ss l) → Rd W (.slice yo n yc) (ss l) → Calls Try.prog 22 #[.slice xo n xc, .slice yo n yc] W fun e w' => e = .returned (.bool true) ∧ Below W.heap.size W w') := hid_of (fun W xo n xc yo yc l r1 r2 => by
    have := rsame_any xo n xc yo n yc l l W r1 r2
    rw [decide_eq_true rfl] at this; exact this)
  obtain ⟨F, hF⟩ : ∃ F, F = allF U rs := ⟨_, rfl⟩
  have HMM : Hid (M = F.length) := hid_of (by rw [hF]; exact hMM)
  rw [← hF] at HA RA
  clear hU hz hR hl hh hc IU e1 e2 e3 hul hrl hM hMM hlim hlm ho hF
  go_enter Try.func12, Try.ntmps12
  go_wp2_with (first
    | (go_at_call 15; ((with_reducible refine (AW.out).mono ?_); (rintro ee w1 ⟨rfl, q1⟩)); have B1 := hid_of q1; clear q1)
    | (go_at_call 16; ((with_reducible refine (HV.out w1 B1.out).mono ?_); (rintro ee w' ⟨rfl, rfl⟩)))
    | (go_at_call 17; ((with_reducible refine (HK.out w1 B1.out).mono ?_); (rintro ee w2 ⟨rfl, q1⟩)); have B2 := hid_of q1; clear q1)
    | (go_at_call 30; ((with_reducible refine (HA.out w2 B2.out).mono ?_); (rintro ee w3 ⟨ao, ac, rfl, q0, q1⟩)); have S3 := hid_of q0; have B3 := hid_of q1; clear q0 q1)
    | (go_at_call 39; ((with_reducible refine (RA.out w3 B3.out).mono ?_); (rintro ee w4 ⟨bo, bc, rfl, q0, q1, q2⟩)); have S4 := hid_of q0; have T4 := hid_of (S3.out.below q1); have B4 := hid_of q2; clear q0 q1 q2))
  go_loopw [10] (fun iv wr => ∃ (k : Nat), k ≤ M ∧ iv = .int .i64 k ∧ Hid (Below w4.heap.size w4 wr)) (fun iv _ => M - (intOf iv).toNat)
  case atStart => exact ⟨0, Nat.zero_le _, rfl, hid_of (Below.refl _ _)⟩
  case round =>
    obtain ⟨k, hk, rfl, hbw⟩ := hrel
    by_cases hlt : k < M
    · have hdk : decide (k < M) = true := by simp; omega
      have hi0 : (0 : Int) ≤ (k : Int) := Int.natCast_nonneg _
      have hi1 : (k : Int) < (M : Int) := by omega
      obtain ⟨l, hl⟩ : ∃ l, F[k]? = some l := ⟨_, List.getElem?_eq_getElem (by have := HMM.out; omega)⟩
      obtain ⟨ga, xo, xc, rfl, hga⟩ := T4.out.get hl
      obtain ⟨gb, yo, yc, rfl, hgb⟩ := S4.out.get hl
      obtain ⟨n, hn⟩ : ∃ n, n = l.length := ⟨_, rfl⟩
      have BD : Hid (Below wr.heap.size wr wr.drew) := hid_of (Below.refl _ _).drew
      have CC : Hid (∀ W, Below wr.heap.size wr W → W.cell? ⟨ga, k, none⟩ = some (.slice xo n xc) ∧ W.cell? ⟨gb, k, none⟩ = some (.slice yo n yc)) := hid_of (fun W hb => by
        have hb2 := hbw.out.trans (hb.mono hbw.out.size)
        rw [hn]; exact ⟨(hga W hb2).1, (hgb W hb2).1⟩)
      have HC : Hid (Calls Try.prog 22 #[.slice xo n xc, .slice yo n yc] wr.drew fun e w' => e = .returned (.bool true) ∧ Below wr.heap.size wr w') := hid_of (by
        have hb2 := hbw.out.trans (BD.out.mono hbw.out.size)
        rw [hn]
        exact (HSM.out wr.drew xo _ xc yo yc l (hga _ hb2).2 (hgb _ hb2).2).mono fun e w' ⟨q1, q2⟩ => ⟨q1, BD.out.trans (q2.mono (Nat.le_refl _))⟩)
      obtain ⟨y1, y2⟩ := CC.out wr (Below.refl _ _)
      clear hga hgb hl hn
      go_wp2
      go_region_held_law (fun W => W.cell? ⟨ga, k, none⟩ = some (.slice xo n xc) ∧ W.cell? ⟨gb, k, none⟩ = some (.slice yo n yc)) (first | exact CC.out _ BD.out | exact CC.out _ B8.out) ((go_at_call 22; ((with_reducible refine (HC.out).mono ?_); (rintro ee w8 ⟨rfl, q1⟩; have B8 := hid_of q1; clear q1))))
      all_goals go_wp2
      go_roundw
      case rel => exact ⟨k + 1, by omega, by go_num, hid_of (hbw.out.trans (B8.out.mono hbw.out.size))⟩
      case measure => simp [intOf]; omega
    · have hdk : decide (k < M) = false := by simp; omega
      go_wp2
      go_ret
      exact ⟨rfl, B4.out.trans (hbw.out.mono B4.out.size)⟩
theorem all_law (uo : Option Addr) (un uc : Nat) (U : List Str) (ro : Option Addr) (rn rc : Nat) (rs : List Gr) (lim : Int) (w : World) (hU : Rd w (.slice uo un uc) (ss U)) (hz : ∀ y ∈ U, y.length ≤ 9223372036854775807) (hR : RuR w (.slice ro rn rc) rs) (hw : (Lit.int .i64 lim).wf = true) :
    Calls Try.prog 12 #[.slice uo un uc, .slice ro rn rc, .int .i64 lim] w fun e w' => e = .returned (.bool true) ∧ Below w.heap.size w w' := by
  have hlm : lim ≤ 9223372036854775807 := by
    have : -9223372036854775808 ≤ lim ∧ lim ≤ 9223372036854775807 := by simpa [Lit.wf, IntKind.min, IntKind.max, IntKind.signed, IntKind.bits] using hw
    exact this.2
  by_cases l0 : 8 < un
  · exact al_big uo un uc U ro rn rc rs lim w hU hz hR l0
  · cases hh : hvB U rs with
    | true => exact al_heavy uo un uc U ro rn rc rs lim w hU hz hR l0 hh
    | false =>
      by_cases hc : chkE U rs = 0
      · by_cases hl : lim < 1
        · exact al_arg uo un uc U ro rn rc rs lim w hU hz hR l0 hh hc hl
        · by_cases ho : lim < ((allF U rs).length : Int)
          · exact al_over uo un uc U ro rn rc rs lim w hU hz hR l0 hh hc hl hlm ho
          · exact al_main uo un uc U ro rn rc rs lim w hU hz hR l0 hh hc hl hlm ho
      · exact al_chk uo un uc U ro rn rc rs lim w hU hz hR l0 hh hc
end Go.Proofs.Ytclefigcendpgaa
