/- ClosureEntails. Bounds on sizes alone. -/
import Derived.Test.YtjponegeidiheaaClsRch2
import Derived.Test.YtjponegeidiheaaClsRck2
import Derived.Test.YtjponegeidiheaaClsInR
namespace Go.Proofs.Ytjponegeidiheaa
open Go.RowKit

set_option maxRecDepth 100000 in
set_option maxHeartbeats 1600000 in
theorem ents_heavy (uo : Option Addr) (un uc : Nat) (U : List Str) (ro : Option Addr) (rn rc : Nat) (rs : List Gr) (po : Option Addr) (pn pc : Nat) (p : List Str) (x : Str) (w : World) (hU : Rd w (.slice uo un uc) (ss U)) (hz : ∀ y ∈ U, y.length ≤ 9223372036854775807) (hR : RuR w (.slice ro rn rc) rs) (hp : Rd w (.slice po pn pc) (ss p)) (hh : hvB U rs = true) :
    Calls Try.prog 5 #[.slice uo un uc, .slice ro rn rc, .agg #[.slice po pn pc, .string (ba x)]] w fun e w' => e = .returned (.bool true) ∧ Below w.heap.size w w' := by
  obtain ⟨bx, ebx⟩ : ∃ bx, bx = ba x := ⟨_, rfl⟩
  rw [← ebx]
  obtain ⟨wb, hwb⟩ : ∃ wb, wb = (w.alloc (.cells #[.slice po pn pc, .string bx] 41)) := ⟨_, rfl⟩
  have B0 : Below w.heap.size w wb := by rw [hwb]; exact bel_alloc w _
  have hbx : wb.heap[w.heap.size]? = some (.cells #[.slice po pn pc, .string bx] 41 (0, 0)) := by rw [hwb]; exact heap_alloc_new w _
  have CB : Hid (∀ W, Below wb.heap.size wb W → W.cell? ⟨w.heap.size, 0, none⟩ = some (.slice po pn pc) ∧ W.cell? ⟨w.heap.size, 1, none⟩ = some (.string bx)) := hid_of (fun W hb => by
    have e := (hb.block _ (lt_of_block hbx)).trans hbx
    exact ⟨blk_cell (cs := [.slice po pn pc, .string bx]) e (j := 0) rfl, blk_cell (cs := [.slice po pn pc, .string bx]) e (j := 1) rfl⟩)
  have AW : Hid (Calls Try.prog 15 #[] wb fun e w' => e = .returned (.bool true) ∧ Below wb.heap.size wb w') := hid_of (awake_any wb)
  obtain ⟨hv, ehv⟩ : ∃ hv, hv = hvB U rs := ⟨_, rfl⟩
  have HV : Hid (∀ W, Below wb.heap.size wb W → Calls Try.prog 16 #[.slice uo un uc, .slice ro rn rc] W fun e w' => e = .returned (.bool hv) ∧ W = w') := hid_of (fun W hb => by rw [ehv]; exact heavy_any uo un uc U ro rn rc rs W ((hU.at B0).at hb) ((hR.at B0).at hb))
  have HB0 := hid_of B0
  have hn1 : pn ≤ 9223372036854775807 := by have := (rds_open hp).2; omega
  rw [hh] at ehv
  subst ehv
  clear hU hz hR hp hh B0 hbx ebx
  subst hwb
  go_enter Try.func5, Try.ntmps5
  go_wp2_with (first
    | (go_at_call 15; ((with_reducible refine (AW.out).mono ?_); (rintro ee w1 ⟨rfl, q1⟩)); have B1 := hid_of q1; obtain ⟨k10, k11⟩ := CB.out w1 q1; clear q1)
    | (go_at_call 16; ((with_reducible refine (HV.out w1 B1.out).mono ?_); (rintro ee w' ⟨rfl, rfl⟩))))
  go_ret
  exact ⟨by first | rfl | simp, HB0.out.trans (B1.out.mono HB0.out.size)⟩
set_option maxRecDepth 100000 in
set_option maxHeartbeats 1600000 in
theorem ents_long (uo : Option Addr) (un uc : Nat) (U : List Str) (ro : Option Addr) (rn rc : Nat) (rs : List Gr) (po : Option Addr) (pn pc : Nat) (p : List Str) (x : Str) (w : World) (hU : Rd w (.slice uo un uc) (ss U)) (hz : ∀ y ∈ U, y.length ≤ 9223372036854775807) (hR : RuR w (.slice ro rn rc) rs) (hp : Rd w (.slice po pn pc) (ss p)) (hh : hvB U rs = false) (hl : 41 < pn) :
    Calls Try.prog 5 #[.slice uo un uc, .slice ro rn rc, .agg #[.slice po pn pc, .string (ba x)]] w fun e w' => e = .returned (.bool true) ∧ Below w.heap.size w w' := by
  obtain ⟨bx, ebx⟩ : ∃ bx, bx = ba x := ⟨_, rfl⟩
  rw [← ebx]
  obtain ⟨wb, hwb⟩ : ∃ wb, wb = (w.alloc (.cells #[.slice po pn pc, .string bx] 41)) := ⟨_, rfl⟩
  have B0 : Below w.heap.size w wb := by rw [hwb]; exact bel_alloc w _
  have hbx : wb.heap[w.heap.size]? = some (.cells #[.slice po pn pc, .string bx] 41 (0, 0)) := by rw [hwb]; exact heap_alloc_new w _
  have CB : Hid (∀ W, Below wb.heap.size wb W → W.cell? ⟨w.heap.size, 0, none⟩ = some (.slice po pn pc) ∧ W.cell? ⟨w.heap.size, 1, none⟩ = some (.string bx)) := hid_of (fun W hb => by
    have e := (hb.block _ (lt_of_block hbx)).trans hbx
    exact ⟨blk_cell (cs := [.slice po pn pc, .string bx]) e (j := 0) rfl, blk_cell (cs := [.slice po pn pc, .string bx]) e (j := 1) rfl⟩)
  have AW : Hid (Calls Try.prog 15 #[] wb fun e w' => e = .returned (.bool true) ∧ Below wb.heap.size wb w') := hid_of (awake_any wb)
  obtain ⟨hv, ehv⟩ : ∃ hv, hv = hvB U rs := ⟨_, rfl⟩
  have HV : Hid (∀ W, Below wb.heap.size wb W → Calls Try.prog 16 #[.slice uo un uc, .slice ro rn rc] W fun e w' => e = .returned (.bool hv) ∧ W = w') := hid_of (fun W hb => by rw [ehv]; exact heavy_any uo un uc U ro rn rc rs W ((hU.at B0).at hb) ((hR.at B0).at hb))
  have HB0 := hid_of B0
  have hn1 : pn ≤ 9223372036854775807 := by have := (rds_open hp).2; omega
  rw [hh] at ehv
  subst ehv
  have ga_0 : decide ((41 : Int) < (pn : Int)) = true := by simp; omega
  have ga_1 : decide (41 < pn) = true := by simp; omega
  have ga_2 : decide ((pn : Int) > 41) = true := by simp; omega
  clear hU hz hR hp hh B0 hbx ebx hl
  subst hwb
  go_enter Try.func5, Try.ntmps5
  go_wp2_with (first
    | (go_at_call 15; ((with_reducible refine (AW.out).mono ?_); (rintro ee w1 ⟨rfl, q1⟩)); have B1 := hid_of q1; obtain ⟨k10, k11⟩ := CB.out w1 q1; clear q1)
    | (go_at_call 16; ((with_reducible refine (HV.out w1 B1.out).mono ?_); (rintro ee w' ⟨rfl, rfl⟩))))
  go_ret
  exact ⟨by first | rfl | simp, HB0.out.trans (B1.out.mono HB0.out.size)⟩
set_option maxRecDepth 100000 in
set_option maxHeartbeats 1600000 in
theorem ents_bad1 (uo : Option Addr) (un uc : Nat) (U : List Str) (ro : Option Addr) (rn rc : Nat) (rs : List Gr) (po : Option Addr) (pn pc : Nat) (p : List Str) (x : Str) (w : World) (hU : Rd w (.slice uo un uc) (ss U)) (hz : ∀ y ∈ U, y.length ≤ 9223372036854775807) (hR : RuR w (.slice ro rn rc) rs) (hp : Rd w (.slice po pn pc) (ss p)) (hh : hvB U rs = false) (hl : ¬ 41 < pn) (q : Nat) (hq : chkE U rs = q) (hq0 : q ≠ 0) :
    Calls Try.prog 5 #[.slice uo un uc, .slice ro rn rc, .agg #[.slice po pn pc, .string (ba x)]] w fun e w' => e = .returned (.bool true) ∧ Below w.heap.size w w' := by
  obtain ⟨bx, ebx⟩ : ∃ bx, bx = ba x := ⟨_, rfl⟩
  rw [← ebx]
  obtain ⟨wb, hwb⟩ : ∃ wb, wb = (w.alloc (.cells #[.slice po pn pc, .string bx] 41)) := ⟨_, rfl⟩
  have B0 : Below w.heap.size w wb := by rw [hwb]; exact bel_alloc w _
  have hbx : wb.heap[w.heap.size]? = some (.cells #[.slice po pn pc, .string bx] 41 (0, 0)) := by rw [hwb]; exact heap_alloc_new w _
  have CB : Hid (∀ W, Below wb.heap.size wb W → W.cell? ⟨w.heap.size, 0, none⟩ = some (.slice po pn pc) ∧ W.cell? ⟨w.heap.size, 1, none⟩ = some (.string bx)) := hid_of (fun W hb => by
    have e := (hb.block _ (lt_of_block hbx)).trans hbx
    exact ⟨blk_cell (cs := [.slice po pn pc, .string bx]) e (j := 0) rfl, blk_cell (cs := [.slice po pn pc, .string bx]) e (j := 1) rfl⟩)
  have AW : Hid (Calls Try.prog 15 #[] wb fun e w' => e = .returned (.bool true) ∧ Below wb.heap.size wb w') := hid_of (awake_any wb)
  obtain ⟨hv, ehv⟩ : ∃ hv, hv = hvB U rs := ⟨_, rfl⟩
  have HV : Hid (∀ W, Below wb.heap.size wb W → Calls Try.prog 16 #[.slice uo un uc, .slice ro rn rc] W fun e w' => e = .returned (.bool hv) ∧ W = w') := hid_of (fun W hb => by rw [ehv]; exact heavy_any uo un uc U ro rn rc rs W ((hU.at B0).at hb) ((hR.at B0).at hb))
  have HB0 := hid_of B0
  have hn1 : pn ≤ 9223372036854775807 := by have := (rds_open hp).2; omega
  obtain ⟨e1, e2, e3⟩ := hvB_no hh
  have hul := (rds_open hU).1
  have hrl := hR.len.1
  have IU : InU wb uo un uc U ro rn rc rs := ⟨hU.at B0, hR.at B0, hz, by omega, by omega, fun r hr => by have := e3 r hr; omega⟩
  rw [hh] at ehv
  subst ehv
  have RK : Hid (∀ W, Below wb.heap.size wb W → Calls Try.prog 17 #[.slice uo un uc, .slice ro rn rc] W fun e w' => e = .returned (.int .i64 q) ∧ Below wb.heap.size wb w') := hid_of (fun W hb => by
    have h := rcheck_any uo un uc U ro rn rc rs W ((hU.at B0).at hb) hz ((hR.at B0).at hb)
    rw [hq] at h
    exact h.mono fun e w' ⟨h1, h2⟩ => ⟨h1, hb.trans (h2.mono hb.size)⟩)
  have CE : Hid (∀ W, Below wb.heap.size wb W → Calls Try.prog 28 #[.slice uo un uc, .slice ro rn rc, .agg #[.slice po pn pc, .string bx]] W fun e w' => e = .returned (.tuple #[.bool false, .int .i64 (q : Int)]) ∧ Below wb.heap.size wb w') := hid_of (fun W hb => by
    rw [ebx]
    exact (ent_err1 uo un uc U ro rn rc rs po pn pc x W (IU.at hb) q hq hq0).mono fun e w' ⟨h1, h2⟩ => ⟨h1, hb.trans (h2.mono hb.size)⟩)
  have ga_0 : decide ((41 : Int) < (pn : Int)) = false := by simp; omega
  have ga_1 : decide (41 < pn) = false := by simp; omega
  have ga_2 : decide ((pn : Int) > 41) = false := by simp; omega
  have t1 : ((q : Int) != 0) = true := by simp; omega
  have t2 : ((q : Int) == 0) = false := by simp; omega
  clear hU hz hR hp hh hl IU e1 e2 e3 hul hrl B0 hbx ebx hq hq0
  subst hwb
  go_enter Try.func5, Try.ntmps5
  go_wp2_with (first
    | (go_at_call 15; ((with_reducible refine (AW.out).mono ?_); (rintro ee w1 ⟨rfl, q1⟩)); have B1 := hid_of q1; obtain ⟨k10, k11⟩ := CB.out w1 q1; clear q1)
    | (go_at_call 16; ((with_reducible refine (HV.out w1 B1.out).mono ?_); (rintro ee w' ⟨rfl, rfl⟩)))
    | (go_at_call 17; ((with_reducible refine (RK.out w1 B1.out).mono ?_); (rintro ee w2 ⟨rfl, q1⟩)); have B2 := hid_of q1; obtain ⟨k20, k21⟩ := CB.out w2 q1; clear q1)
    | (go_at_call 28; ((with_reducible refine (CE.out w2 B2.out).mono ?_); (rintro ee w3 ⟨rfl, q1⟩)); have B3 := hid_of q1; obtain ⟨k30, k31⟩ := CB.out w3 q1; clear q1))
  go_ret
  exact ⟨by first | rfl | simp, HB0.out.trans (B3.out.mono HB0.out.size)⟩
set_option maxRecDepth 100000 in
set_option maxHeartbeats 1600000 in
theorem ents_bad2 (uo : Option Addr) (un uc : Nat) (U : List Str) (ro : Option Addr) (rn rc : Nat) (rs : List Gr) (po : Option Addr) (pn pc : Nat) (p : List Str) (x : Str) (w : World) (hU : Rd w (.slice uo un uc) (ss U)) (hz : ∀ y ∈ U, y.length ≤ 9223372036854775807) (hR : RuR w (.slice ro rn rc) rs) (hp : Rd w (.slice po pn pc) (ss p)) (hh : hvB U rs = false) (hl : ¬ 41 < pn) (hc : chkE U rs = 0) (q : Nat) (hq : ruE U (p, x) = q) (hq0 : q ≠ 0) :
    Calls Try.prog 5 #[.slice uo un uc, .slice ro rn rc, .agg #[.slice po pn pc, .string (ba x)]] w fun e w' => e = .returned (.bool true) ∧ Below w.heap.size w w' := by
  obtain ⟨bx, ebx⟩ : ∃ bx, bx = ba x := ⟨_, rfl⟩
  rw [← ebx]
  obtain ⟨wb, hwb⟩ : ∃ wb, wb = (w.alloc (.cells #[.slice po pn pc, .string bx] 41)) := ⟨_, rfl⟩
  have B0 : Below w.heap.size w wb := by rw [hwb]; exact bel_alloc w _
  have hbx : wb.heap[w.heap.size]? = some (.cells #[.slice po pn pc, .string bx] 41 (0, 0)) := by rw [hwb]; exact heap_alloc_new w _
  have CB : Hid (∀ W, Below wb.heap.size wb W → W.cell? ⟨w.heap.size, 0, none⟩ = some (.slice po pn pc) ∧ W.cell? ⟨w.heap.size, 1, none⟩ = some (.string bx)) := hid_of (fun W hb => by
    have e := (hb.block _ (lt_of_block hbx)).trans hbx
    exact ⟨blk_cell (cs := [.slice po pn pc, .string bx]) e (j := 0) rfl, blk_cell (cs := [.slice po pn pc, .string bx]) e (j := 1) rfl⟩)
  have AW : Hid (Calls Try.prog 15 #[] wb fun e w' => e = .returned (.bool true) ∧ Below wb.heap.size wb w') := hid_of (awake_any wb)
  obtain ⟨hv, ehv⟩ : ∃ hv, hv = hvB U rs := ⟨_, rfl⟩
  have HV : Hid (∀ W, Below wb.heap.size wb W → Calls Try.prog 16 #[.slice uo un uc, .slice ro rn rc] W fun e w' => e = .returned (.bool hv) ∧ W = w') := hid_of (fun W hb => by rw [ehv]; exact heavy_any uo un uc U ro rn rc rs W ((hU.at B0).at hb) ((hR.at B0).at hb))
  have HB0 := hid_of B0
  have hn1 : pn ≤ 9223372036854775807 := by have := (rds_open hp).2; omega
  obtain ⟨e1, e2, e3⟩ := hvB_no hh
  have hul := (rds_open hU).1
  have hrl := hR.len.1
  have IU : InU wb uo un uc U ro rn rc rs := ⟨hU.at B0, hR.at B0, hz, by omega, by omega, fun r hr => by have := e3 r hr; omega⟩
  rw [hh] at ehv
  subst ehv
  have RK : Hid (∀ W, Below wb.heap.size wb W → Calls Try.prog 17 #[.slice uo un uc, .slice ro rn rc] W fun e w' => e = .returned (.int .i64 0) ∧ Below wb.heap.size wb w') := hid_of (fun W hb => by
    have h := rcheck_any uo un uc U ro rn rc rs W ((hU.at B0).at hb) hz ((hR.at B0).at hb)
    rw [hc] at h
    exact h.mono fun e w' ⟨h1, h2⟩ => ⟨h1, hb.trans (h2.mono hb.size)⟩)
  have RR : Hid (∀ W, Below wb.heap.size wb W → Calls Try.prog 27 #[.slice uo un uc, .agg #[.slice po pn pc, .string bx]] W fun e w' => e = .returned (.int .i64 q) ∧ Below wb.heap.size wb w') := hid_of (fun W hb => by
    have h := rrule_any uo un uc U po pn pc p x W ((hU.at B0).at hb) ((hp.at B0).at hb)
    rw [hq, ← ebx] at h
    exact h.mono fun e w' ⟨h1, h2⟩ => ⟨h1, hb.trans (h2.mono hb.size)⟩)
  have CE : Hid (∀ W, Below wb.heap.size wb W → Calls Try.prog 28 #[.slice uo un uc, .slice ro rn rc, .agg #[.slice po pn pc, .string bx]] W fun e w' => e = .returned (.tuple #[.bool false, .int .i64 (q : Int)]) ∧ Below wb.heap.size wb w') := hid_of (fun W hb => by
    rw [ebx]
    exact (ent_err2 uo un uc U ro rn rc rs po pn pc p x W (IU.at hb) ((hp.at B0).at hb) (by omega) hc q hq hq0).mono fun e w' ⟨h1, h2⟩ => ⟨h1, hb.trans (h2.mono hb.size)⟩)
  have ga_0 : decide ((41 : Int) < (pn : Int)) = false := by simp; omega
  have ga_1 : decide (41 < pn) = false := by simp; omega
  have ga_2 : decide ((pn : Int) > 41) = false := by simp; omega
  have t1 : ((q : Int) != 0) = true := by simp; omega
  have t2 : ((q : Int) == 0) = false := by simp; omega
  clear hU hz hR hp hh hl IU e1 e2 e3 hul hrl B0 hbx ebx hq hq0 hc
  subst hwb
  go_enter Try.func5, Try.ntmps5
  go_wp2_with (first
    | (go_at_call 15; ((with_reducible refine (AW.out).mono ?_); (rintro ee w1 ⟨rfl, q1⟩)); have B1 := hid_of q1; obtain ⟨k10, k11⟩ := CB.out w1 q1; clear q1)
    | (go_at_call 16; ((with_reducible refine (HV.out w1 B1.out).mono ?_); (rintro ee w' ⟨rfl, rfl⟩)))
    | (go_at_call 17; ((with_reducible refine (RK.out w1 B1.out).mono ?_); (rintro ee w2 ⟨rfl, q1⟩)); have B2 := hid_of q1; obtain ⟨k20, k21⟩ := CB.out w2 q1; clear q1)
    | (go_at_call 27; ((with_reducible refine (RR.out w2 B2.out).mono ?_); (rintro ee w3 ⟨rfl, q1⟩)); have B3 := hid_of q1; obtain ⟨k30, k31⟩ := CB.out w3 q1; clear q1)
    | (go_at_call 28; ((with_reducible refine (CE.out w3 B3.out).mono ?_); (rintro ee w4 ⟨rfl, q1⟩)); have B4 := hid_of q1; obtain ⟨k40, k41⟩ := CB.out w4 q1; clear q1))
  go_ret
  exact ⟨by first | rfl | simp, HB0.out.trans (B4.out.mono HB0.out.size)⟩
set_option maxRecDepth 100000 in
set_option maxHeartbeats 1600000 in
theorem ents_main (uo : Option Addr) (un uc : Nat) (U : List Str) (ro : Option Addr) (rn rc : Nat) (rs : List Gr) (po : Option Addr) (pn pc : Nat) (p : List Str) (x : Str) (w : World) (hU : Rd w (.slice uo un uc) (ss U)) (hz : ∀ y ∈ U, y.length ≤ 9223372036854775807) (hR : RuR w (.slice ro rn rc) rs) (hp : Rd w (.slice po pn pc) (ss p)) (hh : hvB U rs = false) (hl : ¬ 41 < pn) (hc : chkE U rs = 0) (hq : ruE U (p, x) = 0) :
    Calls Try.prog 5 #[.slice uo un uc, .slice ro rn rc, .agg #[.slice po pn pc, .string (ba x)]] w fun e w' => e = .returned (.bool true) ∧ Below w.heap.size w w' := by
  obtain ⟨bx, ebx⟩ : ∃ bx, bx = ba x := ⟨_, rfl⟩
  rw [← ebx]
  obtain ⟨wb, hwb⟩ : ∃ wb, wb = (w.alloc (.cells #[.slice po pn pc, .string bx] 41)) := ⟨_, rfl⟩
  have B0 : Below w.heap.size w wb := by rw [hwb]; exact bel_alloc w _
  have hbx : wb.heap[w.heap.size]? = some (.cells #[.slice po pn pc, .string bx] 41 (0, 0)) := by rw [hwb]; exact heap_alloc_new w _
  have CB : Hid (∀ W, Below wb.heap.size wb W → W.cell? ⟨w.heap.size, 0, none⟩ = some (.slice po pn pc) ∧ W.cell? ⟨w.heap.size, 1, none⟩ = some (.string bx)) := hid_of (fun W hb => by
    have e := (hb.block _ (lt_of_block hbx)).trans hbx
    exact ⟨blk_cell (cs := [.slice po pn pc, .string bx]) e (j := 0) rfl, blk_cell (cs := [.slice po pn pc, .string bx]) e (j := 1) rfl⟩)
  have AW : Hid (Calls Try.prog 15 #[] wb fun e w' => e = .returned (.bool true) ∧ Below wb.heap.size wb w') := hid_of (awake_any wb)
  obtain ⟨hv, ehv⟩ : ∃ hv, hv = hvB U rs := ⟨_, rfl⟩
  have HV : Hid (∀ W, Below wb.heap.size wb W → Calls Try.prog 16 #[.slice uo un uc, .slice ro rn rc] W fun e w' => e = .returned (.bool hv) ∧ W = w') := hid_of (fun W hb => by rw [ehv]; exact heavy_any uo un uc U ro rn rc rs W ((hU.at B0).at hb) ((hR.at B0).at hb))
  have HB0 := hid_of B0
  have hn1 : pn ≤ 9223372036854775807 := by have := (rds_open hp).2; omega
  obtain ⟨e1, e2, e3⟩ := hvB_no hh
  have hul := (rds_open hU).1
  have hrl := hR.len.1
  have IU : InU wb uo un uc U ro rn rc rs := ⟨hU.at B0, hR.at B0, hz, by omega, by omega, fun r hr => by have := e3 r hr; omega⟩
  rw [hh] at ehv
  subst ehv
  obtain ⟨b, hb0⟩ : ∃ b, b = decide (x ∈ clF U rs p) := ⟨_, rfl⟩
  have hpu : SS p ∧ ∀ y ∈ p, y ∈ U := by
    by_cases h1 : SS p
    · by_cases h2 : ∀ y ∈ p, y ∈ U
      · exact ⟨h1, h2⟩
      · rw [ruE, if_neg (not_not_intro h1), if_pos h2] at hq; omega
    · rw [ruE, if_pos h1] at hq; omega
  have hbd : b = true ↔ DerS rs (fun y => y ∈ p) x := by
    rw [hb0, decide_eq_true_iff, mem_clF (cws_mk hc hpu.1 hpu.2)]
  have RK : Hid (∀ W, Below wb.heap.size wb W → Calls Try.prog 17 #[.slice uo un uc, .slice ro rn rc] W fun e w' => e = .returned (.int .i64 0) ∧ Below wb.heap.size wb w') := hid_of (fun W hb => by
    have h := rcheck_any uo un uc U ro rn rc rs W ((hU.at B0).at hb) hz ((hR.at B0).at hb)
    rw [hc] at h
    exact h.mono fun e w' ⟨h1, h2⟩ => ⟨h1, hb.trans (h2.mono hb.size)⟩)
  have RR : Hid (∀ W, Below wb.heap.size wb W → Calls Try.prog 27 #[.slice uo un uc, .agg #[.slice po pn pc, .string bx]] W fun e w' => e = .returned (.int .i64 0) ∧ Below wb.heap.size wb w') := hid_of (fun W hb => by
    have h := rrule_any uo un uc U po pn pc p x W ((hU.at B0).at hb) ((hp.at B0).at hb)
    rw [hq, ← ebx] at h
    exact h.mono fun e w' ⟨h1, h2⟩ => ⟨h1, hb.trans (h2.mono hb.size)⟩)
  have CE : Hid (∀ W, Below wb.heap.size wb W → Calls Try.prog 28 #[.slice uo un uc, .slice ro rn rc, .agg #[.slice po pn pc, .string bx]] W fun e w' => e = .returned (.tuple #[.bool b, .int .i64 0]) ∧ Below wb.heap.size wb w') := hid_of (fun W hb => by
    rw [ebx]
    exact (ent_good uo un uc U ro rn rc rs po pn pc p x W (IU.at hb) ((hp.at B0).at hb) (by omega) hc hq).mono fun e w' ⟨b', g1, g2, g3⟩ => ⟨by rw [g1, show b' = b by rw [Bool.eq_iff_iff, g2, hbd]], hb.trans (g3.mono hb.size)⟩)
  have RE : Hid (∀ W, Below wb.heap.size wb W → Calls Try.prog 29 #[.slice uo un uc, .slice ro rn rc, .agg #[.slice po pn pc, .string bx]] W fun e w' => e = .returned (.bool b) ∧ Below wb.heap.size wb w') := hid_of (fun W hb => by
    rw [ebx]
    exact (rent_any uo un uc U ro rn rc rs po pn pc p x W ((hU.at B0).at hb) (by omega) ((hR.at B0).at hb) (by omega) ((hp.at B0).at hb) (by omega) b hb0).mono fun e w' ⟨h1, h2⟩ => ⟨h1, hb.trans (h2.mono hb.size)⟩)
  have ga_0 : decide ((41 : Int) < (pn : Int)) = false := by simp; omega
  have ga_1 : decide (41 < pn) = false := by simp; omega
  have ga_2 : decide ((pn : Int) > 41) = false := by simp; omega
  clear hU hz hR hp hh hl IU e1 e2 e3 hul hrl B0 hbx ebx hq hc hb0 hpu hbd
  subst hwb
  cases b
  all_goals
    go_enter Try.func5, Try.ntmps5
    go_wp2_with (first
      | (go_at_call 15; ((with_reducible refine (AW.out).mono ?_); (rintro ee w1 ⟨rfl, q1⟩)); have B1 := hid_of q1; obtain ⟨k10, k11⟩ := CB.out w1 q1; clear q1)
      | (go_at_call 16; ((with_reducible refine (HV.out w1 B1.out).mono ?_); (rintro ee w' ⟨rfl, rfl⟩)))
      | (go_at_call 17; ((with_reducible refine (RK.out w1 B1.out).mono ?_); (rintro ee w2 ⟨rfl, q1⟩)); have B2 := hid_of q1; obtain ⟨k20, k21⟩ := CB.out w2 q1; clear q1)
      | (go_at_call 27; ((with_reducible refine (RR.out w2 B2.out).mono ?_); (rintro ee w3 ⟨rfl, q1⟩)); have B3 := hid_of q1; obtain ⟨k30, k31⟩ := CB.out w3 q1; clear q1)
      | (go_at_call 28; ((with_reducible refine (CE.out w3 B3.out).mono ?_); (rintro ee w4 ⟨rfl, q1⟩)); have B4 := hid_of q1; obtain ⟨k40, k41⟩ := CB.out w4 q1; clear q1)
      | (go_at_call 29; ((with_reducible refine (RE.out w4 B4.out).mono ?_); (rintro ee w5 ⟨rfl, q1⟩)); have B5 := hid_of q1; obtain ⟨k50, k51⟩ := CB.out w5 q1; clear q1))
    go_ret
    exact ⟨by first | rfl | simp, HB0.out.trans (B5.out.mono HB0.out.size)⟩
theorem entails_law (uo : Option Addr) (un uc : Nat) (U : List Str) (ro : Option Addr) (rn rc : Nat) (rs : List Gr) (po : Option Addr) (pn pc : Nat) (p : List Str) (x : Str) (w : World) (hU : Rd w (.slice uo un uc) (ss U)) (hz : ∀ y ∈ U, y.length ≤ 9223372036854775807) (hR : RuR w (.slice ro rn rc) rs) (hp : Rd w (.slice po pn pc) (ss p)) :
    Calls Try.prog 5 #[.slice uo un uc, .slice ro rn rc, .agg #[.slice po pn pc, .string (ba x)]] w fun e w' => e = .returned (.bool true) ∧ Below w.heap.size w w' := by
  cases hh : hvB U rs with
  | true => exact ents_heavy uo un uc U ro rn rc rs po pn pc p x w hU hz hR hp hh
  | false =>
    by_cases hl : 41 < pn
    · exact ents_long uo un uc U ro rn rc rs po pn pc p x w hU hz hR hp hh hl
    · by_cases hc : chkE U rs = 0
      · by_cases hs : ruE U (p, x) = 0
        · exact ents_main uo un uc U ro rn rc rs po pn pc p x w hU hz hR hp hh hl hc hs
        · exact ents_bad2 uo un uc U ro rn rc rs po pn pc p x w hU hz hR hp hh hl hc _ rfl hs
      · exact ents_bad1 uo un uc U ro rn rc rs po pn pc p x w hU hz hR hp hh hl _ rfl hc
end Go.Proofs.Ytjponegeidiheaa
