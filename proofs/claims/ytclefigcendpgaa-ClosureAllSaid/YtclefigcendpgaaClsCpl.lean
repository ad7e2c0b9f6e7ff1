/- ClosureComplete. Bounds on sizes alone. -/
import Derived.Test.YtclefigcendpgaaClsOp
import Derived.Test.YtclefigcendpgaaClsAllN
import Derived.Test.YtclefigcendpgaaClsEnt
import Derived.Test.YtclefigcendpgaaClsInR
import Derived.Deep.RegionHeldLaw
namespace Go.Proofs.Ytclefigcendpgaa
open Go.RowKit

theorem SetsR.get {B : Nat} {w : World} {ao : Option Addr} {n cap : Nat} {ls : List (List Str)} (h : SetsR B w (.slice ao n cap) ls) {k : Nat} {l : List Str} (hl : ls[k]? = some l) :
    ∃ g xo xc, ao = some ⟨g, 0, none⟩ ∧ ∀ W, Below w.heap.size w W → W.cell? ⟨g, k, none⟩ = some (.slice xo l.length xc) ∧ Rd W (.slice xo l.length xc) (ss l) := by
  obtain ⟨vals, h1, h2, h3⟩ := h
  obtain ⟨u, hu⟩ : ∃ u, vals[k]? = some u := ⟨_, List.getElem?_eq_getElem (by have := (List.getElem?_eq_some_iff.1 hl).1; omega)⟩
  have h4 := h3 k u l hu hl
  obtain ⟨xo, xc, rfl⟩ := own_shape h4
  rcases own_shape2 h2 with ⟨e, e2⟩ | ⟨g, c, e, _, _, _⟩
  · have := (List.getElem?_eq_some_iff.1 hl).1; omega
  · simp only [Value.slice.injEq] at e
    obtain ⟨rfl, rfl, rfl⟩ := e
    refine ⟨g, xo, xc, rfl, fun W hb => ⟨?_, (own_rd h4).at hb⟩⟩
    exact (hb.cell (p := ⟨g, k, none⟩) (own_lt h2 rfl)).trans (own_cell h2 hu)
/-- A rule is entailed exactly if all closed sets are closed under it. -/
theorem cpl_math {U : List Str} {rs : List Gr} {p : List Str} {x : Str} {b : Bool} (h0 : chkE U rs = 0) (h1 : ruE U (p, x) = 0) (hb : b = true ↔ DerS rs (fun y => y ∈ p) x) : (allF U rs).all (clsB [(p, x)]) = b := by
  have hq : cwsE U rs p = 0 := by
    unfold ruE at h1
    refine cws_mk h0 ?_ ?_
    · split at h1
      · omega
      · rename_i h; exact Classical.not_not.1 h
    · split at h1
      · omega
      · split at h1
        · omega
        · rename_i h; exact Classical.not_not.1 h
  rw [Bool.eq_iff_iff, hb, List.all_eq_true]
  constructor
  · intro h
    have h2 := h (clF U rs p) ((mem_allF h0).2 ⟨ss_clF h0, clF_sub, clsB_iff.1 (clF_cld hq)⟩)
    exact (mem_clF hq).1 (clsB_iff.1 h2 (p, x) (by simp) fun y hy => subB_iff.1 (clF_in hq) y hy)
  · intro hd l hl
    obtain ⟨_, _, hc⟩ := (mem_allF h0).1 hl
    refine clsB_iff.2 fun r hr hp => ?_
    rw [List.mem_singleton.1 hr] at hp ⊢
    exact derS_least hc hp hd
set_option maxRecDepth 100000 in
set_option maxHeartbeats 1600000 in
theorem cpl_big (uo : Option Addr) (un uc : Nat) (U : List Str) (ro : Option Addr) (rn rc : Nat) (rs : List Gr) (po : Option Addr) (pn pc : Nat) (p : List Str) (x : Str) (w : World) (hU : Rd w (.slice uo un uc) (ss U)) (hz : ∀ y ∈ U, y.length ≤ 9223372036854775807) (hR : RuR w (.slice ro rn rc) rs) (hp : Rd w (.slice po pn pc) (ss p)) (hl : 8 < un) :
    Calls Try.prog 6 #[.slice uo un uc, .slice ro rn rc, .agg #[.slice po pn pc, .string (ba x)]] w fun e w' => e = .returned (.bool true) ∧ Below w.heap.size w w' := by
  obtain ⟨bx, ebx⟩ : ∃ bx, bx = ba x := ⟨_, rfl⟩
  rw [← ebx]
  obtain ⟨wb, hwb⟩ : ∃ wb, wb = (w.alloc (.cells #[.slice po pn pc, .string bx] 41)) := ⟨_, rfl⟩
  have B0 : Below w.heap.size w wb := by rw [hwb]; exact bel_alloc w _
  have hbx : wb.heap[w.heap.size]? = some (.cells #[.slice po pn pc, .string bx] 41 (0, 0)) := by rw [hwb]; exact heap_alloc_new w _
  have CB : Hid (∀ W, Below wb.heap.size wb W → W.cell? ⟨w.heap.size, 0, none⟩ = some (.slice po pn pc) ∧ W.cell? ⟨w.heap.size, 1, none⟩ = some (.string bx)) := hid_of (fun W hb => by
    have e := (hb.block _ (lt_of_block hbx)).trans hbx
    exact ⟨blk_cell (cs := [.slice po pn pc, .string bx]) e (j := 0) rfl, blk_cell (cs := [.slice po pn pc, .string bx]) e (j := 1) rfl⟩)
  have AW : Hid (Calls Try.prog 15 #[] wb fun e w' => e = .returned (.bool true) ∧ Below wb.heap.size wb w') := hid_of (awake_any wb)
  obtain ⟨hv, ehv⟩ : ∃ hv, hv = hvB U rs := ⟨_, rfl⟩
  have HV : Hid (∀ W, Below wb.heap.size wb W → Calls Try.prog 16 #[.slice uo un uc, .slice ro rn rc] W fun e w' => e = .returned (.bool hv) ∧ W = w') := hid_of (fun W hb => by rw [ehv]; exact heavy_any uo un uc U ro rn rc rs W ((hU.at B0).at hb) ((hR.at B0).at hb))
  have HB0 := hid_of B0
  have hn0 : un ≤ 9223372036854775807 := by have := (rds_open hU).2; omega
  have hn1 : pn ≤ 9223372036854775807 := by have := (rds_open hp).2; omega
  have ga_0 : decide ((8 : Int) < (un : Int)) = true := by simp; omega
  have ga_1 : decide (8 < un) = true := by simp; omega
  have ga_2 : decide ((un : Int) > 8) = true := by simp; omega
  clear hU hz hR hp B0 hbx hl HV ehv ebx
  subst hwb
  go_enter Try.func6, Try.ntmps6
  go_wp2_with (first
    | (go_at_call 15; ((with_reducible refine (AW.out).mono ?_); (rintro ee w1 ⟨rfl, q1⟩)); have B1 := hid_of q1; obtain ⟨k10, k11⟩ := CB.out w1 q1; clear q1))
  go_ret
  exact ⟨rfl, HB0.out.trans (B1.out.mono HB0.out.size)⟩
set_option maxRecDepth 100000 in
set_option maxHeartbeats 1600000 in
theorem cpl_heavy (uo : Option Addr) (un uc : Nat) (U : List Str) (ro : Option Addr) (rn rc : Nat) (rs : List Gr) (po : Option Addr) (pn pc : Nat) (p : List Str) (x : Str) (w : World) (hU : Rd w (.slice uo un uc) (ss U)) (hz : ∀ y ∈ U, y.length ≤ 9223372036854775807) (hR : RuR w (.slice ro rn rc) rs) (hp : Rd w (.slice po pn pc) (ss p)) (hl : ¬ 8 < un) (hh : hvB U rs = true) :
    Calls Try.prog 6 #[.slice uo un uc, .slice ro rn rc, .agg #[.slice po pn pc, .string (ba x)]] w fun e w' => e = .returned (.bool true) ∧ Below w.heap.size w w' := by
  obtain ⟨bx, ebx⟩ : ∃ bx, bx = ba x := ⟨_, rfl⟩
  rw [← ebx]
  obtain ⟨wb, hwb⟩ : ∃ wb, wb = (w.alloc (.cells #[.slice po pn pc, .string bx] 41)) := ⟨_, rfl⟩
  have B0 : Below w.heap.size w wb := by rw [hwb]; exact bel_alloc w _
  have hbx : wb.heap[w.heap.size]? = some (.cells #[.slice po pn pc, .string bx] 41 (0, 0)) := by rw [hwb]; exact heap_alloc_new w _
  have CB : Hid (∀ W, Below wb.heap.size wb W → W.cell? ⟨w.heap.size, 0, none⟩ = some (.slice po pn pc) ∧ W.cell? ⟨w.heap.size, 1, none⟩ = some (.string bx)) := hid_of (fun W hb => by
    have e := (hb.block _ (lt_of_block hbx)).trans hbx
    exact ⟨blk_cell (cs := [.slice po pn pc, .string bx]) e (j := 0) rfl, blk_cell (cs := [.slice po pn pc, .string bx]) e (j := 1) rfl⟩)
  have AW : Hid (Calls Try.prog 15 #[] wb fun e w' => e = .returned (.bool true) ∧ Below wb.heap.size wb w') := hid_of (awake_any wb)
  obtain ⟨hv, ehv⟩ : ∃ hv, hv = hvB U rs := ⟨_, rfl⟩
  have HV : Hid (∀ W, Below wb.heap.size wb W → Calls Try.prog 16 #[.slice uo un uc, .slice ro rn rc] W fun e w' => e = .returned (.bool hv) ∧ W = w') := hid_of (fun W hb => by rw [ehv]; exact heavy_any uo un uc U ro rn rc rs W ((hU.at B0).at hb) ((hR.at B0).at hb))
  have HB0 := hid_of B0
  have hn0 : un ≤ 9223372036854775807 := by have := (rds_open hU).2; omega
  have hn1 : pn ≤ 9223372036854775807 := by have := (rds_open hp).2; omega
  rw [hh] at ehv
  subst ehv
  have ga_0 : decide ((8 : Int) < (un : Int)) = false := by simp; omega
  have ga_1 : decide (8 < un) = false := by simp; omega
  have ga_2 : decide ((un : Int) > 8) = false := by simp; omega
  clear hU hz hR hp B0 hbx hl hh ebx
  subst hwb
  go_enter Try.func6, Try.ntmps6
  go_wp2_with (first
    | (go_at_call 15; ((with_reducible refine (AW.out).mono ?_); (rintro ee w1 ⟨rfl, q1⟩)); have B1 := hid_of q1; obtain ⟨k10, k11⟩ := CB.out w1 q1; clear q1)
    | (go_at_call 16; ((with_reducible refine (HV.out w1 B1.out).mono ?_); (rintro ee w' ⟨rfl, rfl⟩))))
  go_ret
  exact ⟨rfl, HB0.out.trans (B1.out.mono HB0.out.size)⟩
set_option maxRecDepth 100000 in
set_option maxHeartbeats 1600000 in
theorem cpl_long (uo : Option Addr) (un uc : Nat) (U : List Str) (ro : Option Addr) (rn rc : Nat) (rs : List Gr) (po : Option Addr) (pn pc : Nat) (p : List Str) (x : Str) (w : World) (hU : Rd w (.slice uo un uc) (ss U)) (hz : ∀ y ∈ U, y.length ≤ 9223372036854775807) (hR : RuR w (.slice ro rn rc) rs) (hp : Rd w (.slice po pn pc) (ss p)) (hl : ¬ 8 < un) (hh : hvB U rs = false) (hl2 : 8 < pn) :
    Calls Try.prog 6 #[.slice uo un uc, .slice ro rn rc, .agg #[.slice po pn pc, .string (ba x)]] w fun e w' => e = .returned (.bool true) ∧ Below w.heap.size w w' := by
  obtain ⟨bx, ebx⟩ : ∃ bx, bx = ba x := ⟨_, rfl⟩
  rw [← ebx]
  obtain ⟨wb, hwb⟩ : ∃ wb, wb = (w.alloc (.cells #[.slice po pn pc, .string bx] 41)) := ⟨_, rfl⟩
  have B0 : Below w.heap.size w wb := by rw [hwb]; exact bel_alloc w _
  have hbx : wb.heap[w.heap.size]? = some (.cells #[.slice po pn pc, .string bx] 41 (0, 0)) := by rw [hwb]; exact heap_alloc_new w _
  have CB : Hid (∀ W, Below wb.heap.size wb W → W.cell? ⟨w.heap.size, 0, none⟩ = some (.slice po pn pc) ∧ W.cell? ⟨w.heap.size, 1, none⟩ = some (.string bx)) := hid_of (fun W hb => by
    have e := (hb.block _ (lt_of_block hbx)).trans hbx
    exact ⟨blk_cell (cs := [.slice po pn pc, .string bx]) e (j := 0) rfl, blk_cell (cs := [.slice po pn pc, .string bx]) e (j := 1) rfl⟩)
  have AW : Hid (Calls Try.prog 15 #[] wb fun e w' => e = .returned (.bool true) ∧ Below wb.heap.size wb w') := hid_of (awake_any wb)
  obtain ⟨hv, ehv⟩ : ∃ hv, hv = hvB U rs := ⟨_, rfl⟩
  have HV : Hid (∀ W, Below wb.heap.size wb W → Calls Try.prog 16 #[.slice uo un uc, .slice ro rn rc] W fun e w' => e = .returned (.bool hv) ∧ W = w') := hid_of (fun W hb => by rw [ehv]; exact heavy_any uo un uc U ro rn rc rs W ((hU.at B0).at hb) ((hR.at B0).at hb))
  have HB0 := hid_of B0
  have hn0 : un ≤ 9223372036854775807 := by have := (rds_open hU).2; omega
  have hn1 : pn ≤ 9223372036854775807 := by have := (rds_open hp).2; omega
  rw [hh] at ehv
  subst ehv
  have ga_0 : decide ((8 : Int) < (un : Int)) = false := by simp; omega
  have ga_1 : decide (8 < un) = false := by simp; omega
  have ga_2 : decide ((un : Int) > 8) = false := by simp; omega
  have gb_0 : decide ((8 : Int) < (pn : Int)) = true := by simp; omega
  have gb_1 : decide (8 < pn) = true := by simp; omega
  have gb_2 : decide ((pn : Int) > 8) = true := by simp; omega
  clear hU hz hR hp B0 hbx hl hl2 hh ebx
  subst hwb
  go_enter Try.func6, Try.ntmps6
  go_wp2_with (first
    | (go_at_call 15; ((with_reducible refine (AW.out).mono ?_); (rintro ee w1 ⟨rfl, q1⟩)); have B1 := hid_of q1; obtain ⟨k10, k11⟩ := CB.out w1 q1; clear q1)
    | (go_at_call 16; ((with_reducible refine (HV.out w1 B1.out).mono ?_); (rintro ee w' ⟨rfl, rfl⟩))))
  go_ret
  exact ⟨rfl, HB0.out.trans (B1.out.mono HB0.out.size)⟩
set_option maxRecDepth 100000 in
set_option maxHeartbeats 1600000 in
theorem cpl_err (uo : Option Addr) (un uc : Nat) (U : List Str) (ro : Option Addr) (rn rc : Nat) (rs : List Gr) (po : Option Addr) (pn pc : Nat) (p : List Str) (x : Str) (w : World) (hU : Rd w (.slice uo un uc) (ss U)) (hz : ∀ y ∈ U, y.length ≤ 9223372036854775807) (hR : RuR w (.slice ro rn rc) rs) (hp : Rd w (.slice po pn pc) (ss p)) (hl : ¬ 8 < un) (hh : hvB U rs = false) (hl2 : ¬ 8 < pn) (he : entE U rs (p, x) ≠ 0) :
    Calls Try.prog 6 #[.slice uo un uc, .slice ro rn rc, .agg #[.slice po pn pc, .string (ba x)]] w fun e w' => e = .returned (.bool true) ∧ Below w.heap.size w w' := by
  obtain ⟨bx, ebx⟩ : ∃ bx, bx = ba x := ⟨_, rfl⟩
  rw [← ebx]
  obtain ⟨wb, hwb⟩ : ∃ wb, wb = (w.alloc (.cells #[.slice po pn pc, .string bx] 41)) := ⟨_, rfl⟩
  have B0 : Below w.heap.size w wb := by rw [hwb]; exact bel_alloc w _
  have hbx : wb.heap[w.heap.size]? = some (.cells #[.slice po pn pc, .string bx] 41 (0, 0)) := by rw [hwb]; exact heap_alloc_new w _
  have CB : Hid (∀ W, Below wb.heap.size wb W → W.cell? ⟨w.heap.size, 0, none⟩ = some (.slice po pn pc) ∧ W.cell? ⟨w.heap.size, 1, none⟩ = some (.string bx)) := hid_of (fun W hb => by
    have e := (hb.block _ (lt_of_block hbx)).trans hbx
    exact ⟨blk_cell (cs := [.slice po pn pc, .string bx]) e (j := 0) rfl, blk_cell (cs := [.slice po pn pc, .string bx]) e (j := 1) rfl⟩)
  have AW : Hid (Calls Try.prog 15 #[] wb fun e w' => e = .returned (.bool true) ∧ Below wb.heap.size wb w') := hid_of (awake_any wb)
  obtain ⟨hv, ehv⟩ : ∃ hv, hv = hvB U rs := ⟨_, rfl⟩
  have HV : Hid (∀ W, Below wb.heap.size wb W → Calls Try.prog 16 #[.slice uo un uc, .slice ro rn rc] W fun e w' => e = .returned (.bool hv) ∧ W = w') := hid_of (fun W hb => by rw [ehv]; exact heavy_any uo un uc U ro rn rc rs W ((hU.at B0).at hb) ((hR.at B0).at hb))
  have HB0 := hid_of B0
  have hn0 : un ≤ 9223372036854775807 := by have := (rds_open hU).2; omega
  have hn1 : pn ≤ 9223372036854775807 := by have := (rds_open hp).2; omega
  obtain ⟨e1, e2, e3⟩ := hvB_no hh
  have hul := (rds_open hU).1
  have hrl := hR.len.1
  have IU : InU wb uo un uc U ro rn rc rs := ⟨hU.at B0, hR.at B0, hz, by omega, by omega, fun r hr => by have := e3 r hr; omega⟩
  rw [hh] at ehv
  subst ehv
  obtain ⟨q, hq⟩ : ∃ q, q = entE U rs (p, x) := ⟨_, rfl⟩
  have HE : Hid (∀ W, Below wb.heap.size wb W → Calls Try.prog 28 #[.slice uo un uc, .slice ro rn rc, .agg #[.slice po pn pc, .string bx]] W fun e w' => e = .returned (.tuple #[.bool false, .int .i64 q]) ∧ Below wb.heap.size wb w') := hid_of (fun W hb => by
    rw [ebx]
    by_cases h0 : chkE U rs = 0
    · have e : entE U rs (p, x) = ruE U (p, x) := by unfold entE; rw [if_pos h0]
      exact (ent_err2 uo un uc U ro rn rc rs po pn pc p x W (IU.at hb) ((hp.at B0).at hb) (by omega) h0 q (by rw [hq, e]) (by omega)).mono fun e w' ⟨h1, h2⟩ => ⟨h1, hb.trans (h2.mono hb.size)⟩
    · have e : entE U rs (p, x) = chkE U rs := by unfold entE; rw [if_neg h0]
      exact (ent_err1 uo un uc U ro rn rc rs po pn pc x W (IU.at hb) q (by rw [hq, e]) (by omega)).mono fun e w' ⟨h1, h2⟩ => ⟨h1, hb.trans (h2.mono hb.size)⟩)
  have ga_0 : decide ((8 : Int) < (un : Int)) = false := by simp; omega
  have ga_1 : decide (8 < un) = false := by simp; omega
  have ga_2 : decide ((un : Int) > 8) = false := by simp; omega
  have gb_0 : decide ((8 : Int) < (pn : Int)) = false := by simp; omega
  have gb_1 : decide (8 < pn) = false := by simp; omega
  have gb_2 : decide ((pn : Int) > 8) = false := by simp; omega
  have t1 : ((q : Int) != 0) = true := by simp; omega
  clear hU hz hR hp B0 hbx hl hl2 hh ebx IU e1 e2 e3 hul hrl he hq
  subst hwb
  go_enter Try.func6, Try.ntmps6
  go_wp2_with (first
    | (go_at_call 15; ((with_reducible refine (AW.out).mono ?_); (rintro ee w1 ⟨rfl, q1⟩)); have B1 := hid_of q1; obtain ⟨k10, k11⟩ := CB.out w1 q1; clear q1)
    | (go_at_call 16; ((with_reducible refine (HV.out w1 B1.out).mono ?_); (rintro ee w' ⟨rfl, rfl⟩)))
    | (go_at_call 28; ((with_reducible refine (HE.out w1 B1.out).mono ?_); (rintro ee w2 ⟨rfl, q1⟩)); have B2 := hid_of q1; clear q1))
  go_ret
  exact ⟨rfl, HB0.out.trans (B2.out.mono HB0.out.size)⟩
set_option maxRecDepth 100000 in
set_option maxHeartbeats 1600000 in
theorem cpl_main (uo : Option Addr) (un uc : Nat) (U : List Str) (ro : Option Addr) (rn rc : Nat) (rs : List Gr) (po : Option Addr) (pn pc : Nat) (p : List Str) (x : Str) (w : World) (hU : Rd w (.slice uo un uc) (ss U)) (hz : ∀ y ∈ U, y.length ≤ 9223372036854775807) (hR : RuR w (.slice ro rn rc) rs) (hp : Rd w (.slice po pn pc) (ss p)) (hl : ¬ 8 < un) (hh : hvB U rs = false) (hl2 : ¬ 8 < pn) (h0 : chkE U rs = 0) (h1 : ruE U (p, x) = 0) (b : Bool) (hb : b = true ↔ DerS rs (fun y => y ∈ p) x) :
    Calls Try.prog 6 #[.slice uo un uc, .slice ro rn rc, .agg #[.slice po pn pc, .string (ba x)]] w fun e w' => e = .returned (.bool true) ∧ Below w.heap.size w w' := by
  obtain ⟨bx, ebx⟩ : ∃ bx, bx = ba x := ⟨_, rfl⟩
  rw [← ebx]
  obtain ⟨wb, hwb⟩ : ∃ wb, wb = (w.alloc (.cells #[.slice po pn pc, .string bx] 41)) := ⟨_, rfl⟩
  have B0 : Below w.heap.size w wb := by rw [hwb]; exact bel_alloc w _
  have hbx : wb.heap[w.heap.size]? = some (.cells #[.slice po pn pc, .string bx] 41 (0, 0)) := by rw [hwb]; exact heap_alloc_new w _
  have CB : Hid (∀ W, Below wb.heap.size wb W → W.cell? ⟨w.heap.size, 0, none⟩ = some (.slice po pn pc) ∧ W.cell? ⟨w.heap.size, 1, none⟩ = some (.string bx)) := hid_of (fun W hb => by
    have e := (hb.block _ (lt_of_block hbx)).trans hbx
    exact ⟨blk_cell (cs := [.slice po pn pc, .string bx]) e (j := 0) rfl, blk_cell (cs := [.slice po pn pc, .string bx]) e (j := 1) rfl⟩)
  have AW : Hid (Calls Try.prog 15 #[] wb fun e w' => e = .returned (.bool true) ∧ Below wb.heap.size wb w') := hid_of (awake_any wb)
  obtain ⟨hv, ehv⟩ : ∃ hv, hv = hvB U rs := ⟨_, rfl⟩
  have HV : Hid (∀ W, Below wb.heap.size wb W → Calls Try.prog 16 #[.slice uo un uc, .slice ro rn rc] W fun e w' => e = .returned (.bool hv) ∧ W = w') := hid_of (fun W hb => by rw [ehv]; exact heavy_any uo un uc U ro rn rc rs W ((hU.at B0).at hb) ((hR.at B0).at hb))
  have HB0 := hid_of B0
  have hn0 : un ≤ 9223372036854775807 := by have := (rds_open hU).2; omega
  have hn1 : pn ≤ 9223372036854775807 := by have := (rds_open hp).2; omega
  obtain ⟨e1, e2, e3⟩ := hvB_no hh
  have hul := (rds_open hU).1
  have hrl := hR.len.1
  have IU : InU wb uo un uc U ro rn rc rs := ⟨hU.at B0, hR.at B0, hz, by omega, by omega, fun r hr => by have := e3 r hr; omega⟩
  rw [hh] at ehv
  subst ehv
  have hM : (allF U rs).length ≤ 256 := Nat.le_trans (allF_len U rs) (by
    have : 2 ^ U.length ≤ 2 ^ 8 := Nat.pow_le_pow_right (by omega) (by omega)
    omega)
  have HE : Hid (∀ W, Below wb.heap.size wb W → Calls Try.prog 28 #[.slice uo un uc, .slice ro rn rc, .agg #[.slice po pn pc, .string bx]] W fun e w' => e = .returned (.tuple #[.bool b, .int .i64 0]) ∧ Below wb.heap.size wb w') := hid_of (fun W hbW => by
    rw [ebx]
    exact (ent_good uo un uc U ro rn rc rs po pn pc p x W (IU.at hbW) ((hp.at B0).at hbW) (by omega) h0 h1).mono fun e w' ⟨b', g1, g2, g3⟩ => ⟨by rw [g1, show b' = b by rw [Bool.eq_iff_iff, g2, hb]], hbW.trans (g3.mono hbW.size)⟩)
  obtain ⟨M, hMM⟩ : ∃ M, M = (allF U rs).length := ⟨_, rfl⟩
  have HA : Hid (∀ W, Below wb.heap.size wb W → Calls Try.prog 30 #[.slice uo un uc, .slice ro rn rc, .int .i64 256] W fun e w' => ∃ ao cap, e = .returned (.tuple #[.slice ao M cap, .int .i64 0]) ∧ SetsR W.heap.size w' (.slice ao M cap) (allF U rs) ∧ Below wb.heap.size wb w') := hid_of (fun W hbW => by
    rw [hMM]
    exact (all_good uo un uc U ro rn rc rs 256 W (IU.at hbW) h0 (by omega) (by omega) (by omega) (by omega) (by omega)).mono fun e w' ⟨ao, cap, g1, g2, g3⟩ => ⟨ao, cap, g1, g2, hbW.trans (g3.mono hbW.size)⟩)
  have HC : Hid (∀ W so sc l, Below wb.heap.size wb W → Rd W (.slice so (List.length l) sc) (ss l) → l ∈ allF U rs → Calls Try.prog 21 #[.slice uo un uc, .slice (some ⟨W.heap.size, 0, none⟩) 1 1, .slice so (List.length l) sc] (W.alloc (.cells #[.slice po pn pc, .string bx] 41)) fun e w' => e = .returned (.tuple #[.bool (clsB [(p, x)] l), .int .i64 0]) ∧ Below W.heap.size W w') := hid_of (fun W so sc l hbW hr hl3 => by
    obtain ⟨a1, a2, _⟩ := (mem_allF h0).1 hl3
    have b2 := bel_alloc W (.cells #[.slice po pn pc, .string bx] 41)
    have hpl : pn = p.length := (rds_open hp).1
    have h00 : chkE U [(p, x)] = 0 := by rw [chk_one h0]; exact h1
    have hi : InU (W.alloc (.cells #[.slice po pn pc, .string bx] 41)) uo un uc U (some ⟨W.heap.size, 0, none⟩) 1 1 [(p, x)] := ⟨((hU.at B0).at hbW).at b2, by rw [ebx]; exact rur_one (p := x) rfl ((hp.at B0).at hbW), hz, by omega, by omega, fun r hr => by rw [List.mem_singleton.1 hr]; show p.length ≤ _; omega⟩
    have hll : l.length ≤ 8 := Nat.le_trans (ss_sub_len a1 (chk_ok h0).1 a2).1 (by omega)
    exact (closed_any uo un uc U _ 1 1 [(p, x)] so _ sc l _ hi (hr.at b2) (by omega) (cws_mk h00 a1 a2)).mono fun e w' ⟨g1, g2⟩ => ⟨g1, b2.trans (g2.mono b2.size)⟩)
  have HFIN : Hid ((allF U rs).all (clsB [(p, x)]) = b) := hid_of (cpl_math h0 h1 hb)
  obtain ⟨F, hF⟩ : ∃ F, F = allF U rs := ⟨_, rfl⟩
  have HMM : Hid (M = F.length) := hid_of (by rw [hF]; exact hMM)
  rw [← hF] at HA HC HFIN
  obtain ⟨cl, hcl⟩ : ∃ cl, cl = clsB [(p, x)] := ⟨_, rfl⟩
  rw [← hcl] at HC HFIN
  have hM2 : M ≤ 256 := by omega
  have ga_0 : decide ((8 : Int) < (un : Int)) = false := by simp; omega
  have ga_1 : decide (8 < un) = false := by simp; omega
  have ga_2 : decide ((un : Int) > 8) = false := by simp; omega
  have gb_0 : decide ((8 : Int) < (pn : Int)) = false := by simp; omega
  have gb_1 : decide (8 < pn) = false := by simp; omega
  have gb_2 : decide ((pn : Int) > 8) = false := by simp; omega
  clear hU hz hR hp B0 hbx hl hl2 hh ebx IU e1 e2 e3 hul hrl h0 h1 hb hM hMM hF hcl
  subst hwb
  go_enter Try.func6, Try.ntmps6
  go_wp2_with (first
    | (go_at_call 15; ((with_reducible refine (AW.out).mono ?_); (rintro ee w1 ⟨rfl, q1⟩)); have B1 := hid_of q1; obtain ⟨k10, k11⟩ := CB.out w1 q1; clear q1)
    | (go_at_call 16; ((with_reducible refine (HV.out w1 B1.out).mono ?_); (rintro ee w' ⟨rfl, rfl⟩)))
    | (go_at_call 28; ((with_reducible refine (HE.out w1 B1.out).mono ?_); (rintro ee w2 ⟨rfl, q1⟩)); have B2 := hid_of q1; obtain ⟨k20, k21⟩ := CB.out w2 q1; clear q1)
    | (go_at_call 30; ((with_reducible refine (HA.out w2 B2.out).mono ?_); (rintro ee w3 ⟨ao, ac, rfl, q1, q2⟩)); have S3 := hid_of q1; have B3 := hid_of q2; clear q1 q2))
  go_loopw [11, 12, 13, 14] (fun vv iv cv gv wr => ∃ (k : Nat) (va : Bool) (v1 v2 : Value), vv = .bool va ∧ k ≤ M ∧ iv = .int .i64 k ∧ cv = v1 ∧ gv = v2 ∧ Hid (va = (F.take k).all cl) ∧ Hid (Below w3.heap.size w3 wr)) (fun _ iv _ _ _ => M - (intOf iv).toNat)
  case atStart => exact ⟨0, true, _, _, rfl, Nat.zero_le _, rfl, rfl, rfl, hid_of rfl, hid_of (Below.refl _ _)⟩
  case round =>
    obtain ⟨k, va, v1, v2, rfl, hk, rfl, rfl, rfl, hva, hbw⟩ := hrel
    by_cases hlt : k < M
    · have hd : decide (k < M) = true := by simp; omega
      have hi0 : (0 : Int) ≤ (k : Int) := Int.natCast_nonneg _
      have hi1 : (k : Int) < (M : Int) := by omega
      obtain ⟨l, hl⟩ : ∃ l, F[k]? = some l := ⟨_, List.getElem?_eq_getElem (by have := HMM.out; omega)⟩
      obtain ⟨g, xo, xc, rfl, hget⟩ := S3.out.get hl
      have HG := hid_of hget
      have HL := hid_of hl
      have BD : Hid (Below wr.heap.size wr wr.drew) := hid_of (Below.refl _ _).drew
      have BW := hid_of (B3.out.trans (hbw.out.mono B3.out.size))
      have CC : Hid (∀ W, Below wr.heap.size wr W → W.cell? ⟨w.heap.size, 0, none⟩ = some (.slice po pn pc) ∧ W.cell? ⟨w.heap.size, 1, none⟩ = some (.string bx) ∧ W.cell? ⟨g, k, none⟩ = some (.slice xo l.length xc)) := hid_of (fun W hb => by
        have q1 := CB.out W (BW.out.trans (hb.mono BW.out.size))
        exact ⟨q1.1, q1.2, (HG.out W (hbw.out.trans (hb.mono hbw.out.size))).1⟩)
      obtain ⟨n, hn⟩ : ∃ n, n = l.length := ⟨_, rfl⟩
      have HCL : Hid (Calls Try.prog 21 #[.slice uo un uc, .slice (some ⟨wr.heap.size, 0, none⟩) 1 1, .slice xo n xc] ((wr.alloc (.cells #[.slice po pn pc, .string bx] 41)).drew) fun e w' => e = .returned (.tuple #[.bool (cl l), .int .i64 0]) ∧ Below wr.heap.size wr w') := hid_of (by
        rw [hn]
        exact (HC.out wr.drew xo xc l (BW.out.trans (BD.out.mono BW.out.size)) (HG.out wr.drew (hbw.out.trans (BD.out.mono hbw.out.size))).2 (List.mem_of_getElem? HL.out)).mono fun e w' ⟨q1, q2⟩ => ⟨q1, BD.out.trans (q2.mono (Nat.le_refl _))⟩)
      rw [← hn] at CC
      have BA : Hid (Below wr.heap.size wr ((wr.alloc (.cells #[.slice po pn pc, .string bx] 41)).drew)) := hid_of (bel_alloc wr _).drew
      have BA2 : Hid (Below wr.heap.size wr (wr.alloc (.cells #[.slice po pn pc, .string bx] 41))) := hid_of (bel_alloc wr _)
      obtain ⟨c, hc⟩ : ∃ c, c = cl l := ⟨_, rfl⟩
      rw [← hc] at HCL
      have HCC := hid_of hc
      obtain ⟨y1, y2, y3⟩ := CC.out wr (Below.refl _ _)
      clear hget hl hn hc
      have HNX : Hid ((F.take (k + 1)).all cl = (va && c)) := hid_of (by rw [take_snoc_get HL.out, List.all_append, ← hva.out]; simp [HCC.out])
      cases va <;> cases c
      all_goals
        go_wp2
        go_region_held_law (fun W => W.cell? ⟨w.heap.size, 0, none⟩ = some (.slice po pn pc) ∧ W.cell? ⟨w.heap.size, 1, none⟩ = some (.string bx) ∧ W.cell? ⟨g, k, none⟩ = some (.slice xo n xc)) (first | exact CC.out _ BD.out | exact CC.out _ BA.out | exact CC.out _ BA2.out | exact CC.out _ B8.out) ((go_at_call 21; ((with_reducible refine (HCL.out).mono ?_); (rintro ee w8 ⟨rfl, q1⟩; have B8 := hid_of q1; clear q1))))
        all_goals go_wp2
        go_roundw
        case rel => exact ⟨k + 1, _, _, _, rfl, by omega, by go_num, rfl, rfl, hid_of HNX.out.symm, hid_of (hbw.out.trans (B8.out.mono hbw.out.size))⟩
        case measure => simp [intOf]; omega
    · have hd : decide (k < M) = false := by simp; omega
      obtain rfl : M = k := by omega
      have e : va = b := by
        have h5 := hva.out
        rw [List.take_of_length_le (by have := HMM.out; omega)] at h5
        rw [h5]; exact HFIN.out
      subst e
      cases va
      all_goals
        go_wp2
        go_ret
        exact ⟨rfl, HB0.out.trans ((B3.out.trans (hbw.out.mono B3.out.size)).mono HB0.out.size)⟩
theorem complete_law (uo : Option Addr) (un uc : Nat) (U : List Str) (ro : Option Addr) (rn rc : Nat) (rs : List Gr) (po : Option Addr) (pn pc : Nat) (p : List Str) (x : Str) (w : World) (hU : Rd w (.slice uo un uc) (ss U)) (hz : ∀ y ∈ U, y.length ≤ 9223372036854775807) (hR : RuR w (.slice ro rn rc) rs) (hp : Rd w (.slice po pn pc) (ss p)) :
    Calls Try.prog 6 #[.slice uo un uc, .slice ro rn rc, .agg #[.slice po pn pc, .string (ba x)]] w fun e w' => e = .returned (.bool true) ∧ Below w.heap.size w w' := by
  by_cases l0 : 8 < un
  · exact cpl_big uo un uc U ro rn rc rs po pn pc p x w hU hz hR hp l0
  · cases hh : hvB U rs with
    | true => exact cpl_heavy uo un uc U ro rn rc rs po pn pc p x w hU hz hR hp l0 hh
    | false =>
      by_cases l1 : 8 < pn
      · exact cpl_long uo un uc U ro rn rc rs po pn pc p x w hU hz hR hp l0 hh l1
      · by_cases he : entE U rs (p, x) = 0
        · have h0 : chkE U rs = 0 := by unfold entE at he; split at he; assumption; assumption
          have h1 : ruE U (p, x) = 0 := by unfold entE at he; rwa [if_pos h0] at he
          exact cpl_main uo un uc U ro rn rc rs po pn pc p x w hU hz hR hp l0 hh l1 h0 h1 (@decide (DerS rs (fun y => y ∈ p) x) (Classical.propDecidable _)) (by simp)
        · exact cpl_err uo un uc U ro rn rc rs po pn pc p x w hU hz hR hp l0 hh l1 he
end Go.Proofs.Ytclefigcendpgaa
