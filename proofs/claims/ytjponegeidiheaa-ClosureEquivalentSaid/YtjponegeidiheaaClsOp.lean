/- ClosureOperator. Bounds on sizes alone. -/
import Derived.Test.YtjponegeidiheaaClsIn
import Derived.Test.YtjponegeidiheaaClsHvy
import Derived.Test.YtjponegeidiheaaClsCld
import Derived.Test.YtjponegeidiheaaClsAwk
namespace Go.Proofs.Ytjponegeidiheaa
open Go.RowKit

/-- The closure of a set, in names. -/
noncomputable def clF (U : List Str) (rs : List Gr) (s : List Str) : List Str := U.filter fun x => @decide (DerS rs (fun x => x ∈ s) x) (Classical.propDecidable _)
section
variable {U s s' : List Str} {rs : List Gr}
theorem cws_open (hq : cwsE U rs s = 0) : chkE U rs = 0 ∧ SS s ∧ ∀ x ∈ s, x ∈ U := by
  have h0 : chkE U rs = 0 := by unfold cwsE at hq; split at hq; assumption; assumption
  have e0 : setE U s = 0 := by unfold cwsE at hq; rwa [if_pos h0] at hq
  exact ⟨h0, setE_zero.1 e0⟩
theorem cws_mk (h0 : chkE U rs = 0) (h1 : SS s) (h2 : ∀ x ∈ s, x ∈ U) : cwsE U rs s = 0 := by
  unfold cwsE
  rw [if_pos h0]
  exact setE_zero.2 ⟨h1, h2⟩
theorem mem_clF (hq : cwsE U rs s = 0) {x : Str} : x ∈ clF U rs s ↔ DerS rs (fun x => x ∈ s) x := by
  obtain ⟨h0, h1, h2⟩ := cws_open hq
  obtain ⟨_, hok⟩ := chk_ok h0
  unfold clF
  rw [List.mem_filter]
  refine ⟨fun h => by simpa using h.2, fun h => ⟨derS_least (C := fun x => x ∈ U) (fun r hr _ => (hok r hr).2.2) h2 h, by simpa using h⟩⟩
theorem ss_clF (h0 : chkE U rs = 0) : SS (clF U rs s) := ss_filter _ (chk_ok h0).1
theorem clF_sub : ∀ x ∈ clF U rs s, x ∈ U := fun x hx => (List.mem_filter.1 hx).1
theorem cws_clF (hq : cwsE U rs s = 0) : cwsE U rs (clF U rs s) = 0 := cws_mk (cws_open hq).1 (ss_clF (cws_open hq).1) clF_sub
theorem clF_cld (hq : cwsE U rs s = 0) : clsB rs (clF U rs s) = true := clsB_iff.2 fun r hr hp => (mem_clF hq).2 (.rule hr fun y hy => (mem_clF hq).1 (hp y hy))
theorem clF_in (hq : cwsE U rs s = 0) : subB s (clF U rs s) = true := subB_iff.2 fun x hx => (mem_clF hq).2 (.base hx)
theorem clF_mono (hq : cwsE U rs s = 0) (hq' : cwsE U rs s' = 0) (h : subB s s' = true) : subB (clF U rs s) (clF U rs s') = true := subB_iff.2 fun x hx => (mem_clF hq').2 (derS_mono (fun y hy => .base (subB_iff.1 h y hy)) ((mem_clF hq).1 hx))
theorem clF_self (hq : cwsE U rs s = 0) (hc : clsB rs s = true) : clF U rs s = s := ss_ext (ss_clF (cws_open hq).1) (cws_open hq).2.1 fun x => by
  rw [mem_clF hq]
  exact ⟨fun h => derS_least (C := fun x => x ∈ s) (clsB_iff.1 hc) (fun y hy => hy) h, fun h => .base h⟩
theorem clF_len : (clF U rs s).length ≤ U.length := List.length_filter_le _ _
def meetS (a b : List Str) : List Str := a.filter fun x => decide (x ∈ b)
theorem cws_meet {a b : List Str} (ha : cwsE U rs a = 0) : cwsE U rs (meetS a b) = 0 := cws_mk (cws_open ha).1 (ss_filter _ (cws_open ha).2.1) fun x hx => (cws_open ha).2.2 x (List.mem_filter.1 hx).1
theorem cld_meet {a b : List Str} (ha : clsB rs a = true) (hb : clsB rs b = true) : clsB rs (meetS a b) = true := clsB_iff.2 fun r hr hp => by
  have h1 : ∀ y ∈ r.1, y ∈ a ∧ y ∈ b := fun y hy => by
    have := List.mem_filter.1 (hp y hy)
    exact ⟨this.1, of_decide_eq_true this.2⟩
  exact List.mem_filter.2 ⟨clsB_iff.1 ha r hr fun y hy => (h1 y hy).1, decide_eq_true (clsB_iff.1 hb r hr fun y hy => (h1 y hy).2)⟩
theorem meet_snoc {a b : List Str} {k : Nat} {x : Str} (h : a[k]? = some x) : meetS (a.take (k + 1)) b = meetS (a.take k) b ++ if x ∈ b then [x] else [] := by
  unfold meetS
  rw [take_snoc_get h, List.filter_append]
  by_cases e : x ∈ b <;> simp [e]
end
theorem close_good {uo : Option Addr} {un uc : Nat} {U : List Str} {ro : Option Addr} {rn rc : Nat} {rs : List Gr} {so : Option Addr} {sn sc : Nat} {s : List Str} {w : World} (h : InU w uo un uc U ro rn rc rs) (hS : Rd w (.slice so sn sc) (ss s)) (hsn : sn ≤ 1000000) (hq : cwsE U rs s = 0) :
    Calls Try.prog 20 #[.slice uo un uc, .slice ro rn rc, .slice so sn sc] w fun e w' => ∃ ao cap, e = .returned (.tuple #[.slice ao (clF U rs s).length cap, .int .i64 0]) ∧ Rd w' (.slice ao (clF U rs s).length cap) (ss (clF U rs s)) ∧ Below w.heap.size w w' :=
  (close_any uo un uc U ro rn rc rs so sn sc s w h hS hsn hq).mono fun e w' ⟨l, ao, cap, h1, h2, h3, h4, h5⟩ => by
    have e : l = clF U rs s := ss_ext h3 (ss_clF (cws_open hq).1) fun x => by rw [h4, mem_clF hq]
    subst e
    exact ⟨ao, cap, h1, own_rd h2.own, h2.bel⟩
/-- What Close answers, in any case. -/
theorem close_some {uo : Option Addr} {un uc : Nat} {U : List Str} {ro : Option Addr} {rn rc : Nat} {rs : List Gr} {so : Option Addr} {sn sc : Nat} {s : List Str} {w : World} (h : InU w uo un uc U ro rn rc rs) (hS : Rd w (.slice so sn sc) (ss s)) (hsn : sn ≤ 1000000) :
    Calls Try.prog 20 #[.slice uo un uc, .slice ro rn rc, .slice so sn sc] w fun e w' => ∃ ao m cap, e = .returned (.tuple #[.slice ao m cap, .int .i64 (cwsE U rs s : Nat)]) ∧ Below w.heap.size w w' := by
  by_cases hq : cwsE U rs s = 0
  · rw [hq]
    exact (close_good h hS hsn hq).mono fun e w' ⟨ao, cap, h1, _, h3⟩ => ⟨ao, _, cap, h1, h3⟩
  · exact (close_err uo un uc U ro rn rc rs so sn sc s w h hS hsn _ rfl hq).mono fun e w' ⟨h1, h2⟩ => ⟨none, 0, 0, h1, h2⟩

set_option maxRecDepth 100000 in
set_option maxHeartbeats 1600000 in
theorem op_heavy (uo : Option Addr) (un uc : Nat) (U : List Str) (ro : Option Addr) (rn rc : Nat) (rs : List Gr) (a0 : Option Addr) (n0 c0 : Nat) (s0 : List Str) (a1 : Option Addr) (n1 c1 : Nat) (s1 : List Str) (w : World) (hU : Rd w (.slice uo un uc) (ss U)) (hz : ∀ y ∈ U, y.length ≤ 9223372036854775807) (hR : RuR w (.slice ro rn rc) rs) (h0 : Rd w (.slice a0 n0 c0) (ss s0)) (h1 : Rd w (.slice a1 n1 c1) (ss s1)) (hh : hvB U rs = true) :
    Calls Try.prog 4 #[.slice uo un uc, .slice ro rn rc, .agg #[.slice a0 n0 c0, .slice a1 n1 c1]] w fun e w' => e = .returned (.bool true) ∧ Below w.heap.size w w' := by
  obtain ⟨wb, hwb⟩ : ∃ wb, wb = (w.alloc (.cells #[.slice a0 n0 c0, .slice a1 n1 c1] 37)) := ⟨_, rfl⟩
  have B0 : Below w.heap.size w wb := by rw [hwb]; exact bel_alloc w _
  have hbx : wb.heap[w.heap.size]? = some (.cells #[.slice a0 n0 c0, .slice a1 n1 c1] 37 (0, 0)) := by rw [hwb]; exact heap_alloc_new w _
  have CB : Hid (∀ W, Below wb.heap.size wb W → W.cell? ⟨w.heap.size, 0, none⟩ = some (.slice a0 n0 c0) ∧ W.cell? ⟨w.heap.size, 1, none⟩ = some (.slice a1 n1 c1)) := hid_of (fun W hb => by
    have e := (hb.block _ (lt_of_block hbx)).trans hbx
    exact ⟨blk_cell (cs := [.slice a0 n0 c0, .slice a1 n1 c1]) e (j := 0) rfl, blk_cell (cs := [.slice a0 n0 c0, .slice a1 n1 c1]) e (j := 1) rfl⟩)
  have AW : Hid (Calls Try.prog 15 #[] wb fun e w' => e = .returned (.bool true) ∧ Below wb.heap.size wb w') := hid_of (awake_any wb)
  obtain ⟨hv, ehv⟩ : ∃ hv, hv = hvB U rs := ⟨_, rfl⟩
  have HV : Hid (∀ W, Below wb.heap.size wb W → Calls Try.prog 16 #[.slice uo un uc, .slice ro rn rc] W fun e w' => e = .returned (.bool hv) ∧ W = w') := hid_of (fun W hb => by rw [ehv]; exact heavy_any uo un uc U ro rn rc rs W ((hU.at B0).at hb) ((hR.at B0).at hb))
  have HB0 := hid_of B0
  have hn0 : n0 ≤ 9223372036854775807 := by have := (rds_open h0).2; omega
  have hn1 : n1 ≤ 9223372036854775807 := by have := (rds_open h1).2; omega
  rw [hh] at ehv
  subst ehv
  clear hU hz hR h0 h1 hh B0 hbx
  subst hwb
  go_enter Try.func4, Try.ntmps4
  go_wp2_with (first
    | (go_at_call 15; ((with_reducible refine (AW.out).mono ?_); (rintro ee w1 ⟨rfl, q1⟩)); have B1 := hid_of q1; obtain ⟨k10, k11⟩ := CB.out w1 q1; clear q1)
    | (go_at_call 16; ((with_reducible refine (HV.out w1 B1.out).mono ?_); (rintro ee w' ⟨rfl, rfl⟩))))
  go_ret
  exact ⟨rfl, HB0.out.trans (B1.out.mono HB0.out.size)⟩
set_option maxRecDepth 100000 in
set_option maxHeartbeats 1600000 in
theorem op_long0 (uo : Option Addr) (un uc : Nat) (U : List Str) (ro : Option Addr) (rn rc : Nat) (rs : List Gr) (a0 : Option Addr) (n0 c0 : Nat) (s0 : List Str) (a1 : Option Addr) (n1 c1 : Nat) (s1 : List Str) (w : World) (hU : Rd w (.slice uo un uc) (ss U)) (hz : ∀ y ∈ U, y.length ≤ 9223372036854775807) (hR : RuR w (.slice ro rn rc) rs) (h0 : Rd w (.slice a0 n0 c0) (ss s0)) (h1 : Rd w (.slice a1 n1 c1) (ss s1)) (hh : hvB U rs = false) (hl : 41 < n0) :
    Calls Try.prog 4 #[.slice uo un uc, .slice ro rn rc, .agg #[.slice a0 n0 c0, .slice a1 n1 c1]] w fun e w' => e = .returned (.bool true) ∧ Below w.heap.size w w' := by
  obtain ⟨wb, hwb⟩ : ∃ wb, wb = (w.alloc (.cells #[.slice a0 n0 c0, .slice a1 n1 c1] 37)) := ⟨_, rfl⟩
  have B0 : Below w.heap.size w wb := by rw [hwb]; exact bel_alloc w _
  have hbx : wb.heap[w.heap.size]? = some (.cells #[.slice a0 n0 c0, .slice a1 n1 c1] 37 (0, 0)) := by rw [hwb]; exact heap_alloc_new w _
  have CB : Hid (∀ W, Below wb.heap.size wb W → W.cell? ⟨w.heap.size, 0, none⟩ = some (.slice a0 n0 c0) ∧ W.cell? ⟨w.heap.size, 1, none⟩ = some (.slice a1 n1 c1)) := hid_of (fun W hb => by
    have e := (hb.block _ (lt_of_block hbx)).trans hbx
    exact ⟨blk_cell (cs := [.slice a0 n0 c0, .slice a1 n1 c1]) e (j := 0) rfl, blk_cell (cs := [.slice a0 n0 c0, .slice a1 n1 c1]) e (j := 1) rfl⟩)
  have AW : Hid (Calls Try.prog 15 #[] wb fun e w' => e = .returned (.bool true) ∧ Below wb.heap.size wb w') := hid_of (awake_any wb)
  obtain ⟨hv, ehv⟩ : ∃ hv, hv = hvB U rs := ⟨_, rfl⟩
  have HV : Hid (∀ W, Below wb.heap.size wb W → Calls Try.prog 16 #[.slice uo un uc, .slice ro rn rc] W fun e w' => e = .returned (.bool hv) ∧ W = w') := hid_of (fun W hb => by rw [ehv]; exact heavy_any uo un uc U ro rn rc rs W ((hU.at B0).at hb) ((hR.at B0).at hb))
  have HB0 := hid_of B0
  have hn0 : n0 ≤ 9223372036854775807 := by have := (rds_open h0).2; omega
  have hn1 : n1 ≤ 9223372036854775807 := by have := (rds_open h1).2; omega
  rw [hh] at ehv
  subst ehv
  have ga_0 : decide ((41 : Int) < (n0 : Int)) = true := by simp; omega
  have ga_1 : decide (41 < n0) = true := by simp; omega
  have ga_2 : decide ((n0 : Int) > 41) = true := by simp; omega
  clear hU hz hR h0 h1 hh B0 hbx hl
  subst hwb
  go_enter Try.func4, Try.ntmps4
  go_wp2_with (first
    | (go_at_call 15; ((with_reducible refine (AW.out).mono ?_); (rintro ee w1 ⟨rfl, q1⟩)); have B1 := hid_of q1; obtain ⟨k10, k11⟩ := CB.out w1 q1; clear q1)
    | (go_at_call 16; ((with_reducible refine (HV.out w1 B1.out).mono ?_); (rintro ee w' ⟨rfl, rfl⟩))))
  go_ret
  exact ⟨rfl, HB0.out.trans (B1.out.mono HB0.out.size)⟩
set_option maxRecDepth 100000 in
set_option maxHeartbeats 1600000 in
theorem op_long1 (uo : Option Addr) (un uc : Nat) (U : List Str) (ro : Option Addr) (rn rc : Nat) (rs : List Gr) (a0 : Option Addr) (n0 c0 : Nat) (s0 : List Str) (a1 : Option Addr) (n1 c1 : Nat) (s1 : List Str) (w : World) (hU : Rd w (.slice uo un uc) (ss U)) (hz : ∀ y ∈ U, y.length ≤ 9223372036854775807) (hR : RuR w (.slice ro rn rc) rs) (h0 : Rd w (.slice a0 n0 c0) (ss s0)) (h1 : Rd w (.slice a1 n1 c1) (ss s1)) (hh : hvB U rs = false) (hl0 : ¬ 41 < n0) (hl : 41 < n1) :
    Calls Try.prog 4 #[.slice uo un uc, .slice ro rn rc, .agg #[.slice a0 n0 c0, .slice a1 n1 c1]] w fun e w' => e = .returned (.bool true) ∧ Below w.heap.size w w' := by
  obtain ⟨wb, hwb⟩ : ∃ wb, wb = (w.alloc (.cells #[.slice a0 n0 c0, .slice a1 n1 c1] 37)) := ⟨_, rfl⟩
  have B0 : Below w.heap.size w wb := by rw [hwb]; exact bel_alloc w _
  have hbx : wb.heap[w.heap.size]? = some (.cells #[.slice a0 n0 c0, .slice a1 n1 c1] 37 (0, 0)) := by rw [hwb]; exact heap_alloc_new w _
  have CB : Hid (∀ W, Below wb.heap.size wb W → W.cell? ⟨w.heap.size, 0, none⟩ = some (.slice a0 n0 c0) ∧ W.cell? ⟨w.heap.size, 1, none⟩ = some (.slice a1 n1 c1)) := hid_of (fun W hb => by
    have e := (hb.block _ (lt_of_block hbx)).trans hbx
    exact ⟨blk_cell (cs := [.slice a0 n0 c0, .slice a1 n1 c1]) e (j := 0) rfl, blk_cell (cs := [.slice a0 n0 c0, .slice a1 n1 c1]) e (j := 1) rfl⟩)
  have AW : Hid (Calls Try.prog 15 #[] wb fun e w' => e = .returned (.bool true) ∧ Below wb.heap.size wb w') := hid_of (awake_any wb)
  obtain ⟨hv, ehv⟩ : ∃ hv, hv = hvB U rs := ⟨_, rfl⟩
  have HV : Hid (∀ W, Below wb.heap.size wb W → Calls Try.prog 16 #[.slice uo un uc, .slice ro rn rc] W fun e w' => e = .returned (.bool hv) ∧ W = w') := hid_of (fun W hb => by rw [ehv]; exact heavy_any uo un uc U ro rn rc rs W ((hU.at B0).at hb) ((hR.at B0).at hb))
  have HB0 := hid_of B0
  have hn0 : n0 ≤ 9223372036854775807 := by have := (rds_open h0).2; omega
  have hn1 : n1 ≤ 9223372036854775807 := by have := (rds_open h1).2; omega
  rw [hh] at ehv
  subst ehv
  have ga_0 : decide ((41 : Int) < (n0 : Int)) = false := by simp; omega
  have ga_1 : decide (41 < n0) = false := by simp; omega
  have ga_2 : decide ((n0 : Int) > 41) = false := by simp; omega
  have gb_0 : decide ((41 : Int) < (n1 : Int)) = true := by simp; omega
  have gb_1 : decide (41 < n1) = true := by simp; omega
  have gb_2 : decide ((n1 : Int) > 41) = true := by simp; omega
  clear hU hz hR h0 h1 hh B0 hbx hl hl0
  subst hwb
  go_enter Try.func4, Try.ntmps4
  go_wp2_with (first
    | (go_at_call 15; ((with_reducible refine (AW.out).mono ?_); (rintro ee w1 ⟨rfl, q1⟩)); have B1 := hid_of q1; obtain ⟨k10, k11⟩ := CB.out w1 q1; clear q1)
    | (go_at_call 16; ((with_reducible refine (HV.out w1 B1.out).mono ?_); (rintro ee w' ⟨rfl, rfl⟩))))
  go_ret
  exact ⟨rfl, HB0.out.trans (B1.out.mono HB0.out.size)⟩
set_option maxRecDepth 100000 in
set_option maxHeartbeats 1600000 in
theorem op_chk (uo : Option Addr) (un uc : Nat) (U : List Str) (ro : Option Addr) (rn rc : Nat) (rs : List Gr) (a0 : Option Addr) (n0 c0 : Nat) (s0 : List Str) (a1 : Option Addr) (n1 c1 : Nat) (s1 : List Str) (w : World) (hU : Rd w (.slice uo un uc) (ss U)) (hz : ∀ y ∈ U, y.length ≤ 9223372036854775807) (hR : RuR w (.slice ro rn rc) rs) (h0 : Rd w (.slice a0 n0 c0) (ss s0)) (h1 : Rd w (.slice a1 n1 c1) (ss s1)) (hh : hvB U rs = false) (hl0 : ¬ 41 < n0) (hl1 : ¬ 41 < n1) (hc : chkE U rs ≠ 0) :
    Calls Try.prog 4 #[.slice uo un uc, .slice ro rn rc, .agg #[.slice a0 n0 c0, .slice a1 n1 c1]] w fun e w' => e = .returned (.bool true) ∧ Below w.heap.size w w' := by
  obtain ⟨wb, hwb⟩ : ∃ wb, wb = (w.alloc (.cells #[.slice a0 n0 c0, .slice a1 n1 c1] 37)) := ⟨_, rfl⟩
  have B0 : Below w.heap.size w wb := by rw [hwb]; exact bel_alloc w _
  have hbx : wb.heap[w.heap.size]? = some (.cells #[.slice a0 n0 c0, .slice a1 n1 c1] 37 (0, 0)) := by rw [hwb]; exact heap_alloc_new w _
  have CB : Hid (∀ W, Below wb.heap.size wb W → W.cell? ⟨w.heap.size, 0, none⟩ = some (.slice a0 n0 c0) ∧ W.cell? ⟨w.heap.size, 1, none⟩ = some (.slice a1 n1 c1)) := hid_of (fun W hb => by
    have e := (hb.block _ (lt_of_block hbx)).trans hbx
    exact ⟨blk_cell (cs := [.slice a0 n0 c0, .slice a1 n1 c1]) e (j := 0) rfl, blk_cell (cs := [.slice a0 n0 c0, .slice a1 n1 c1]) e (j := 1) rfl⟩)
  have AW : Hid (Calls Try.prog 15 #[] wb fun e w' => e = .returned (.bool true) ∧ Below wb.heap.size wb w') := hid_of (awake_any wb)
  obtain ⟨hv, ehv⟩ : ∃ hv, hv = hvB U rs := ⟨_, rfl⟩
  have HV : Hid (∀ W, Below wb.heap.size wb W → Calls Try.prog 16 #[.slice uo un uc, .slice ro rn rc] W fun e w' => e = .returned (.bool hv) ∧ W = w') := hid_of (fun W hb => by rw [ehv]; exact heavy_any uo un uc U ro rn rc rs W ((hU.at B0).at hb) ((hR.at B0).at hb))
  have HB0 := hid_of B0
  have hn0 : n0 ≤ 9223372036854775807 := by have := (rds_open h0).2; omega
  have hn1 : n1 ≤ 9223372036854775807 := by have := (rds_open h1).2; omega
  obtain ⟨e1, e2, e3⟩ := hvB_no hh
  have hul := (rds_open hU).1
  have hrl := hR.len.1
  have IU : InU wb uo un uc U ro rn rc rs := ⟨hU.at B0, hR.at B0, hz, by omega, by omega, fun r hr => by have := e3 r hr; omega⟩
  rw [hh] at ehv
  subst ehv
  obtain ⟨q, hq⟩ : ∃ q, q = chkE U rs := ⟨_, rfl⟩
  have HK : Hid (∀ W, Below wb.heap.size wb W → Calls Try.prog 18 #[.slice uo un uc, .slice ro rn rc] W fun e w' => e = .returned (.int .i64 q) ∧ Below wb.heap.size wb w') := hid_of (fun W hb => by rw [hq]; exact (check_any uo un uc U ro rn rc rs W (IU.at hb)).mono fun e w' ⟨h1, h2⟩ => ⟨h1, hb.trans (h2.mono hb.size)⟩)
  have ga_0 : decide ((41 : Int) < (n0 : Int)) = false := by simp; omega
  have ga_1 : decide (41 < n0) = false := by simp; omega
  have ga_2 : decide ((n0 : Int) > 41) = false := by simp; omega
  have gb_0 : decide ((41 : Int) < (n1 : Int)) = false := by simp; omega
  have gb_1 : decide (41 < n1) = false := by simp; omega
  have gb_2 : decide ((n1 : Int) > 41) = false := by simp; omega
  have t1 : ((q : Int) != 0) = true := by simp; omega
  clear hU hz hR h0 h1 hh B0 hbx hl1 hl0 IU e1 e2 e3 hul hrl hc hq
  subst hwb
  go_enter Try.func4, Try.ntmps4
  go_wp2_with (first
    | (go_at_call 15; ((with_reducible refine (AW.out).mono ?_); (rintro ee w1 ⟨rfl, q1⟩)); have B1 := hid_of q1; obtain ⟨k10, k11⟩ := CB.out w1 q1; clear q1)
    | (go_at_call 16; ((with_reducible refine (HV.out w1 B1.out).mono ?_); (rintro ee w' ⟨rfl, rfl⟩)))
    | (go_at_call 18; ((with_reducible refine (HK.out w1 B1.out).mono ?_); (rintro ee w2 ⟨rfl, q1⟩)); have B2 := hid_of q1; obtain ⟨k20, k21⟩ := CB.out w2 q1; clear q1))
  go_ret
  exact ⟨rfl, HB0.out.trans (B2.out.mono HB0.out.size)⟩
set_option maxRecDepth 100000 in
set_option maxHeartbeats 1600000 in
theorem op_err (uo : Option Addr) (un uc : Nat) (U : List Str) (ro : Option Addr) (rn rc : Nat) (rs : List Gr) (a0 : Option Addr) (n0 c0 : Nat) (s0 : List Str) (a1 : Option Addr) (n1 c1 : Nat) (s1 : List Str) (w : World) (hU : Rd w (.slice uo un uc) (ss U)) (hz : ∀ y ∈ U, y.length ≤ 9223372036854775807) (hR : RuR w (.slice ro rn rc) rs) (h0 : Rd w (.slice a0 n0 c0) (ss s0)) (h1 : Rd w (.slice a1 n1 c1) (ss s1)) (hh : hvB U rs = false) (hl0 : ¬ 41 < n0) (hl1 : ¬ 41 < n1) (hc : chkE U rs = 0) (he : cwsE U rs s0 ≠ 0 ∨ cwsE U rs s1 ≠ 0) :
    Calls Try.prog 4 #[.slice uo un uc, .slice ro rn rc, .agg #[.slice a0 n0 c0, .slice a1 n1 c1]] w fun e w' => e = .returned (.bool true) ∧ Below w.heap.size w w' := by
  obtain ⟨wb, hwb⟩ : ∃ wb, wb = (w.alloc (.cells #[.slice a0 n0 c0, .slice a1 n1 c1] 37)) := ⟨_, rfl⟩
  have B0 : Below w.heap.size w wb := by rw [hwb]; exact bel_alloc w _
  have hbx : wb.heap[w.heap.size]? = some (.cells #[.slice a0 n0 c0, .slice a1 n1 c1] 37 (0, 0)) := by rw [hwb]; exact heap_alloc_new w _
  have CB : Hid (∀ W, Below wb.heap.size wb W → W.cell? ⟨w.heap.size, 0, none⟩ = some (.slice a0 n0 c0) ∧ W.cell? ⟨w.heap.size, 1, none⟩ = some (.slice a1 n1 c1)) := hid_of (fun W hb => by
    have e := (hb.block _ (lt_of_block hbx)).trans hbx
    exact ⟨blk_cell (cs := [.slice a0 n0 c0, .slice a1 n1 c1]) e (j := 0) rfl, blk_cell (cs := [.slice a0 n0 c0, .slice a1 n1 c1]) e (j := 1) rfl⟩)
  have AW : Hid (Calls Try.prog 15 #[] wb fun e w' => e = .returned (.bool true) ∧ Below wb.heap.size wb w') := hid_of (awake_any wb)
  obtain ⟨hv, ehv⟩ : ∃ hv, hv = hvB U rs := ⟨_, rfl⟩
  have HV : Hid (∀ W, Below wb.heap.size wb W → Calls Try.prog 16 #[.slice uo un uc, .slice ro rn rc] W fun e w' => e = .returned (.bool hv) ∧ W = w') := hid_of (fun W hb => by rw [ehv]; exact heavy_any uo un uc U ro rn rc rs W ((hU.at B0).at hb) ((hR.at B0).at hb))
  have HB0 := hid_of B0
  have hn0 : n0 ≤ 9223372036854775807 := by have := (rds_open h0).2; omega
  have hn1 : n1 ≤ 9223372036854775807 := by have := (rds_open h1).2; omega
  obtain ⟨e1, e2, e3⟩ := hvB_no hh
  have hul := (rds_open hU).1
  have hrl := hR.len.1
  have IU : InU wb uo un uc U ro rn rc rs := ⟨hU.at B0, hR.at B0, hz, by omega, by omega, fun r hr => by have := e3 r hr; omega⟩
  rw [hh] at ehv
  subst ehv
  have HK : Hid (∀ W, Below wb.heap.size wb W → Calls Try.prog 18 #[.slice uo un uc, .slice ro rn rc] W fun e w' => e = .returned (.int .i64 0) ∧ Below wb.heap.size wb w') := hid_of (fun W hb => by
    have := check_any uo un uc U ro rn rc rs W (IU.at hb)
    rw [hc] at this
    exact this.mono fun e w' ⟨h1, h2⟩ => ⟨h1, hb.trans (h2.mono hb.size)⟩)
  obtain ⟨p0, hp0⟩ : ∃ p, p = cwsE U rs s0 := ⟨_, rfl⟩
  obtain ⟨p1, hp1⟩ : ∃ p, p = cwsE U rs s1 := ⟨_, rfl⟩
  have C0 : Hid (∀ W, Below wb.heap.size wb W → Calls Try.prog 20 #[.slice uo un uc, .slice ro rn rc, .slice a0 n0 c0] W fun e w' => ∃ ao m cap, e = .returned (.tuple #[.slice ao m cap, .int .i64 p0]) ∧ Below wb.heap.size wb w') := hid_of (fun W hb => by rw [hp0]; exact (close_some (IU.at hb) ((h0.at B0).at hb) (by omega)).mono fun e w' ⟨x, y, z, h1, h2⟩ => ⟨x, y, z, h1, hb.trans (h2.mono hb.size)⟩)
  have C1 : Hid (∀ W, Below wb.heap.size wb W → Calls Try.prog 20 #[.slice uo un uc, .slice ro rn rc, .slice a1 n1 c1] W fun e w' => ∃ ao m cap, e = .returned (.tuple #[.slice ao m cap, .int .i64 p1]) ∧ Below wb.heap.size wb w') := hid_of (fun W hb => by rw [hp1]; exact (close_some (IU.at hb) ((h1.at B0).at hb) (by omega)).mono fun e w' ⟨x, y, z, h1, h2⟩ => ⟨x, y, z, h1, hb.trans (h2.mono hb.size)⟩)
  have ga_0 : decide ((41 : Int) < (n0 : Int)) = false := by simp; omega
  have ga_1 : decide (41 < n0) = false := by simp; omega
  have ga_2 : decide ((n0 : Int) > 41) = false := by simp; omega
  have gb_0 : decide ((41 : Int) < (n1 : Int)) = false := by simp; omega
  have gb_1 : decide (41 < n1) = false := by simp; omega
  have gb_2 : decide ((n1 : Int) > 41) = false := by simp; omega
  have u : p0 ≠ 0 ∨ (p0 = 0 ∧ p1 ≠ 0) := by omega
  clear hU hz hR h0 h1 hh B0 hbx hl1 hl0 IU e1 e2 e3 hul hrl hc hp0 hp1 he
  subst hwb
  rcases u with u | ⟨u, v⟩
  · have t1 : ((p0 : Int) != 0) = true := by simp; omega
    clear u
    go_enter Try.func4, Try.ntmps4
    go_wp2_with (first
      | (go_at_call 15; ((with_reducible refine (AW.out).mono ?_); (rintro ee w1 ⟨rfl, q1⟩)); have B1 := hid_of q1; obtain ⟨k10, k11⟩ := CB.out w1 q1; clear q1)
      | (go_at_call 16; ((with_reducible refine (HV.out w1 B1.out).mono ?_); (rintro ee w' ⟨rfl, rfl⟩)))
      | (go_at_call 18; ((with_reducible refine (HK.out w1 B1.out).mono ?_); (rintro ee w2 ⟨rfl, q1⟩)); have B2 := hid_of q1; obtain ⟨k20, k21⟩ := CB.out w2 q1; clear q1)
      | (go_at_call 20; ((with_reducible refine (C0.out w2 B2.out).mono ?_); (rintro ee w3 ⟨xo, xm, xc, rfl, q1⟩)); have B3 := hid_of q1; obtain ⟨k30, k31⟩ := CB.out w3 q1; clear q1)
      | (go_at_call 20; ((with_reducible refine (C1.out w3 B3.out).mono ?_); (rintro ee w4 ⟨yo, ym, yc, rfl, q1⟩)); have B4 := hid_of q1; clear q1))
    go_ret
    exact ⟨rfl, HB0.out.trans (B4.out.mono HB0.out.size)⟩
  · subst u
    have t1 : ((p1 : Int) != 0) = true := by simp; omega
    clear v
    go_enter Try.func4, Try.ntmps4
    go_wp2_with (first
      | (go_at_call 15; ((with_reducible refine (AW.out).mono ?_); (rintro ee w1 ⟨rfl, q1⟩)); have B1 := hid_of q1; obtain ⟨k10, k11⟩ := CB.out w1 q1; clear q1)
      | (go_at_call 16; ((with_reducible refine (HV.out w1 B1.out).mono ?_); (rintro ee w' ⟨rfl, rfl⟩)))
      | (go_at_call 18; ((with_reducible refine (HK.out w1 B1.out).mono ?_); (rintro ee w2 ⟨rfl, q1⟩)); have B2 := hid_of q1; obtain ⟨k20, k21⟩ := CB.out w2 q1; clear q1)
      | (go_at_call 20; ((with_reducible refine (C0.out w2 B2.out).mono ?_); (rintro ee w3 ⟨xo, xm, xc, rfl, q1⟩)); have B3 := hid_of q1; obtain ⟨k30, k31⟩ := CB.out w3 q1; clear q1)
      | (go_at_call 20; ((with_reducible refine (C1.out w3 B3.out).mono ?_); (rintro ee w4 ⟨yo, ym, yc, rfl, q1⟩)); have B4 := hid_of q1; clear q1))
    go_ret
    exact ⟨rfl, HB0.out.trans (B4.out.mono HB0.out.size)⟩
end Go.Proofs.Ytjponegeidiheaa
