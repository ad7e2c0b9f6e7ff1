/- All: its errors. Bounds on sizes alone. -/
import Derived.Test.YtclefigcendpgaaClsAll
namespace Go.Proofs.Ytclefigcendpgaa
open Go.RowKit

/-- Behind newChase, where the sets are too many. -/
def N3 (w : World) (c : Nat) (w2 : World) : Prop := ∀ w5, Below w2.heap.size w2 w5 → w5.heap[w2.heap.size]? = some (.cells #[.pointer (some ⟨c, 0, none⟩)] 76 (0, 0)) → w5.heap[w2.heap.size + 1]? = some (.cells #[.int .i64 0] 3 (0, 0)) → w5.heap[w2.heap.size + 1 + 1]? = some (.cells #[.int .i64 0] 3 (0, 0)) →
  Calls Try.prog 53 #[.pointer (some ⟨c, 0, none⟩), .func (.func 54) #[] #[.pointer (some ⟨w2.heap.size + 1, 0, none⟩), .pointer (some ⟨w2.heap.size + 1 + 1, 0, none⟩), .pointer (some ⟨w2.heap.size, 0, none⟩), .pointer (some ⟨w.heap.size + 1, 0, none⟩)]] w5 fun e w6 => e = .returned (.bool false) ∧ Hid (Below w.heap.size w w6)
set_option maxRecDepth 100000 in
theorem all_n3 {uo : Option Addr} {un uc : Nat} {U : List Str} {rs : List Gr} {w w1 w2 : World} {c : Nat} {lim : Int} (hul : un = U.length) (hu : un ≤ 1000) (hN : (allF U rs).length ≤ 100000) (RU : Rd w (.slice uo un uc) (ss U)) (hl1 : 1 ≤ lim) (hl2 : lim ≤ 9223372036854775807) (hfit : lim < ((allF U rs).length : Int))
    (hB1 : Below w.heap.size w w1) (hz1 : w.heap.size + 1 + 1 ≤ w1.heap.size) (hub : w1.heap[w.heap.size]? = some (.cells #[.slice uo un uc] 22 (0, 0))) (hlb : w1.heap[w.heap.size + 1]? = some (.cells #[.int .i64 lim] 3 (0, 0)))
    (hni : NewI (w.heap.size + 1 + 1) w1 c un (cmpF U rs) w2) : N3 w c w2 := by
  obtain ⟨V, S, hch, h12, hS, hA⟩ := hni
  intro w5 h25 e1 e2 e3
  have z12 := h12.size
  have z25 := h25.size
  have zz := lt_of_block e3
  have hcnt : (allF U rs).length = (allS (cmpF U rs) un).length := by unfold allF; rw [List.length_map, ← hul]
  have ch5 := hch.at h25
  have j1 : J1 (w2.heap.size + 1) (w2.heap.size + 1 + 1) w2.heap.size (w.heap.size + 1) c un lim [] (fun b => b = w2.heap.size + 1 ∨ b = w2.heap.size + 1 + 1 ∨ b = w2.heap.size ∨ b = w.heap.size + 1) w5 :=
    ⟨fun b => Iff.rfl, e2, e3, e1, ((h25.block _ (by omega)).trans (h12.block _ (by omega))).trans hlb, by omega, by simp [sumL]⟩
  have hai : ∀ (i : Nat) (v : Value), V.ar[i]? = some v → ∀ g, v.ownBlock = some g → g < w2.heap.size := fun i v hv g hg => ((hch.ai i v hv).2 g hg).1
  refine (wal_any c un 0 54 (cmpF U rs) _ (J1 (w2.heap.size + 1) (w2.heap.size + 1 + 1) w2.heap.size (w.heap.size + 1) c un lim) (okL lim) 100000 [] V S _ w5 (by omega) (fun _ _ => rfl) J1.stable
    (fun vb cb bb d T V US JS wv hd _ hst => all1_any _ _ _ _ c un 100000 lim (cmpF U rs) hu (Nat.le_refl _) vb cb bb _ _ d T V US JS wv hd hst (by omega) hl2)
    ch5 (Nat.zero_le _) j1 (fun b hb => ?_) (fun i v hv g hg hJ => ?_) (by rw [← hcnt]; exact hN)).mono ?_
  · rcases hb with rfl | rfl | rfl | rfl
    · exact ⟨fun hs => by have := hch.sz _ hs; omega, by omega⟩
    · exact ⟨fun hs => by have := hch.sz _ hs; omega, by omega⟩
    · exact ⟨fun hs => by have := hch.sz _ hs; omega, by omega⟩
    · exact ⟨fun hs => by have := hS _ hs; omega, by omega⟩
  · have q1 := hA v (List.mem_of_getElem? hv) g hg
    have q2 := hai i v hv g hg
    rcases hJ with h | h | h | h <;> omega
  · rintro e w6 ⟨rfl, V', U', JS', p1, _, _, _⟩
    rw [prc_over lim _ _ (by simp; omega) (by rw [← hcnt]; simpa using hfit)]
    have h15 : Below w1.heap.size w1 w5 := h12.trans (h25.mono h12.size)
    have z56 := p1.kept.size
    refine ⟨rfl, hid_of ⟨p1.kept.os.trans (h15.os.trans hB1.os), p1.kept.tape.trans (h15.tape.trans hB1.tape), p1.kept.output.trans (h15.output.trans hB1.output), by omega, fun b hb => ?_⟩⟩
    have hlow : ¬ orS S (fun b => b = w2.heap.size + 1 ∨ b = w2.heap.size + 1 + 1 ∨ b = w2.heap.size ∨ b = w.heap.size + 1) b := fun hs => by
      rcases hs with hs | hs | hs | hs | hs
      · have := hS b hs; omega
      · omega
      · omega
      · omega
      · omega
    rw [p1.kept.block b (by omega) hlow, h15.block b (by omega)]
    exact hB1.block b hb
set_option maxRecDepth 100000 in
set_option maxHeartbeats 1600000 in
theorem all_over (uo : Option Addr) (un uc : Nat) (U : List Str) (ro : Option Addr) (rn rc : Nat) (rs : List Gr) (lim : Int) (w : World) (h : InU w uo un uc U ro rn rc rs) (hq : chkE U rs = 0) (hl1 : 1 ≤ lim) (hl2 : lim ≤ 9223372036854775807) (hu : un ≤ 1000) (hN : (allF U rs).length ≤ 100000) (hfit : lim < ((allF U rs).length : Int)) :
    Calls Try.prog 30 #[.slice uo un uc, .slice ro rn rc, .int .i64 lim] w fun e w' => e = .returned (.tuple #[.slice none 0 0, .int .i64 6]) ∧ Below w.heap.size w w' := by
  have hul := h.ul
  obtain ⟨wb, hwb⟩ : ∃ wb, wb = (w.alloc (.cells #[.slice uo un uc] 22)).alloc (.cells #[.int .i64 lim] 3) := ⟨_, rfl⟩
  have Bb : Below w.heap.size w wb := by rw [hwb]; exact (bel_alloc w _).trans ((bel_alloc _ _).mono (by simp))
  have zb : wb.heap.size = w.heap.size + 1 + 1 := by rw [hwb]; simp
  have b1 : wb.heap[w.heap.size]? = some (.cells #[.slice uo un uc] 22 (0, 0)) := by
    rw [hwb, (bel_alloc _ _).block w.heap.size (by simp)]; exact heap_alloc_new w _
  have b2 : wb.heap[w.heap.size + 1]? = some (.cells #[.int .i64 lim] 3 (0, 0)) := by
    rw [hwb]; have := heap_alloc_new (w.alloc (.cells #[.slice uo un uc] 22)) (.cells #[.int .i64 lim] 3)
    simpa using this
  have hb := h.at Bb
  have hrn := h.rn
  have HC : Hid (Calls Try.prog 44 #[.slice uo un uc, .slice ro rn rc] wb fun e w1 => ∃ ao cap, e = .returned (.tuple #[.slice ao rn cap, .int .i64 0]) ∧ (w1.cell? ⟨w.heap.size, 0, none⟩ = some (.slice uo un uc) ∧ w1.cell? ⟨w.heap.size + 1, 0, none⟩ = some (.int .i64 lim)) ∧
      Hid (Calls Try.prog 46 #[.int .i64 un, .slice ao rn cap] w1 fun e w2 => ∃ c, e = .returned (.pointer (some ⟨c, 0, none⟩)) ∧ Hid (N3 w c w2))) := hid_of ((cmp_good hb hq).mono fun e w1 ⟨R, ao, cap, h1, h2, h3, h4⟩ => by
    have e1 : w1.heap[w.heap.size]? = some (.cells #[.slice uo un uc] 22 (0, 0)) := (h4.block _ (by omega)).trans b1
    have e2 : w1.heap[w.heap.size + 1]? = some (.cells #[.int .i64 lim] 3 (0, 0)) := (h4.block _ (by omega)).trans b2
    refine ⟨ao, cap, h1, ⟨blk_cell (cs := [.slice uo un uc]) e1 rfl, blk_cell (cs := [.int .i64 lim]) e2 rfl⟩, hid_of ?_⟩
    have eR : R = cmpF U rs := cmp_inj (chk_ok hq).1 h2 (cmp_mk hq)
    refine (new_any wb.heap.size un R ao rn cap w1 h3 (by rw [hul]; exact cmp_ok (chk_ok hq).1 h2 fun r hr => ((chk_ok hq).2 r hr).1) h.un hrn).mono ?_
    rintro e w2 ⟨c, rfl, _, hni⟩
    rw [eR, zb] at hni
    exact ⟨c, rfl, hid_of (all_n3 hul hu hN h.ru hl1 hl2 hfit (Bb.trans (h4.mono Bb.size)) (by have := h4.size; omega) e1 e2 hni)⟩)
  have c1 : wb.cell? ⟨w.heap.size, 0, none⟩ = some (.slice uo un uc) := blk_cell (cs := [.slice uo un uc]) b1 rfl
  have hd : decide (lim < 1) = false := by simp; omega
  have hum : un ≤ 9223372036854775807 := by omega
  clear h hq hl1 hl2 hN hfit hul Bb zb b1 b2 hb hrn hu
  subst hwb
  go_enter Try.func30, Try.ntmps30
  go_wp2_with (first
    | (go_at_call 44; ((with_reducible refine (HC.out).mono ?_); (rintro e w1 ⟨ao, cap, rfl, ⟨k1, k2⟩, H1⟩)))
    | (go_at_call 46; ((with_reducible refine (H1.out).mono ?_); (rintro e w2 ⟨c, rfl, H2⟩)))
    | (go_at_call 53; (have T3 := three_new0 w2 (.cells #[.pointer (some ⟨c, 0, none⟩)] 76) (.cells #[.int .i64 0] 3) (.cells #[.int .i64 0] 3)); have T4 := H2.out _ T3.1 T3.2.1 T3.2.2.1 T3.2.2.2; ((with_reducible refine T4.mono ?_); (rintro e w6 ⟨rfl, H6⟩)); clear T3 T4 H2))
  go_ret2
  exact ⟨rfl, H6.out⟩
set_option maxRecDepth 100000 in
set_option maxHeartbeats 800000 in
theorem all_err (uo : Option Addr) (un uc : Nat) (U : List Str) (ro : Option Addr) (rn rc : Nat) (rs : List Gr) (lim : Int) (w : World) (h : InU w uo un uc U ro rn rc rs) (q : Nat) (hq : chkE U rs = q) (hq0 : q ≠ 0) :
    Calls Try.prog 30 #[.slice uo un uc, .slice ro rn rc, .int .i64 lim] w fun e w' => e = .returned (.tuple #[.slice none 0 0, .int .i64 q]) ∧ Below w.heap.size w w' := by
  obtain ⟨wb, hwb⟩ : ∃ wb, wb = (w.alloc (.cells #[.slice uo un uc] 22)).alloc (.cells #[.int .i64 lim] 3) := ⟨_, rfl⟩
  have Bb : Below w.heap.size w wb := by rw [hwb]; exact (bel_alloc w _).trans ((bel_alloc _ _).mono (by simp))
  have b1 : wb.heap[w.heap.size]? = some (.cells #[.slice uo un uc] 22 (0, 0)) := by
    rw [hwb, (bel_alloc _ _).block w.heap.size (by simp)]; exact heap_alloc_new w _
  have b2 : wb.heap[w.heap.size + 1]? = some (.cells #[.int .i64 lim] 3 (0, 0)) := by
    rw [hwb]; have := heap_alloc_new (w.alloc (.cells #[.slice uo un uc] 22)) (.cells #[.int .i64 lim] 3)
    simpa using this
  have c1 : wb.cell? ⟨w.heap.size, 0, none⟩ = some (.slice uo un uc) := blk_cell (cs := [.slice uo un uc]) b1 rfl
  have t1 : ((q : Int) != 0) = true := by simp; omega
  have HC : Hid (Calls Try.prog 44 #[.slice uo un uc, .slice ro rn rc] wb fun e w' => e = .returned (.tuple #[.slice none 0 0, .int .i64 q]) ∧ Below w.heap.size w w') := hid_of ((cmp_err (h.at Bb) hq hq0).mono fun e w' ⟨h1, h2⟩ => ⟨h1, Bb.trans (h2.mono Bb.size)⟩)
  clear h hq hq0 Bb b1 b2
  subst hwb
  go_enter Try.func30, Try.ntmps30
  go_wp2_with (go_at_call 44; ((with_reducible refine (HC.out).mono ?_); (rintro e w1 ⟨rfl, h5⟩)); have B1 := hid_of h5; clear h5)
  go_ret2
  exact ⟨rfl, B1.out⟩
set_option maxRecDepth 100000 in
set_option maxHeartbeats 800000 in
theorem all_arg (uo : Option Addr) (un uc : Nat) (U : List Str) (ro : Option Addr) (rn rc : Nat) (rs : List Gr) (lim : Int) (w : World) (h : InU w uo un uc U ro rn rc rs) (hq : chkE U rs = 0) (hl : lim < 1) :
    Calls Try.prog 30 #[.slice uo un uc, .slice ro rn rc, .int .i64 lim] w fun e w' => e = .returned (.tuple #[.slice none 0 0, .int .i64 1]) ∧ Below w.heap.size w w' := by
  obtain ⟨wb, hwb⟩ : ∃ wb, wb = (w.alloc (.cells #[.slice uo un uc] 22)).alloc (.cells #[.int .i64 lim] 3) := ⟨_, rfl⟩
  have Bb : Below w.heap.size w wb := by rw [hwb]; exact (bel_alloc w _).trans ((bel_alloc _ _).mono (by simp))
  have b1 : wb.heap[w.heap.size]? = some (.cells #[.slice uo un uc] 22 (0, 0)) := by
    rw [hwb, (bel_alloc _ _).block w.heap.size (by simp)]; exact heap_alloc_new w _
  have b2 : wb.heap[w.heap.size + 1]? = some (.cells #[.int .i64 lim] 3 (0, 0)) := by
    rw [hwb]; have := heap_alloc_new (w.alloc (.cells #[.slice uo un uc] 22)) (.cells #[.int .i64 lim] 3)
    simpa using this
  have c1 : wb.cell? ⟨w.heap.size, 0, none⟩ = some (.slice uo un uc) := blk_cell (cs := [.slice uo un uc]) b1 rfl
  have hd : decide (lim < 1) = true := by simp; omega
  have HC : Hid (Calls Try.prog 44 #[.slice uo un uc, .slice ro rn rc] wb fun e w1 => ∃ ao cap, e = .returned (.tuple #[.slice ao rn cap, .int .i64 0]) ∧ w1.cell? ⟨w.heap.size + 1, 0, none⟩ = some (.int .i64 lim) ∧ Below w.heap.size w w1) := hid_of ((cmp_good (h.at Bb) hq).mono fun e w1 ⟨R, ao, cap, h1, _, _, h4⟩ => ⟨ao, cap, h1, blk_cell (cs := [.int .i64 lim]) ((h4.block _ (lt_of_block b2)).trans b2) rfl, Bb.trans (h4.mono Bb.size)⟩)
  clear h hq hl Bb b1 b2
  subst hwb
  go_enter Try.func30, Try.ntmps30
  go_wp2_with (go_at_call 44; ((with_reducible refine (HC.out).mono ?_); (rintro e w1 ⟨ao, cap, rfl, k1, h5⟩)); have B1 := hid_of h5; clear h5)
  go_ret2
  exact ⟨rfl, B1.out⟩
end Go.Proofs.Ytclefigcendpgaa
