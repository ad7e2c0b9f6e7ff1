/- All. Bounds on sizes alone. -/
import Derived.Test.YtjponegeidiheaaClsAllM
namespace Go.Proofs.Ytjponegeidiheaa
open Go.RowKit

section
variable (uo : Option Addr) (un uc : Nat) (U : List Str) (rs : List Gr) (w : World)
/-- What All leaves. -/
def AllP (e : Ending) (w' : World) : Prop := ∃ ao cap, e = .returned (.tuple #[.slice ao (allF U rs).length cap, .int .i64 0]) ∧ SetsR w.heap.size w' (.slice ao (allF U rs).length cap) (allF U rs) ∧ Below w.heap.size w w'
/-- Behind the second walk. -/
def P8 (sb : Nat) (w8 : World) : Prop := ∃ ao cap, w8.cell? ⟨sb, 0, none⟩ = some (.slice ao (allF U rs).length cap) ∧ AllP U rs w (.returned (.tuple #[.slice ao (allF U rs).length cap, .int .i64 0])) w8
/-- Behind the first walk. -/
def P6 (c xb : Nat) (w6 : World) : Prop := (w6.cell? ⟨xb + 1, 0, none⟩ = some (.int .i64 (allF U rs).length) ∧ w6.cell? ⟨xb, 0, none⟩ = some (.pointer (some ⟨c, 0, none⟩)) ∧ Below w.heap.size w w6) ∧
  ∀ (w7 : World) (g sb : Nat), Below w6.heap.size w6 w7 → w7.ownsRow w6.heap.size 22 1 (.slice (some ⟨g, 0, none⟩) 0 (allF U rs).length) 0 [] → w7.heap[sb]? = some (.cells #[.slice (some ⟨g, 0, none⟩) 0 (allF U rs).length] 45 (0, 0)) → w6.heap.size ≤ sb →
    Calls Try.prog 53 #[.pointer (some ⟨c, 0, none⟩), .func (.func 55) #[] #[.pointer (some ⟨sb, 0, none⟩), .pointer (some ⟨w.heap.size, 0, none⟩), .pointer (some ⟨xb, 0, none⟩)]] w7 fun e w8 => e = .returned (.bool true) ∧ Hid (P8 U rs w sb w8)
/-- Behind newChase. -/
def N2 (c : Nat) (w2 : World) : Prop := ∀ w5, Below w2.heap.size w2 w5 → w5.heap[w2.heap.size]? = some (.cells #[.pointer (some ⟨c, 0, none⟩)] 76 (0, 0)) → w5.heap[w2.heap.size + 1]? = some (.cells #[.int .i64 0] 3 (0, 0)) → w5.heap[w2.heap.size + 1 + 1]? = some (.cells #[.int .i64 0] 3 (0, 0)) →
  Calls Try.prog 53 #[.pointer (some ⟨c, 0, none⟩), .func (.func 54) #[] #[.pointer (some ⟨w2.heap.size + 1, 0, none⟩), .pointer (some ⟨w2.heap.size + 1 + 1, 0, none⟩), .pointer (some ⟨w2.heap.size, 0, none⟩), .pointer (some ⟨w.heap.size + 1, 0, none⟩)]] w5 fun e w6 => e = .returned (.bool true) ∧ Hid (P6 U rs w c w2.heap.size w6)
end
set_option maxRecDepth 100000 in
theorem all_p6 {uo : Option Addr} {un uc : Nat} {U : List Str} {rs : List Gr} {w w1 w2 w5 w6 : World} {c : Nat} {V V' : CV} {S U' JS' : Nat → Prop} {lim : Int} (hul : un = U.length) (hu : un ≤ 1000) (hN : (allF U rs).length ≤ 100000) (RU : Rd w (.slice uo un uc) (ss U))
    (hB1 : Below w.heap.size w w1) (hz1 : w.heap.size + 1 + 1 ≤ w1.heap.size) (hub : w1.heap[w.heap.size]? = some (.cells #[.slice uo un uc] 22 (0, 0)))
    (h12 : Below w1.heap.size w1 w2) (h25 : Below w2.heap.size w2 w5) (hz5 : w2.heap.size + 1 + 1 < w5.heap.size) (hS : ∀ b, S b → w1.heap.size ≤ b) (hA : ∀ v ∈ V.ar, ∀ g, v.ownBlock = some g → w.heap.size + 1 + 1 ≤ g) (hai : ∀ (i : Nat) (v : Value), V.ar[i]? = some v → ∀ g, v.ownBlock = some g → g < w2.heap.size)
    (p1 : Chg (orS S (fun b => b = w2.heap.size + 1 ∨ b = w2.heap.size + 1 + 1 ∨ b = w2.heap.size ∨ b = w.heap.size + 1)) (orS U' JS') w5 w6) (p2 : J1 (w2.heap.size + 1) (w2.heap.size + 1 + 1) w2.heap.size (w.heap.size + 1) c un lim (allS (cmpF U rs) un) JS' w6) (p3 : V'.ar = V.ar)
    (p4 : ∃ T', CH w6 c un (cmpF U rs) (lackR (cmpF U rs) (fun _ => 0) (T'.take T'.length)) (memB T') T' T'.length V' U' ∧ ∀ b, JS' b → ¬ U' b) : P6 U rs w c w2.heap.size w6 := by
  obtain ⟨T', ch6, hdis⟩ := p4
  have hcnt : (allF U rs).length = (allS (cmpF U rs) un).length := by unfold allF; rw [List.length_map, ← hul]
  have z12 := h12.size
  have z25 := h25.size
  have z56 := p1.kept.size
  have hlow : ∀ b, b ≤ w.heap.size → ¬ orS S (fun b => b = w2.heap.size + 1 ∨ b = w2.heap.size + 1 + 1 ∨ b = w2.heap.size ∨ b = w.heap.size + 1) b := fun b hb hs => by
    rcases hs with hs | hs | hs | hs | hs
    · have := hS b hs; omega
    · omega
    · omega
    · omega
    · omega
  have h15 : Below w1.heap.size w1 w5 := h12.trans (h25.mono h12.size)
  have h6 : ∀ b, b ≤ w.heap.size → w6.heap[b]? = w1.heap[b]? := fun b hb => by
    rw [p1.kept.block b (by omega) (hlow b hb), h15.block b (by omega)]
  have hw6 : Below w.heap.size w w6 := ⟨p1.kept.os.trans (h15.os.trans hB1.os), p1.kept.tape.trans (h15.tape.trans hB1.tape), p1.kept.output.trans (h15.output.trans hB1.output), by omega, fun b hb => (h6 b (by omega)).trans (hB1.block b hb)⟩
  refine ⟨⟨?_, blk_cell (cs := [.pointer (some ⟨c, 0, none⟩)]) p2.x rfl, hw6⟩, fun w7 g sb h67 hrow hsb hsz => ?_⟩
  · rw [hcnt]; exact blk_cell (cs := [.int .i64 ((allS (cmpF U rs) un).length : Nat)]) p2.k rfl
  have hnU : ∀ b, b ≤ w.heap.size → ¬ U' b := fun b hb hU => by
    rcases p1.sub b (.inl hU) with h9 | h9
    · exact hlow b hb h9
    · omega
  have hg : w6.heap.size ≤ g ∧ g < w7.heap.size := hrow.lt g rfl
  have z67 := h67.size
  have j2 : J2 w sb w.heap.size w2.heap.size c uo un uc U [] (some ⟨g, 0, none⟩) (allF U rs).length [] (fun b => b < w.heap.size ∨ b = sb ∨ b = w.heap.size ∨ b = w2.heap.size ∨ (Value.slice (some ⟨g, 0, none⟩) ([] : List (List Nat)).length (allF U rs).length).ownBlock = some b ∨ ∃ v ∈ ([] : List Value), v.ownBlock = some b) w7 := by
    refine ⟨fun b => Iff.rfl, fun b hb => (h67.block b (by omega)).trans (hw6.block b hb), hsb, ((h67.block _ (by omega)).trans (h6 _ (Nat.le_refl _))).trans hub, (h67.block _ (by omega)).trans p2.x, own_weak hrow (by omega), rfl, fun i v L hv => by simp at hv, fun b hb => ?_, by omega, by omega⟩
    simp only [Value.ownBlock, Option.some.injEq] at hb
    omega
  refine (wal_any c un T'.length 55 (cmpF U rs) _ (J2E w sb w.heap.size w2.heap.size c uo un uc U) (fun _ => true) 100000 T' V' U' _ w7 (by omega) (fun _ _ => rfl) J2E.stable
    (fun vb cb bb d T V US JS wv hd _ hst => all2_any w sb w.heap.size w2.heap.size c un 100000 uo un uc U (cmpF U rs) (by omega) (by omega) hul.symm RU vb cb bb _ _ d T V US JS wv hd hst)
    (ch6.at h67) (Nat.le_refl _) ⟨_, _, _, j2⟩ (fun b hb => ?_) (fun i v hv g' hg' hJ => ?_) (by rw [← hcnt]; exact hN)).mono ?_
  · rcases hb with hb | rfl | rfl | rfl | hb | ⟨v, hv, _⟩
    · exact ⟨hnU b (by omega), by omega⟩
    · exact ⟨fun hU => by have := ch6.sz _ hU; omega, lt_of_block hsb⟩
    · exact ⟨hnU _ (Nat.le_refl _), by omega⟩
    · exact ⟨hdis _ ((p2.js _).2 (.inr (.inr (.inl rfl)))), by omega⟩
    · simp only [Value.ownBlock, Option.some.injEq] at hb
      subst hb
      exact ⟨fun hU => by have := ch6.sz _ hU; omega, hg.2⟩
    · cases hv
  · rw [p3] at hv
    have q1 := hA v (List.mem_of_getElem? hv) g' hg'
    have q2 := hai i v hv g' hg'
    rcases hJ with hb | hb | hb | hb | hb | ⟨v, hv, _⟩
    · omega
    · omega
    · omega
    · omega
    · simp only [Value.ownBlock, Option.some.injEq] at hb
      omega
    · cases hv
  · rintro e w8 ⟨rfl, V2, U2, JS2, r1, r2, r3, r4⟩
    rw [prc_all] at r2 ⊢
    refine ⟨rfl, ?_⟩
    simp only [List.nil_append] at r2
    obtain ⟨ao, cap, vals, j8⟩ := r2
    refine hid_of ⟨ao, cap, by rw [hcnt]; exact blk_cell (cs := [.slice ao (allS (cmpF U rs) un).length cap]) j8.s rfl, ao, cap, rfl, ⟨vals, by rw [hcnt]; exact j8.len, by rw [hcnt]; exact j8.row, fun i v l hv hl => ?_⟩, ?_⟩
    · unfold allF at hl
      rw [← hul, List.getElem?_map] at hl
      obtain ⟨L, hL, rfl⟩ := Option.map_eq_some_iff.1 hl
      have := j8.each i v L hv hL
      rw [nmF_length]; exact this
    · exact ⟨r1.kept.os.trans (h67.os.trans hw6.os), r1.kept.tape.trans (h67.tape.trans hw6.tape), r1.kept.output.trans (h67.output.trans hw6.output), by have := r1.kept.size; omega, fun b hb => j8.old b hb⟩
set_option maxRecDepth 100000 in
theorem all_n2 {uo : Option Addr} {un uc : Nat} {U : List Str} {rs : List Gr} {w w1 w2 : World} {c : Nat} {lim : Int} (hul : un = U.length) (hu : un ≤ 1000) (hN : (allF U rs).length ≤ 100000) (RU : Rd w (.slice uo un uc) (ss U)) (hl1 : 1 ≤ lim) (hl2 : lim ≤ 9223372036854775807) (hfit : ((allF U rs).length : Int) ≤ lim)
    (hB1 : Below w.heap.size w w1) (hz1 : w.heap.size + 1 + 1 ≤ w1.heap.size) (hub : w1.heap[w.heap.size]? = some (.cells #[.slice uo un uc] 22 (0, 0))) (hlb : w1.heap[w.heap.size + 1]? = some (.cells #[.int .i64 lim] 3 (0, 0)))
    (hni : NewI (w.heap.size + 1 + 1) w1 c un (cmpF U rs) w2) : N2 U rs w c w2 := by
  obtain ⟨V, S, hch, h12, hS, hA⟩ := hni
  intro w5 h25 e1 e2 e3
  have z12 := h12.size
  have z25 := h25.size
  have zz := lt_of_block e3
  have hcnt : (allF U rs).length = (allS (cmpF U rs) un).length := by unfold allF; rw [List.length_map, ← hul]
  have ch5 := hch.at h25
  have j1 : J1 (w2.heap.size + 1) (w2.heap.size + 1 + 1) w2.heap.size (w.heap.size + 1) c un lim [] (fun b => b = w2.heap.size + 1 ∨ b = w2.heap.size + 1 + 1 ∨ b = w2.heap.size ∨ b = w.heap.size + 1) w5 :=
    ⟨fun b => Iff.rfl, e2, e3, e1, ((h25.block _ (by omega)).trans (h12.block _ (by omega))).trans hlb, by omega, by simp [sumL]⟩
  have hai : ∀ (i : Nat) (v : Value), V.ar[i]? = some v → ∀ g, v.ownBlock = some g → g < w2.heap.size := fun i v hv g hg => ((hch.ai i v hv).2 g hg).1
  refine (wal_any c un 0 54 (cmpF U rs) _ (J1 (w2.heap.size + 1) (w2.heap.size + 1 + 1) w2.heap.size (w.heap.size + 1) c un lim) (okL lim) 100000 [] V S _ w5 (by omega) (fun _ _ => rfl) J1.stable
    (fun vb cb bb d T V US JS wv hd _ hst => all1_any _ _ _ _ c un 100000 lim (cmpF U rs) hu (Nat.le_refl _) vb cb bb _ _ d T V US JS wv hd hst (by omega) hl2)
    ch5 (Nat.zero_le _) j1 (fun b hb => ?_) (fun i v hv g hg hJ => ?_) (by rw [← hcnt]; exact hN)).mono ?_
  · rcases hb with rfl | rfl | rfl | rfl
    · exact ⟨fun hs => by have := hch.sz _ hs; omega, by omega⟩
    · exact ⟨fun hs => by have := hch.sz _ hs; omega, by omega⟩
    · exact ⟨fun hs => by have := hch.sz _ hs; omega, by omega⟩
    · exact ⟨fun hs => by have := hS _ hs; omega, by omega⟩
  · have q1 := hA v (List.mem_of_getElem? hv) g hg
    have q2 := hai i v hv g hg
    rcases hJ with h | h | h | h <;> omega
  · rintro e w6 ⟨rfl, V', U', JS', p1, p2, p3, p4⟩
    rw [prc_fit lim _ _ (by rw [← hcnt]; simpa using hfit)] at p2 p4 ⊢
    refine ⟨rfl, hid_of (all_p6 hul hu hN RU hB1 hz1 hub h12 h25 zz hS hA hai p1 (by simpa using p2) p3 (p4 rfl))⟩

set_option maxRecDepth 100000 in
set_option maxHeartbeats 1600000 in
theorem all_good (uo : Option Addr) (un uc : Nat) (U : List Str) (ro : Option Addr) (rn rc : Nat) (rs : List Gr) (lim : Int) (w : World) (h : InU w uo un uc U ro rn rc rs) (hq : chkE U rs = 0) (hl1 : 1 ≤ lim) (hl2 : lim ≤ 9223372036854775807) (hu : un ≤ 1000) (hN : (allF U rs).length ≤ 100000) (hfit : ((allF U rs).length : Int) ≤ lim) :
    Calls Try.prog 30 #[.slice uo un uc, .slice ro rn rc, .int .i64 lim] w (AllP U rs w) := by
  have hul := h.ul
  obtain ⟨wb, hwb⟩ : ∃ wb, wb = (w.alloc (.cells #[.slice uo un uc] 22)).alloc (.cells #[.int .i64 lim] 3) := ⟨_, rfl⟩
  have Bb : Below w.heap.size w wb := by rw [hwb]; exact (bel_alloc w _).trans ((bel_alloc _ _).mono (by simp))
  have zb : wb.heap.size = w.heap.size + 1 + 1 := by rw [hwb]; simp
  have b1 : wb.heap[w.heap.size]? = some (.cells #[.slice uo un uc] 22 (0, 0)) := by
    rw [hwb, (bel_alloc _ _).block w.heap.size (by simp)]; exact heap_alloc_new w _
  have b2 : wb.heap[w.heap.size + 1]? = some (.cells #[.int .i64 lim] 3 (0, 0)) := by
    rw [hwb]; have := heap_alloc_new (w.alloc (.cells #[.slice uo un uc] 22)) (.cells #[.int .i64 lim] 3)
    simpa using this
  have hb := h.at Bb
  have hrn := h.rn
  have HC : Hid (Calls Try.prog 44 #[.slice uo un uc, .slice ro rn rc] wb fun e w1 => ∃ ao cap, e = .returned (.tuple #[.slice ao rn cap, .int .i64 0]) ∧ (w1.cell? ⟨w.heap.size, 0, none⟩ = some (.slice uo un uc) ∧ w1.cell? ⟨w.heap.size + 1, 0, none⟩ = some (.int .i64 lim)) ∧
      Hid (Calls Try.prog 46 #[.int .i64 un, .slice ao rn cap] w1 fun e w2 => ∃ c, e = .returned (.pointer (some ⟨c, 0, none⟩)) ∧ Hid (N2 U rs w c w2))) := hid_of ((cmp_good hb hq).mono fun e w1 ⟨R, ao, cap, h1, h2, h3, h4⟩ => by
    have e1 : w1.heap[w.heap.size]? = some (.cells #[.slice uo un uc] 22 (0, 0)) := (h4.block _ (by omega)).trans b1
    have e2 : w1.heap[w.heap.size + 1]? = some (.cells #[.int .i64 lim] 3 (0, 0)) := (h4.block _ (by omega)).trans b2
    refine ⟨ao, cap, h1, ⟨blk_cell (cs := [.slice uo un uc]) e1 rfl, blk_cell (cs := [.int .i64 lim]) e2 rfl⟩, hid_of ?_⟩
    have eR : R = cmpF U rs := cmp_inj (chk_ok hq).1 h2 (cmp_mk hq)
    refine (new_any wb.heap.size un R ao rn cap w1 h3 (by rw [hul]; exact cmp_ok (chk_ok hq).1 h2 fun r hr => ((chk_ok hq).2 r hr).1) h.un hrn).mono ?_
    rintro e w2 ⟨c, rfl, _, hni⟩
    rw [eR, zb] at hni
    exact ⟨c, rfl, hid_of (all_n2 hul hu hN h.ru hl1 hl2 hfit (Bb.trans (h4.mono Bb.size)) (by have := h4.size; omega) e1 e2 hni)⟩)
  have HL : Hid (Below w.heap.size w wb) := hid_of Bb
  have c1 : wb.cell? ⟨w.heap.size, 0, none⟩ = some (.slice uo un uc) := blk_cell (cs := [.slice uo un uc]) b1 rfl
  have hd : decide (lim < 1) = false := by simp; omega
  have HN := hid_of hN
  obtain ⟨i0, hi, hz0, hz1, hz2⟩ := info_parts setsE.info
  obtain ⟨m, hm⟩ : ∃ m, m = (allF U rs).length := ⟨_, rfl⟩
  have hm2 : m ≤ 100000 := by omega
  have HM := hid_of hm
  have hum : un ≤ 9223372036854775807 := by omega
  clear h hq hl1 hl2 hN hfit hul Bb zb b1 b2 hb hrn hm hu
  subst hwb
  go_enter Try.func30, Try.ntmps30
  go_wp2_with (first
    | (go_at_call 44; ((with_reducible refine (HC.out).mono ?_); (rintro e w1 ⟨ao, cap, rfl, ⟨k1, k2⟩, H1⟩)))
    | (go_at_call 46; ((with_reducible refine (H1.out).mono ?_); (rintro e w2 ⟨c, rfl, H2⟩)))
    | (go_at_call 53; (have T3 := three_new0 w2 (.cells #[.pointer (some ⟨c, 0, none⟩)] 76) (.cells #[.int .i64 0] 3) (.cells #[.int .i64 0] 3)); have T4 := H2.out _ T3.1 T3.2.1 T3.2.2.1 T3.2.2.2; ((with_reducible refine T4.mono ?_); (rintro e w6 ⟨rfl, H6⟩)); have k5 := H6.out.1.1; have k6 := H6.out.1.2.1; rw [← HM.out] at k5; clear T3 T4 H2)
    | (at_make; (refine wpList_make_own _ rfl _ _ 45 rfl w6.heap.size 22 i0 (.slice none 0 0) 1 Try.underlying45 hi hz0 hz1 .i64 .i64 _ m rfl rfl rfl (by rw [hz2]; omega) (by unfold maxLen; omega) (Nat.le_refl _) ?_); intro w7 hown hgrow; have HO := hid_of hown; have HG := hid_of (ow_made hown hgrow).bel; have k7 := (((HG.out).trans ((bel_alloc w7 (.cells #[.slice (some ⟨w6.heap.size, 0, none⟩) 0 m] 45)).mono (HG.out).size)).cell (p := ⟨w2.heap.size, 0, none⟩) (World.block_lt_of_cell? w6 _ k6)).trans k6; clear hown hgrow)
    | (go_at_call 53; have T7 := H6.out.2 (w7.alloc (.cells #[.slice (some ⟨w6.heap.size, 0, none⟩) 0 m] 45)) w6.heap.size w7.heap.size ((HG.out).trans ((bel_alloc w7 _).mono (HG.out).size)) (by rw [← HM.out]; exact (HO.out).alloc _) (by rw [← HM.out]; exact heap_alloc_new w7 _) (HG.out).size; ((with_reducible refine T7.mono ?_); (rintro e w8 ⟨rfl, H8⟩)); clear T7; obtain ⟨ao8, cap8, k8, h8⟩ := H8.out; have H9 := hid_of h8; clear h8 H8))
  go_ret2
  exact H9.out
end Go.Proofs.Ytjponegeidiheaa
