/- ShaForgets: the walk. -/
import Derived.Test.YtembofcdoognkaaDoorShaClonesW
namespace Go.Proofs.YtembofcdoognkaaDoor
open Go.RowKit

/-- A row of bytes in block g, of which n came from a slice; nothing else has turned. -/
def Inc (w0 wr : World) (g n : Nat) : Prop :=
  Kept (fun k => k = g) w0 wr ∧ ∃ cs : Array Value, wr.heap[g]? = some (.cells cs 5 (0, 0)) ∧ ∀ j, j < n → ∃ y : Int, 0 ≤ y ∧ y ≤ 255 ∧ cs[j]? = some (.int .u8 y)
theorem Inc.start {w : World} {g n : Nat} {cs : Array Value} (h : w.heap[g]? = some (.cells cs 5 (0, 0))) (hc : ∀ j, j < n → ∃ y : Int, 0 ≤ y ∧ y ≤ 255 ∧ cs[j]? = some (.int .u8 y)) : Inc w w g n :=
  ⟨Kept.refl _ _, cs, h, hc⟩
theorem Inc.at {w0 wr : World} {g n j : Nat} (h : Inc w0 wr g n) (hj : j < n) : ∃ y : Int, 0 ≤ y ∧ y ≤ 255 ∧ wr.cell? ⟨g, j, none⟩ = some (.int .u8 y) ∧ wr.frozen? ⟨g, j, none⟩ = false := by
  obtain ⟨_, cs, h1, h2⟩ := h
  obtain ⟨y, y0, y1, hy⟩ := h2 j hj
  exact ⟨y, y0, y1, by rw [cell_of_row _ _ _ _ _ _ h1]; exact hy, frozen_of_row _ _ _ _ _ h1⟩
theorem Inc.set {w0 wr : World} {g n j : Nat} {z : Int} (h : Inc w0 wr g n) (z0 : 0 ≤ z) (z1 : z ≤ 255) : Inc w0 (wr.setCell ⟨g, j, none⟩ (.int .u8 z)) g n := by
  obtain ⟨hk, cs, h1, h2⟩ := h
  refine ⟨hk.setCell rfl _, cs.setIfInBounds j (.int .u8 z), heap_setCell_same _ _ _ _ _ _ h1, fun i hi => ?_⟩
  obtain ⟨y, y0, y1, hy⟩ := h2 i hi
  by_cases e : j = i
  · subst e
    have hl : j < cs.size := (Array.getElem?_eq_some_iff.1 hy).1
    exact ⟨z, z0, z1, by simp [hl]⟩
  · exact ⟨y, y0, y1, by rw [Array.getElem?_setIfInBounds_ne e]; exact hy⟩
theorem Inc.bel {w0 wr : World} {g n B : Nat} (h : Inc w0 wr g n) (hB : B ≤ w0.heap.size) (hg : B ≤ g) : Below B w0 wr := h.1.below hB (fun k hk => by omega)
theorem row_bytes {l : List Int} (hr : ∀ y ∈ l, 0 ≤ y ∧ y ≤ 255) : ∀ j, j < l.length → ∃ y : Int, 0 ≤ y ∧ y ≤ 255 ∧ (bs l).toArray[j]? = some (.int .u8 y) := fun j hj =>
  ⟨l[j], (hr _ (List.getElem_mem hj)).1, (hr _ (List.getElem_mem hj)).2, by simp [bs, hj]⟩
theorem own_bytes {l : List Int} {cur : Array Value} (hr : ∀ y ∈ l, 0 ≤ y ∧ y ≤ 255) (h : cur.toList.take (l.length * 1) = bs l) : ∀ j, j < l.length → ∃ y : Int, 0 ≤ y ∧ y ≤ 255 ∧ cur[j]? = some (.int .u8 y) := fun j hj => by
  refine ⟨l[j], (hr _ (List.getElem_mem hj)).1, (hr _ (List.getElem_mem hj)).2, ?_⟩
  have h1 : (cur.toList.take (l.length * 1))[j]? = (bs l)[j]? := by rw [h]
  rw [List.getElem?_take, if_pos (by omega)] at h1
  simpa [bs, hj] using h1
theorem os_inc {B cap : Nat} {w0 w w' : World} {ao : Option Addr} {l : List Int} (h : OS B w0 w (.slice ao l.length cap) l) (hl : 0 < l.length) (hr : ∀ y ∈ l, 0 ≤ y ∧ y ≤ 255) (hb : Below w.heap.size w w') :
    ∃ g, ao = some ⟨g, 0, none⟩ ∧ B ≤ g ∧ g < w.heap.size ∧ Inc w' w' g l.length := by
  rcases h.own.2 with ⟨_, e⟩ | ⟨g, c, cur, e, hB, hg, _, _, _, ht⟩
  · omega
  · simp only [Value.slice.injEq] at e
    have hlt := lt_of_block hg
    exact ⟨g, e.1, hB, hlt, Inc.start ((hb.block g hlt).trans hg) (own_bytes hr ht)⟩

theorem xor8 (y : Int) : 0 ≤ bits .xor .u8 y 255 ∧ bits .xor .u8 y 255 ≤ 255 := by
  unfold bits
  rw [IntKind.wrap_u8]
  omega

set_option maxRecDepth 100000 in
set_option maxHeartbeats 3200000 in
theorem shaForgets_law (a b : List Int) (aa ab : Option Addr) (na nb ca cb : Nat) (w : World) (hG : Glob w) (la : a.length = na) (lb : b.length = nb) (ra : ∀ y ∈ a, 0 ≤ y ∧ y ≤ 255) (rb : ∀ y ∈ b, 0 ≤ y ∧ y ≤ 255)
    (ha : Lies w (.slice aa na ca) a) (hb : Lies w (.slice ab nb cb) b) :
    Calls Tryd.prog 7 #[.slice aa na ca, .slice ab nb cb] w fun e w' => e = .returned (.bool true) ∧ Below w.heap.size w w' := by
  have HG := hid_of hG
  have H2 : Hid (2 ≤ w.heap.size) := hid_of hG.two
  have HA := hid_of ha
  have HB := hid_of hb
  have RA := hid_of ra
  have RB := hid_of rb
  have LA := hid_of la
  have LB := hid_of lb
  obtain ⟨x, hx⟩ : ∃ x, x = a ++ b := ⟨_, rfl⟩
  have RX : Hid (∀ u ∈ x, 0 ≤ u ∧ u ≤ 255) := hid_of (by rw [hx]; intro u hu; rcases List.mem_append.1 hu with h | h; exact ra u h; exact rb u h)
  have LX : x.length = na + nb := by rw [hx, List.length_append, la, lb]
  have HX := hid_of hx
  clear hG ha hb ra rb hx la lb
  by_cases hs : na ≤ 1000 ∧ nb ≤ 1000
  case neg =>
    go_enter Tryd.func7, Tryd.ntmps7
    go_wp2_with (first
      | (go_at_call 10; refine (awake_any w HG.out).mono ?_; rintro e w1 ⟨rfl, hb1⟩; have HB1 := hid_of hb1; clear hb1))
    all_goals first
      | (exfalso; omega)
      | (go_ret; exact ⟨rfl, HB1.out⟩)
  obtain ⟨s1, s2⟩ := hs
  go_enter Tryd.func7, Tryd.ntmps7
  go_wp2_with (first
    | (go_at_call 10; refine (awake_any w HG.out).mono ?_; rintro e w1 ⟨rfl, hb1⟩; have HB1 := hid_of hb1; clear hb1)
    | (at_builtin; ((with_reducible refine wpList_app rfl _ _ rfl (v := .slice (some ⟨w1.heap.size, 0, none⟩) 0 0) rfl (os_empty w1) (vx := .slice aa na ca) rfl ((HA.out.at HB1.out).at (bel_alloc _ _)) (by simp; rw [LA.out]; omega) ?_); intro xo2 n2 c2 w2 hn2 h2; obtain rfl : na = n2 := (by rw [hn2]; simp [LA.out]); have X2 : Hid (OS w1.heap.size w1 w2 (.slice xo2 na c2) a) := hid_of h2; have HB2 := hid_of (HB1.out.trans (h2.bel.mono HB1.out.size)); clear h2 hn2))
    | (go_at_call 14; refine (new_any w2 (HG.out.at HB2.out)).mono ?_; rintro e w3 ⟨rfl, h3, hb3⟩; have S3 := hid_of h3; have HB3 := hid_of (HB2.out.trans (hb3.mono HB2.out.size)); have HBB3 := hid_of hb3; clear h3 hb3)
    | (go_at_call 15; ((with_reducible refine (write_any w2.heap.size [] a (.slice xo2 na c2) w3 S3.out ((X2.out.lies (by rw [LA.out]; omega)).rest HBB3.out (Nat.le_refl _)) RA.out (HG.out.at HB3.out) (Nat.le_trans H2.out HB2.out.size) (by rw [LA.out]; simp; omega)).mono ?_); rintro e w4 ⟨rfl, h4, hk4⟩; have S4 : Hid (Sst w4 w2.heap.size a) := hid_of h4; have HB4 := hid_of (HB3.out.trans (hk4.below HB3.out.size (fun k hk => by have := HB2.out.size; omega))); have HBB4 := hid_of (HBB3.out.trans (hk4.below HBB3.out.size (fun k hk => by omega))); clear h4 hk4)))
  have XG : Hid (0 < na → ∃ g, xo2 = some ⟨g, 0, none⟩ ∧ w1.heap.size ≤ g ∧ g < w2.heap.size ∧ Inc w4 w4 g na) := hid_of (fun h0 => by
    have h := X2.out
    rw [← LA.out] at h h0 ⊢
    exact os_inc h h0 RA.out HBB4.out)
  go_loopw [7] (fun iv wr => ∃ k : Nat, k ≤ na ∧ iv = .int .i64 k ∧ Hid (Kept (fun g => w1.heap.size ≤ g ∧ g < w2.heap.size) w4 wr) ∧ Hid (∀ g, xo2 = some ⟨g, 0, none⟩ → 0 < na → Inc w4 wr g na)) (fun i _ => na - (intOf i).toNat)
  case atStart => exact ⟨0, Nat.zero_le _, rfl, hid_of (Kept.refl _ _), hid_of (fun g hg h0 => by
    obtain ⟨g', e', _, _, hi⟩ := XG.out h0
    rw [hg] at e'; cases e'; exact hi)⟩
  case round =>
    obtain ⟨k, hk, rfl, hkept, hinc⟩ := hrel
    by_cases hlt : k < na
    · obtain ⟨g, hg, hg1, hg2, _⟩ := XG.out (by omega)
      have HI := hid_of (hinc.out g hg (by omega))
      have HK2 := hid_of (show Kept (fun g => w1.heap.size ≤ g ∧ g < w2.heap.size) w4 wr from hkept.out)
      have HG1 : Hid (w1.heap.size ≤ g ∧ g < w2.heap.size) := hid_of ⟨hg1, hg2⟩
      have HXO := hid_of hg
      clear hg1 hg2
      obtain ⟨y, y0, y1, hcell, hfree⟩ := HI.out.at hlt
      obtain ⟨z, hz⟩ : ∃ z, z = bits .xor .u8 y 255 := ⟨_, rfl⟩
      have HZ : Hid (0 ≤ z ∧ z ≤ 255) := hid_of (by rw [hz]; exact xor8 y)
      have hz2 : bits .xor .u8 y 255 = z := hz.symm
      clear hz
      subst hg
      go_wp2
      go_roundw
      case rel => exact ⟨k + 1, by omega, by go_num, hid_of (HK2.out.setCell HG1.out _), hid_of (fun g' e' _ => by cases e'; exact HI.out.set HZ.out.1 HZ.out.2)⟩
      case measure => simp [intOf]; omega
    · obtain rfl : k = na := by omega
      obtain ⟨w5, rfl⟩ : ∃ w5 : World, w5 = wr := ⟨_, rfl⟩
      have HB5 := hid_of (HB4.out.trans (hkept.out.below HB4.out.size (fun k hk => by have := HB1.out.size; omega)))
      have S5 : Hid (Sst w5 w2.heap.size a) := hid_of (S4.out.later (hkept.out.block _ S4.out.lt (fun h => by omega)))
      clear hkept hinc
      go_wp2_with (first
        | (go_at_call 15; ((with_reducible refine (write_any w2.heap.size a b (.slice ab nb cb) w5 S5.out (HB.out.rest HB5.out HB2.out.size) RB.out (HG.out.at HB5.out) (Nat.le_trans H2.out HB2.out.size) (by rw [LA.out, LB.out]; omega)).mono ?_); rintro e w6 ⟨rfl, h6, hk6⟩; have S6 : Hid (Sst w6 w2.heap.size x) := hid_of (by rw [HX.out]; exact h6); have HB6 := hid_of (HB5.out.trans (hk6.below HB5.out.size (fun k hk => by have := HB2.out.size; omega))); clear h6 hk6))
        | (go_at_call 17; ((with_reducible refine (sum_any w2.heap.size x w6 S6.out (HG.out.at HB6.out) (by omega)).mono ?_); rintro e w7 ⟨rfl, hb7⟩; have HB7 := hid_of (HB6.out.trans (hb7.mono HB6.out.size)); clear hb7))
        | (at_builtin; (first
            | ((with_reducible refine wpList_app rfl _ _ rfl (v := .slice (some ⟨w7.heap.size, 0, none⟩) 0 0) rfl (os_empty w7) (vx := .slice aa k ca) rfl ((HA.out.at HB7.out).at (bel_alloc _ _)) (by simp; rw [LA.out]; omega) ?_); intro xo8 n8 c8 w8 hn8 h8; have X8 := hid_of h8; have HN8 := hid_of hn8; clear h8 hn8)
            | ((with_reducible refine wpList_app rfl _ _ rfl (v := .slice xo8 n8 c8) rfl X8.out (vx := .slice ab nb cb) rfl ((HB.out.at HB7.out).at X8.out.bel) (by simp; rw [LA.out, LB.out]; omega) ?_); intro xo9 n9 c9 w9 hn9 h9; obtain rfl : n9 = k + nb := (by rw [hn9]; simp [LA.out, LB.out]); have X9 := hid_of (show Lies w9 (.slice xo9 (k + nb) c9) x by rw [HX.out]; exact h9.lies (by simp; rw [LA.out, LB.out]; omega)); have HB9 := hid_of (HB7.out.trans (h9.bel.mono HB7.out.size)); clear h9 hn9)))
        | (go_at_call 11; ((with_reducible refine (sumf_any (.slice xo9 (k + nb) c9) x w9 X9.out RX.out (HG.out.at HB9.out) (by omega)).mono ?_); rintro e w10 ⟨rfl, hb10⟩; have HB10 := hid_of (HB9.out.trans (hb10.mono HB9.out.size)); clear hb10)))
      go_ret
      exact ⟨rfl, HB10.out⟩
end Go.Proofs.YtembofcdoognkaaDoor
