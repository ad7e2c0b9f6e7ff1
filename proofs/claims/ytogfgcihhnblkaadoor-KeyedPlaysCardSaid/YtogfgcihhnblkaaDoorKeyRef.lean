/- The reference's pad and Tag of package keyed. Bounds on the sizes. -/
import Derived.Test.YtogfgcihhnblkaaDoorKeyTag
import Derived.Test.YtogfgcihhnblkaaDoorShaRefAll
namespace Go.Proofs.YtogfgcihhnblkaaDoor
open Go.RowKit

theorem xr_take (x : Int) (l : List Int) (i : Nat) (y : Int) (h : l[i]? = some y) : (xr x l).take (i + 1) = (xr x l).take i ++ [bits .xor .u8 y x] := by
  have hi : i < (xr x l).length := by rw [xr_length]; exact (List.getElem?_eq_some_iff.1 h).1
  rw [List.take_succ_eq_append_getElem hi]
  congr 2
  have h2 : (xr x l)[i]? = some (bits .xor .u8 y x) := by simp [xr, h]
  rw [List.getElem?_eq_getElem hi] at h2
  exact Option.some.inj h2
theorem kb_lo (k : List Int) (i : Nat) (h : i < (keyOf k).length) : (keyBlock k)[i]? = (keyOf k)[i]? := by
  unfold keyBlock
  rw [List.getElem?_append_left h]
theorem kb_hi (k : List Int) (i : Nat) (h : ¬ i < (keyOf k).length) (h2 : i < 64) : (keyBlock k)[i]? = some 0 := by
  unfold keyBlock
  rw [List.getElem?_append_right (by omega), List.getElem?_replicate, if_pos (by omega)]

theorem Lies.cellAt {w : World} {ao : Option Addr} {n c : Nat} {l : List Int} (h : Lies w (.slice ao n c) l) (j : Nat) (y : Int) (hj : l[j]? = some y) : ∃ g o, ao = some ⟨g, o, none⟩ ∧ w.cell? ⟨g, o + j, none⟩ = some (.int .u8 y) := by
  obtain ⟨ao', cap, q1, q2, q3, q4⟩ := h
  have h0 : 0 < l.length := by have := (List.getElem?_eq_some_iff.1 hj).1; omega
  obtain ⟨g, o, r1, r2, r3⟩ := q4 h0
  simp only [Value.slice.injEq] at q1
  exact ⟨g, o, q1.1.trans r1, r3 j (.int .u8 y) (by simp [bs, hj])⟩
theorem ownsRow_le' {w : World} {base base' size n : Nat} {e : TypeId} {v : Value} {xs : List Value} (h : w.ownsRow base e size v n xs) (hb : base' ≤ base) : w.ownsRow base' e size v n xs :=
  ⟨h.1, h.2.elim Or.inl (fun ⟨g, cap, cur, hv, hg, r⟩ => Or.inr ⟨g, cap, cur, hv, Nat.le_trans hb hg, r⟩)⟩

set_option maxRecDepth 100000 in
set_option maxHeartbeats 1600000 in
theorem rpad_any (k : List Int) (ao : Option Addr) (n cap : Nat) (x : Int) (w : World) (hkn : k.length = n) (hL : Lies w (.slice ao n cap) k) (hr : ∀ y ∈ k, 0 ≤ y ∧ y ≤ 255) (hx : 0 ≤ x ∧ x ≤ 255) (hn : n ≤ 2200) :
    Calls Tryd.prog 29 #[.slice ao n cap, .int .u8 x] w fun e w' => ∃ yo yc, e = .returned (.slice yo 64 yc) ∧ OS w.heap.size w w' (.slice yo 64 yc) (xr x (keyBlock k)) := by
  have HL := hid_of hL
  have HKN := hid_of hkn
  have HR := hid_of hr
  have HX := hid_of hx
  have HXL : Hid ((xr x (keyBlock k)).length = 64) := hid_of (by rw [xr_length]; exact keyBlock_length k)
  clear hL hkn hr
  by_cases hlong : 64 < n
  · have hd : decide (64 < n) = true := by simp; exact hlong
    have HK : Hid (keyOf k = digest k) := hid_of (by unfold keyOf; rw [if_pos (by rw [HKN.out]; exact hlong)])
    obtain ⟨D, hD⟩ : ∃ D, D = digest k := ⟨_, rfl⟩
    have HD := hid_of hD
    have HDR : Hid (∀ y ∈ D, 0 ≤ y ∧ y ≤ 255) := hid_of (by rw [hD]; exact digest_rng _)
    have HDL : Hid (D.length = 32) := hid_of (by rw [hD]; rfl)
    have HREF : Hid (Calls Tryd.prog 28 #[.slice ao n cap] w fun e w' => e = .returned (.string (strOfNums D)) ∧ Below w.heap.size w w') := hid_of (by rw [hD]; exact refSum_any k ao n cap w HKN.out HL.out HR.out (by omega))
    clear hD
    go_enter Tryd.func29, Tryd.ntmps29
    go_wp2_with (first
      | (go_at_call 28; refine HREF.out.mono ?_; rintro e w1 ⟨rfl, hb1⟩; have HB1 := hid_of hb1; clear hb1)
      | (refine wpList_bytes _ rfl 9 (.tmp 14) rfl Tryd.underlying9 Tryd.underlying22 Tryd.underlying5 D HDR.out (by rw [HDL.out]; unfold maxLen; omega) rfl ?_; intro cap2 w2 hL2 hb2; rw [HDL.out] at hL2 ⊢; have HU := hid_of hL2; have HB2 := hid_of (HB1.out.trans (hb2.mono HB1.out.size)); clear hL2 hb2))
    have HKK : Hid ((keyOf k).length = 32) := hid_of (by rw [HK.out]; rfl)
    have HU : Hid (Lies w2 (.slice (some ⟨w1.heap.size, 0, none⟩) 32 cap2) (keyOf k)) := hid_of (by rw [HK.out, ← HD.out]; exact HU.out)
    have HO0 : Hid (OS w2.heap.size w2 (w2.alloc (.cells #[] 5)) (.slice (some ⟨w2.heap.size, 0, none⟩) 0 0) ((xr x (keyBlock k)).take 0)) := hid_of (os_empty w2)
    go_loopw [6, 7] (fun ov iv wr => ∃ (i : Nat) (yo : Option Addr) (yc : Nat), i ≤ 64 ∧ iv = .int .i64 i ∧ ov = .slice yo i yc ∧ Hid (OS w2.heap.size w2 wr (.slice yo i yc) ((xr x (keyBlock k)).take i))) (fun _ iv _ => 64 - (intOf iv).toNat)
    case atStart => exact ⟨0, _, _, by omega, rfl, rfl, HO0⟩
    case round =>
      obtain ⟨i, yo, yc, hi, rfl, rfl, how⟩ := hrel
      by_cases hil : i < 64
      · have hdi : decide (i < 64) = true := by simp; exact hil
        have HTL : Hid (((xr x (keyBlock k)).take i).length = i) := hid_of (by rw [List.length_take, HXL.out]; omega)
        by_cases hik : i < 32
        · have hdk : decide (i < 32) = true := by simp; exact hik
          obtain ⟨y, hy⟩ : ∃ y, (keyOf k)[i]? = some y := ⟨_, List.getElem?_eq_getElem (by rw [HKK.out]; exact hik)⟩
          have HY : Hid ((xr x (keyBlock k)).take (i + 1) = (xr x (keyBlock k)).take i ++ [bits .xor .u8 y x]) := hid_of (xr_take x _ i y (by rw [kb_lo k i (by rw [HKK.out]; exact hik)]; exact hy))
          have hu2 : w2.cell? ⟨w1.heap.size, i, none⟩ = some (.int .u8 y) := by
            obtain ⟨ua, uo, hu1, hu2⟩ := HU.out.cellAt i y hy
            simp only [Option.some.injEq, Addr.mk.injEq, and_true] at hu1
            obtain ⟨rfl, rfl⟩ := hu1
            simpa using hu2
          have cy : wr.cell? ⟨w1.heap.size, i, none⟩ = some (.int .u8 y) := (how.out.bel.cell (p := ⟨w1.heap.size, i, none⟩) (World.block_lt_of_cell? w2 _ hu2)).trans hu2
          have LZ := hid_of (lies_new (w := wr) (l := [bits .xor .u8 y x]) (n := 1) (cs := #[.int .u8 (bits .xor .u8 y x)]) (m := (0, 0)) rfl rfl (by simp))
          clear hy hu2
          go_wp2_with (at_builtin; ((refine wpList_app rfl _ _ rfl (v := .slice yo i yc) rfl (how.out.alloc _) (vx := .slice (some ⟨wr.heap.size, 0, none⟩) 1 1) rfl LZ.out (by rw [HTL.out]; simp; omega) ?_); intro xo3 n3 c3 w3 hn3 h3; obtain rfl : n3 = i + 1 := (by rw [hn3, HTL.out]; rfl); have X3 : Hid (OS w2.heap.size w2 w3 (.slice xo3 (i + 1) c3) ((xr x (keyBlock k)).take (i + 1))) := hid_of (by rw [HY.out]; exact h3); clear h3 hn3))
          go_roundw
          case rel => exact ⟨i + 1, xo3, c3, by omega, by go_num, rfl, X3⟩
          case measure => simp [intOf]; omega
        · have hdk : decide (i < 32) = false := by simp; omega
          have HY : Hid ((xr x (keyBlock k)).take (i + 1) = (xr x (keyBlock k)).take i ++ [bits .xor .u8 0 x]) := hid_of (xr_take x _ i 0 (kb_hi k i (by rw [HKK.out]; exact hik) hil))
          have LZ := hid_of (lies_new (w := wr) (l := [bits .xor .u8 0 x]) (n := 1) (cs := #[.int .u8 (bits .xor .u8 0 x)]) (m := (0, 0)) rfl rfl (by simp))
          go_wp2_with (at_builtin; ((refine wpList_app rfl _ _ rfl (v := .slice yo i yc) rfl (how.out.alloc _) (vx := .slice (some ⟨wr.heap.size, 0, none⟩) 1 1) rfl LZ.out (by rw [HTL.out]; simp; omega) ?_); intro xo3 n3 c3 w3 hn3 h3; obtain rfl : n3 = i + 1 := (by rw [hn3, HTL.out]; rfl); have X3 : Hid (OS w2.heap.size w2 w3 (.slice xo3 (i + 1) c3) ((xr x (keyBlock k)).take (i + 1))) := hid_of (by rw [HY.out]; exact h3); clear h3 hn3))
          go_roundw
          case rel => exact ⟨i + 1, xo3, c3, by omega, by go_num, rfl, X3⟩
          case measure => simp [intOf]; omega
      · obtain rfl : i = 64 := by omega
        have HF : Hid (OS w2.heap.size w2 wr (.slice yo 64 yc) (xr x (keyBlock k))) := hid_of (by rw [← List.take_of_length_le (l := xr x (keyBlock k)) (i := 64) (by rw [HXL.out]; omega)]; exact how.out)
        have hd64 : decide ((64 : Nat) < 64) = false := by decide
        clear how
        go_wp2
        go_ret
        exact ⟨_, _, rfl, Nat.le_refl _, HB2.out.trans (HF.out.bel.mono HB2.out.size), ownsRow_le' HF.out.own HB2.out.size⟩

  · have hd : decide (64 < n) = false := by simp; omega
    have HK : Hid (keyOf k = k) := hid_of (by unfold keyOf; rw [if_neg (by rw [HKN.out]; exact hlong)])
    have HKK : Hid ((keyOf k).length = n) := hid_of (by rw [HK.out]; exact HKN.out)
    have HU : Hid (Lies w (.slice ao n cap) (keyOf k)) := hid_of (by rw [HK.out]; exact HL.out)
    go_enter Tryd.func29, Tryd.ntmps29
    go_wp2
    have HO0 : Hid (OS w.heap.size w (w.alloc (.cells #[] 5)) (.slice (some ⟨w.heap.size, 0, none⟩) 0 0) ((xr x (keyBlock k)).take 0)) := hid_of (os_empty w)
    go_loopw [6, 7] (fun ov iv wr => ∃ (i : Nat) (yo : Option Addr) (yc : Nat), i ≤ 64 ∧ iv = .int .i64 i ∧ ov = .slice yo i yc ∧ Hid (OS w.heap.size w wr (.slice yo i yc) ((xr x (keyBlock k)).take i))) (fun _ iv _ => 64 - (intOf iv).toNat)
    case atStart => exact ⟨0, _, _, by omega, rfl, rfl, HO0⟩
    case round =>
      obtain ⟨i, yo, yc, hi, rfl, rfl, how⟩ := hrel
      by_cases hil : i < 64
      · have hdi : decide (i < 64) = true := by simp; exact hil
        have HTL : Hid (((xr x (keyBlock k)).take i).length = i) := hid_of (by rw [List.length_take, HXL.out]; omega)
        by_cases hik : i < n
        · have hdk : decide (i < n) = true := by simp; exact hik
          obtain ⟨y, hy⟩ : ∃ y, (keyOf k)[i]? = some y := ⟨_, List.getElem?_eq_getElem (by rw [HKK.out]; exact hik)⟩
          have HY : Hid ((xr x (keyBlock k)).take (i + 1) = (xr x (keyBlock k)).take i ++ [bits .xor .u8 y x]) := hid_of (xr_take x _ i y (by rw [kb_lo k i (by rw [HKK.out]; exact hik)]; exact hy))
          obtain ⟨ua, uo, hu1, hu2⟩ := HU.out.cellAt i y hy
          subst hu1
          have cy : wr.cell? ⟨ua, uo + i, none⟩ = some (.int .u8 y) := (how.out.bel.cell (p := ⟨ua, uo + i, none⟩) (World.block_lt_of_cell? w _ hu2)).trans hu2
          have LZ := hid_of (lies_new (w := wr) (l := [bits .xor .u8 y x]) (n := 1) (cs := #[.int .u8 (bits .xor .u8 y x)]) (m := (0, 0)) rfl rfl (by simp))
          clear hy hu2
          go_wp2_with (at_builtin; ((refine wpList_app rfl _ _ rfl (v := .slice yo i yc) rfl (how.out.alloc _) (vx := .slice (some ⟨wr.heap.size, 0, none⟩) 1 1) rfl LZ.out (by rw [HTL.out]; simp; omega) ?_); intro xo3 n3 c3 w3 hn3 h3; obtain rfl : n3 = i + 1 := (by rw [hn3, HTL.out]; rfl); have X3 : Hid (OS w.heap.size w w3 (.slice xo3 (i + 1) c3) ((xr x (keyBlock k)).take (i + 1))) := hid_of (by rw [HY.out]; exact h3); clear h3 hn3))
          go_roundw
          case rel => exact ⟨i + 1, xo3, c3, by omega, by go_num, rfl, X3⟩
          case measure => simp [intOf]; omega
        · have hdk : decide (i < n) = false := by simp; omega
          have HY : Hid ((xr x (keyBlock k)).take (i + 1) = (xr x (keyBlock k)).take i ++ [bits .xor .u8 0 x]) := hid_of (xr_take x _ i 0 (kb_hi k i (by rw [HKK.out]; exact hik) hil))
          have LZ := hid_of (lies_new (w := wr) (l := [bits .xor .u8 0 x]) (n := 1) (cs := #[.int .u8 (bits .xor .u8 0 x)]) (m := (0, 0)) rfl rfl (by simp))
          go_wp2_with (at_builtin; ((refine wpList_app rfl _ _ rfl (v := .slice yo i yc) rfl (how.out.alloc _) (vx := .slice (some ⟨wr.heap.size, 0, none⟩) 1 1) rfl LZ.out (by rw [HTL.out]; simp; omega) ?_); intro xo3 n3 c3 w3 hn3 h3; obtain rfl : n3 = i + 1 := (by rw [hn3, HTL.out]; rfl); have X3 : Hid (OS w.heap.size w w3 (.slice xo3 (i + 1) c3) ((xr x (keyBlock k)).take (i + 1))) := hid_of (by rw [HY.out]; exact h3); clear h3 hn3))
          go_roundw
          case rel => exact ⟨i + 1, xo3, c3, by omega, by go_num, rfl, X3⟩
          case measure => simp [intOf]; omega
      · obtain rfl : i = 64 := by omega
        have HF : Hid (OS w.heap.size w wr (.slice yo 64 yc) (xr x (keyBlock k))) := hid_of (by rw [← List.take_of_length_le (l := xr x (keyBlock k)) (i := 64) (by rw [HXL.out]; omega)]; exact how.out)
        have hd64 : decide ((64 : Nat) < 64) = false := by decide
        clear how
        go_wp2
        go_ret
        exact ⟨_, _, rfl, HF.out⟩
end Go.Proofs.YtogfgcihhnblkaaDoor
