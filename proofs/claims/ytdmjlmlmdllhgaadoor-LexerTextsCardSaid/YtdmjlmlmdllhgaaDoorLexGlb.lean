/- The package's variables as they were laid; Keyword and Sign. Bounds on sizes alone. -/
import Derived.Test.YtdmjlmlmdllhgaaDoorLexRun
import Derived.Deep.MidRow
import Derived.Lib.LaidTab
import Derived.Lib.ItoaNum
namespace Go.Proofs.YtdmjlmlmdllhgaaDoor
open Go.RowKit

def strs (l : List ByteArray) : List Value := l.map Value.string
/-- The variables are as they were laid. -/
structure Glob (w : World) : Prop where
  kw : w.rangeAt 0 0 (strs KW)
  sg : w.rangeAt 1 0 (strs SG)
  es : ∃ tp p, w.var? Tryd.prog "strconv.ErrSyntax" = some #[.iface tp p]
  er : ∃ tp p, w.var? Tryd.prog "strconv.ErrRange" = some #[.iface tp p]
  tab : Lib.TabIs Tryd.prog w "internal/strconv.uint64pow10" .u64 Lib.pow10Tab
  eight : 8 ≤ w.heap.size
theorem gEs : Tryd.prog.globalNamed "strconv.ErrSyntax" = some 4 := by kernel_rfl
theorem gEr : Tryd.prog.globalNamed "strconv.ErrRange" = some 5 := by kernel_rfl
theorem gPow : Tryd.prog.globalNamed "internal/strconv.uint64pow10" = some 3 := by kernel_rfl
theorem var_same {w w' : World} {n : String} {g : Nat} (hg : Tryd.prog.globalNamed n = some g) (h : w'.heap[g]? = w.heap[g]?) : w'.var? Tryd.prog n = w.var? Tryd.prog n := by
  simp only [World.var?, hg, Option.bind_some, h]
theorem Glob.same {w w' : World} (h : Glob w) (hs : w.heap.size ≤ w'.heap.size) (hb : ∀ k, k < 8 → w'.heap[k]? = w.heap[k]?) : Glob w' := by
  have hc : ∀ g j, g < 8 → w'.cell? ⟨g, j, none⟩ = w.cell? ⟨g, j, none⟩ := fun g j hg => World.cell?_of_block (w := w) (hb g hg)
  refine ⟨fun j v hv => (hc _ _ (by decide)).trans (h.kw j v hv), fun j v hv => (hc _ _ (by decide)).trans (h.sg j v hv), ?_, ?_, ?_, Nat.le_trans h.eight hs⟩
  · rw [var_same gEs (hb _ (by decide))]; exact h.es
  · rw [var_same gEr (hb _ (by decide))]; exact h.er
  · unfold Lib.TabIs; rw [var_same gPow (hb _ (by decide))]; exact h.tab
theorem Glob.bel {w w' : World} {B : Nat} (h : Glob w) (hb : Below B w w') (hB : 8 ≤ B) : Glob w' := h.same hb.size fun k hk => hb.block k (by omega)
theorem Glob.at {w w' : World} (h : Glob w) (hb : Below w.heap.size w w') : Glob w' := h.bel hb h.eight
theorem Glob.kept {w w' : World} {b : Nat} (h : Glob w) (hk : KB b w w') (hb : 8 ≤ b) : Glob w' := h.same hk.size fun k hk2 => hk.block k (by have := h.eight; omega) (by omega)

theorem info44 : (Tryd.prog.info? 45).map (·.size) = some 44 := by kernel_rfl
theorem info17 : (Tryd.prog.info? 49).map (·.size) = some 17 := by kernel_rfl
theorem kw_len : (strs KW).length = 44 := rfl
theorem sg_len : (strs SG).length = 17 := rfl
theorem among_go {l : List ByteArray} {s x : ByteArray} {i : Nat} (hx : l[i]? = some x) (h : x = s) : among l s = true := by
  rw [among_iff, ← h]; exact List.mem_of_getElem? hx
theorem among_no {l : List ByteArray} {s : ByteArray} (h : ∀ (i : Nat) (x : ByteArray), l[i]? = some x → x ≠ s) : among l s = false := by
  rw [Bool.eq_false_iff]
  intro h2
  rw [among_iff] at h2
  obtain ⟨i, hi⟩ := List.getElem?_of_mem h2
  exact h i s hi rfl

theorem eqB (x y : ByteArray) : (x.toList == y.toList) = decide (x = y) := by
  rw [ByteArray.toList_eq, ByteArray.toList_eq, Bool.eq_iff_iff]
  simp only [beq_iff_eq, decide_eq_true_eq]
  constructor
  · intro h; obtain ⟨⟨a⟩⟩ := x; obtain ⟨⟨b⟩⟩ := y; simp at h; rw [h]
  · intro h; rw [h]
theorem eqB_t {x y : ByteArray} (h : x = y) : (x.toList == y.toList) = true := by rw [eqB]; exact decide_eq_true h
theorem eqB_f {x y : ByteArray} (h : x ≠ y) : (x.toList == y.toList) = false := by rw [eqB]; exact decide_eq_false h
theorem index44 (cs : List Value) (i : Nat) (x : ByteArray) (hi : i < 44) (hx : cs[i]? = some (.string x)) (w : World) : (Instr.index 45 (.agg cs.toArray) (.int .i64 (i : Int))).run Tryd.prog w = .ok (.string x) w := by
  have hn : 0 ≤ (i : Int) ∧ (i : Int) < ((44 : Nat) : Int) := by omega
  simp [Instr.index, run_underlying Tryd.underlying45, asIntOf, hn, go_sem, hi, hx]

set_option maxRecDepth 100000 in
set_option maxHeartbeats 800000 in
theorem keyword_any (s : ByteArray) (w : World) (hG : Glob w) : Calls Tryd.prog 15 #[.string s] w fun e w' => e = .returned (.bool (kw s)) ∧ w' = w := by
  obtain ⟨r, hr⟩ : ∃ r, r = kw s := ⟨_, rfl⟩
  rw [← hr]
  have HR := hid_of hr
  have HG := hid_of hG.kw
  obtain ⟨cs, hcs⟩ : ∃ cs, cs = strs KW := ⟨_, rfl⟩
  rw [← hcs] at HG
  have hl : cs.length = 44 := by rw [hcs]; rfl
  have HI : Hid ((Tryd.prog.info? 45).map (·.size) = some cs.length) := hid_of (by rw [hl]; exact info44)
  have HC : Hid (∀ i, i < 44 → ∃ x, KW[i]? = some x ∧ cs[i]? = some (.string x)) := hid_of (fun i hi => by
    have hk : i < KW.length := hi
    exact ⟨KW[i], List.getElem?_eq_getElem hk, by rw [hcs, strs, List.getElem?_map, List.getElem?_eq_getElem hk]; rfl⟩)
  have HL : Hid (∀ i x, KW[i]? = some x → i < 44) := hid_of (fun i x h => (List.getElem?_eq_some_iff.1 h).1)
  clear hr hG hcs hl
  go_enter Tryd.func15, Tryd.ntmps15
  go_wp2_with (refine wpList_load_mid rfl 45 (.global 0) rfl 0 0 rfl cs _ HG.out Tryd.underlying45 rfl HI.out ?_)
  go_loopw [4, 6] (fun xv iv wr => ∃ (i : Nat) (v : Value), xv = v ∧ i ≤ 44 ∧ iv = .int .i64 i ∧ wr = w ∧ Hid (∀ (j : Nat) (x : ByteArray), j < i → KW[j]? = some x → x ≠ s)) (fun _ iv _ => 44 - (intOf iv).toNat)
  case atStart => exact ⟨0, _, rfl, Nat.zero_le _, rfl, rfl, hid_of (fun j c hj => by omega)⟩
  case round =>
    obtain ⟨i, v, rfl, hi, rfl, rfl, hall⟩ := hrel
    by_cases hlt : i < 44
    · obtain ⟨x, hx, hcx⟩ := HC.out i hlt
      have HX := hid_of hx
      have hrun := fun w => index44 cs i x hlt hcx w
      have HLT := hid_of hlt
      clear hx hcx
      by_cases e : x = s
      · have RT : Hid (r = true) := hid_of (by rw [HR.out]; exact among_go HX.out e)
        have b1 := eqB_t e
        clear e
        go_wp2
        go_ret
        exact ⟨by rw [RT.out] <;> rfl, rfl⟩
      · have NE := hid_of e
        have b1 := eqB_f e
        clear e
        go_wp2
        go_roundw
        case rel => have := HLT.out; exact ⟨i + 1, _, rfl, by omega, by go_num, trivial, hid_of (fun j y hj hy => by
          by_cases e : j = i
          · subst e; rw [HX.out] at hy; cases hy; exact NE.out
          · exact hall.out j y (by omega) hy)⟩
        case measure => have := HLT.out; simp [intOf]; omega
    · have RF : Hid (r = false) := hid_of (by rw [HR.out]; exact among_no fun j y hy => hall.out j y (by have := HL.out j y hy; omega) hy)
      go_wp2
      go_ret
      exact ⟨by rw [RF.out] <;> rfl, rfl⟩
theorem index17 (cs : List Value) (i : Nat) (x : ByteArray) (hi : i < 17) (hx : cs[i]? = some (.string x)) (w : World) : (Instr.index 49 (.agg cs.toArray) (.int .i64 (i : Int))).run Tryd.prog w = .ok (.string x) w := by
  have hn : 0 ≤ (i : Int) ∧ (i : Int) < ((17 : Nat) : Int) := by omega
  simp [Instr.index, run_underlying Tryd.underlying49, asIntOf, hn, go_sem, hi, hx]

set_option maxRecDepth 100000 in
set_option maxHeartbeats 800000 in
theorem sign_any (s : ByteArray) (w : World) (hG : Glob w) : Calls Tryd.prog 17 #[.string s] w fun e w' => e = .returned (.bool (sgn s)) ∧ w' = w := by
  obtain ⟨r, hr⟩ : ∃ r, r = sgn s := ⟨_, rfl⟩
  rw [← hr]
  have HR := hid_of hr
  have HG := hid_of hG.sg
  obtain ⟨cs, hcs⟩ : ∃ cs, cs = strs SG := ⟨_, rfl⟩
  rw [← hcs] at HG
  have hl : cs.length = 17 := by rw [hcs]; rfl
  have HI : Hid ((Tryd.prog.info? 49).map (·.size) = some cs.length) := hid_of (by rw [hl]; exact info17)
  have HC : Hid (∀ i, i < 17 → ∃ x, SG[i]? = some x ∧ cs[i]? = some (.string x)) := hid_of (fun i hi => by
    have hk : i < SG.length := hi
    exact ⟨SG[i], List.getElem?_eq_getElem hk, by rw [hcs, strs, List.getElem?_map, List.getElem?_eq_getElem hk]; rfl⟩)
  have HL : Hid (∀ i x, SG[i]? = some x → i < 17) := hid_of (fun i x h => (List.getElem?_eq_some_iff.1 h).1)
  clear hr hG hcs hl
  go_enter Tryd.func17, Tryd.ntmps17
  go_wp2_with (refine wpList_load_mid rfl 49 (.global 1) rfl 1 0 rfl cs _ HG.out Tryd.underlying49 rfl HI.out ?_)
  go_loopw [4, 6] (fun xv iv wr => ∃ (i : Nat) (v : Value), xv = v ∧ i ≤ 17 ∧ iv = .int .i64 i ∧ wr = w ∧ Hid (∀ (j : Nat) (x : ByteArray), j < i → SG[j]? = some x → x ≠ s)) (fun _ iv _ => 17 - (intOf iv).toNat)
  case atStart => exact ⟨0, _, rfl, Nat.zero_le _, rfl, rfl, hid_of (fun j c hj => by omega)⟩
  case round =>
    obtain ⟨i, v, rfl, hi, rfl, rfl, hall⟩ := hrel
    by_cases hlt : i < 17
    · obtain ⟨x, hx, hcx⟩ := HC.out i hlt
      have HX := hid_of hx
      have hrun := fun w => index17 cs i x hlt hcx w
      have HLT := hid_of hlt
      clear hx hcx
      by_cases e : x = s
      · have RT : Hid (r = true) := hid_of (by rw [HR.out]; exact among_go HX.out e)
        have b1 := eqB_t e
        clear e
        go_wp2
        go_ret
        exact ⟨by rw [RT.out] <;> rfl, rfl⟩
      · have NE := hid_of e
        have b1 := eqB_f e
        clear e
        go_wp2
        go_roundw
        case rel => have := HLT.out; exact ⟨i + 1, _, rfl, by omega, by go_num, trivial, hid_of (fun j y hj hy => by
          by_cases e : j = i
          · subst e; rw [HX.out] at hy; cases hy; exact NE.out
          · exact hall.out j y (by omega) hy)⟩
        case measure => have := HLT.out; simp [intOf]; omega
    · have RF : Hid (r = false) := hid_of (by rw [HR.out]; exact among_no fun j y hy => hall.out j y (by have := HL.out j y hy; omega) hy)
      go_wp2
      go_ret
      exact ⟨by rw [RF.out] <;> rfl, rfl⟩
end Go.Proofs.YtdmjlmlmdllhgaaDoor
