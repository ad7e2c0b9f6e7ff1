/- What the listed variables read as, and the door's own heap. -/
import Derived.Test.YtdmjlmlmdllhgaaDoorRows
import Derived.Test.YtdmjlmlmdllhgaaDoorLexGlb
import Derived.ProofKit
import Derived.LaidMore
import Derived.LaidLaws
import Derived.OpenShut
import Derived.Stop.Joined
import Derived.Stop.LaidErr
namespace Go.Proofs.YtdmjlmlmdllhgaaDoor
open Go.ChangeShapes Go.WideShapes Go.ChangeAt Go.RowKit

def laid2 : List (String × DataW Unit) := [("math/bits.deBruijn32tab", Rows.laid_math_bits_deBruijn32tab), ("math/bits.deBruijn64tab", Rows.laid_math_bits_deBruijn64tab), ("internal/strconv.uint64pow10", Rows.laid_internal_strconv_uint64pow10), ("strconv.ErrRange", Rows.laid_strconv_ErrRange), ("strconv.ErrSyntax", Rows.laid_strconv_ErrSyntax), ("plexus/lexer.keywords", Rows.laid_plexus_lexer_keywords), ("plexus/lexer.signs", Rows.laid_plexus_lexer_signs)]
theorem gKey : Tryd.prog.globalNamed "plexus/lexer.keywords" = some 0 := by kernel_rfl
theorem gSig : Tryd.prog.globalNamed "plexus/lexer.signs" = some 1 := by kernel_rfl
theorem g64t : Tryd.prog.globalNamed "math/bits.deBruijn64tab" = some 7 := by kernel_rfl
theorem tKey : (Tryd.prog.globals[0]?).map (·.type) = some 45 := by kernel_rfl
theorem tSig : (Tryd.prog.globals[1]?).map (·.type) = some 49 := by kernel_rfl
theorem tPow : (Tryd.prog.globals[3]?).map (·.type) = some 93 := by kernel_rfl
theorem tErS : (Tryd.prog.globals[4]?).map (·.type) = some 70 := by kernel_rfl
theorem tErR : (Tryd.prog.globals[5]?).map (·.type) = some 70 := by kernel_rfl
theorem cStr : Tryd.prog.cellsOf 9 = 1 := by kernel_rfl
theorem c44 : Tryd.prog.cellsOf 45 = 44 := by kernel_rfl
theorem c17 : Tryd.prog.cellsOf 49 = 17 := by kernel_rfl
theorem c20 : Tryd.prog.cellsOf 93 = 20 := by kernel_rfl
theorem cu64 : Tryd.prog.cellsOf 81 = 1 := by kernel_rfl
theorem cErr : Tryd.prog.cellsOf 116 = 1 := by kernel_rfl
theorem star_err : "*" ++ "errors.errorString" = "*errors.errorString" := by decide
theorem rowErr (u : TypeId) (h : Tryd.prog.typeName? 3 u = some "*errors.errorString") : u = 114 :=
  typeName_ptr_named (nm := "errors.errorString") (by rw [star_err]; kernel_rfl) (by kernel_rfl) (by decide) u (by rw [star_err]; exact h)

theorem arrS_of_trod {H : Type} {enc : TypeId × Value → H} {P : Program} {w : World} {base : Nat} {sp : Nat → Bool} {held : Bool} {fuel n : Nat} {t e : TypeId} {cs : List Value} {l : List ByteArray} {p : List MemPlace}
    (ht : P.underlying t = some (.array n e)) (he : P.underlying e = some .string) (c1 : P.cellsOf e = 1) (ct : P.cellsOf t = n)
    (h : DataW.trod enc P w base sp held fuel t cs = some (.agg (l.map fun s => .lit (.string s.data.toList)), p)) : cs = l.map Value.string := by
  obtain ⟨xs, m, _, hx, hlen, hn, hel⟩ := DataW.trod_array ht h
  rw [ct] at hlen
  simp only [Prod.mk.injEq, DataW.agg.injEq] at hx
  have hl : l.length = n := by have := congrArg List.length hx.1; simp at this; omega
  apply List.ext_getElem?
  intro i
  by_cases hi : i < n
  · have h1 := hel i hi
    rw [c1, Nat.mul_one] at h1
    have hxi : xs[i]? = some xs[i] := List.getElem?_eq_getElem (by omega)
    rw [hxi] at h1
    obtain ⟨k, e1, e2, _⟩ := DataW.trod_string he h1
    have h2 : (l.map fun s => (DataW.lit (.string s.data.toList) : DataW H))[i]? = (xs.map (·.1))[i]? := by rw [hx.1]
    rw [List.getElem?_map, List.getElem?_map, hxi, List.getElem?_eq_getElem (show i < l.length by omega), e2] at h2
    simp only [Option.map_some, Option.some.injEq, DataW.lit.injEq, Lit.string.injEq] at h2
    have h4 : l[i] = k := by
      obtain ⟨⟨a⟩⟩ := k
      have h5 : l[i].data.toList = a := h2
      rw [← h5]
    rw [List.getElem?_map, List.getElem?_eq_getElem (show i < l.length by omega), Option.map_some, h4]
    have h3 : ((cs.drop i).take 1)[0]? = some (.string k) := by rw [e1]; rfl
    rw [List.getElem?_take_of_lt (by omega), List.getElem?_drop] at h3
    exact h3
  · rw [List.getElem?_eq_none (by omega), List.getElem?_eq_none (by simp; omega)]

theorem glob_of_laid {W : World} (h : laidMetH Tryd.prog laid2 W) : Glob W := by
  rw [MakeChecks.laidMetH_plain _ _ _ (by kernel_rfl)] at h
  have h1 := h.tail
  have h2 := h1.tail
  have tab : Lib.TabIs Tryd.prog W "internal/strconv.uint64pow10" .u64 Lib.pow10Tab := Lib.tabIs_of_head gPow tPow Tryd.underlying93 Tryd.underlying81 cu64 c20 h2
  have h3 := h2.tail
  obtain ⟨a1, s1, hr, _⟩ := laid_sentinel h3 gEr tErR Tryd.underlying70 rowErr Tryd.underlying114 Tryd.underlying116 rfl rfl Tryd.underlying9 cErr cStr
  have h4 := h3.tail
  obtain ⟨a2, s2, hs, _⟩ := laid_sentinel h4 gEs tErS Tryd.underlying70 rowErr Tryd.underlying114 Tryd.underlying116 rfl rfl Tryd.underlying9 cErr cStr
  have h5 := h4.tail
  have h6 := h5.tail
  obtain ⟨_, ⟨g8, t8, cs8, f8, p8, q8, hg8, ht8, hv8, hd8, _, _⟩, _, _⟩ := h1
  obtain rfl := Option.some.inj (g64t.symm.trans hg8)
  obtain ⟨_, ⟨g0, t0, cs0, f0, p0, q0, hg0, ht0, hv0, hd0, _, _⟩, _, _⟩ := h5
  obtain rfl := Option.some.inj (gKey.symm.trans hg0)
  obtain rfl := Option.some.inj (tKey.symm.trans ht0)
  obtain ⟨_, ⟨g9, t9, cs9, f9, p9, q9, hg9, ht9, hv9, hd9, _, _⟩, _, _⟩ := h6
  obtain rfl := Option.some.inj (gSig.symm.trans hg9)
  obtain rfl := Option.some.inj (tSig.symm.trans ht9)
  have e0 : cs0.toList = KW.map Value.string := arrS_of_trod Tryd.underlying45 Tryd.underlying9 cStr c44 (by exact hd0)
  have e9 : cs9.toList = SG.map Value.string := arrS_of_trod Tryd.underlying49 Tryd.underlying9 cStr c17 (by exact hd9)
  refine ⟨fun j v hv => ?_, fun j v hv => ?_, ⟨_, _, hs⟩, ⟨_, _, hr⟩, tab, ?_⟩
  · rw [Nat.zero_add, World.var?_cell hg0 hv0 j, ← Array.getElem?_toList, e0]; exact hv
  · rw [Nat.zero_add, World.var?_cell hg9 hv9 j, ← Array.getElem?_toList, e9]; exact hv
  · unfold World.var? at hv8
    rw [g64t] at hv8
    simp only [Option.bind_some] at hv8
    by_cases hc : 7 < W.heap.size
    · omega
    · rw [Array.getElem?_eq_none (by omega)] at hv8
      simp at hv8

set_option maxRecDepth 100000 in
/-- The door's own heap meets the condition: three closed facts. -/
theorem door_met (os : Os) (args : Array Value) : laidMetH Tryd.prog laid2 ((World.doorLaid Tryd.prog 4000 os).forCall (fun _ _ => 0) ⟨#[], args, []⟩).memory :=
  laidMetH_of_parts3 (fuel := 8) (laidMet_of_run' 8 (by kernel_rfl) (by kernel_rfl)) (by kernel_rfl) (by kernel_rfl)
end Go.Proofs.YtdmjlmlmdllhgaaDoor
