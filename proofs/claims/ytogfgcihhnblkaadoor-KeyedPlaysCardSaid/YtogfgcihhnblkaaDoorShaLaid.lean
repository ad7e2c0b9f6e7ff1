/- What the two listed variables read as, and the door's own heap. -/
import Derived.Test.YtogfgcihhnblkaaDoorRows
import Derived.Test.YtogfgcihhnblkaaDoorShaMix
import Derived.ProofKit
import Derived.LaidMore
import Derived.OpenShut
import Derived.Stop.Joined
namespace Go.Proofs.YtogfgcihhnblkaaDoor
open Go.ChangeShapes Go.WideShapes Go.ChangeAt Go.RowKit

def laid2 : List (String × DataW Unit) := [("plexus/sha256.initial", Rows.laid_plexus_sha256_initial), ("plexus/sha256.constants", Rows.laid_plexus_sha256_constants)]
theorem gIni : Tryd.prog.globalNamed "plexus/sha256.initial" = some 0 := by kernel_rfl
theorem gKon : Tryd.prog.globalNamed "plexus/sha256.constants" = some 1 := by kernel_rfl
theorem tIni : (Tryd.prog.globals[0]?).map (·.type) = some 66 := by kernel_rfl
theorem tKon : (Tryd.prog.globals[1]?).map (·.type) = some 80 := by kernel_rfl
theorem cu32 : Tryd.prog.cellsOf 65 = 1 := by kernel_rfl

theorem arr_of_trod {H : Type} {enc : TypeId × Value → H} {P : Program} {w : World} {base : Nat} {sp : Nat → Bool} {held : Bool} {fuel n : Nat} {t e : TypeId} {cs : List Value} {l : List Int} {p : List MemPlace}
    (ht : P.underlying t = some (.array n e)) (he : P.underlying e = some (.int .u32)) (c1 : P.cellsOf e = 1) (ct : P.cellsOf t = n)
    (h : DataW.trod enc P w base sp held fuel t cs = some (.agg (l.map fun n => .lit (.int .u32 n)), p)) : cs = l.map (Value.int .u32) := by
  obtain ⟨xs, m, _, hx, hlen, hn, hel⟩ := DataW.trod_array ht h
  rw [ct] at hlen
  simp only [Prod.mk.injEq, DataW.agg.injEq] at hx
  have hl : l.length = n := by have := congrArg List.length hx.1; simp at this; omega
  apply List.ext_getElem?
  intro i
  by_cases hi : i < n
  · have h1 := hel i hi
    rw [c1, Nat.mul_one] at h1
    have hxi : xs[i]? = some xs[i] := List.getElem?_eq_getElem (by omega)
    rw [hxi] at h1
    obtain ⟨k, e1, e2, _⟩ := DataW.trod_int he h1
    have h2 : (l.map fun n => (DataW.lit (.int .u32 n) : DataW H))[i]? = (xs.map (·.1))[i]? := by rw [hx.1]
    rw [List.getElem?_map, List.getElem?_map, hxi, List.getElem?_eq_getElem (show i < l.length by omega), e2] at h2
    simp only [Option.map_some, Option.some.injEq, DataW.lit.injEq, Lit.int.injEq, true_and] at h2
    rw [List.getElem?_map, List.getElem?_eq_getElem (show i < l.length by omega), Option.map_some, h2]
    have h3 : ((cs.drop i).take 1)[0]? = some (.int .u32 k) := by rw [e1]; rfl
    rw [List.getElem?_take_of_lt (by omega), List.getElem?_drop] at h3
    exact h3
  · rw [List.getElem?_eq_none (by omega), List.getElem?_eq_none (by simp; omega)]

theorem glob_of_laid {W : World} (h : laidMetH Tryd.prog laid2 W) : Glob W := by
  rw [MakeChecks.laidMetH_plain _ _ _ (by kernel_rfl)] at h
  obtain ⟨ps, ⟨g0, t0, cs0, f0, p0, q0, hg0, ht0, hv0, hd0, ⟨g1, t1, cs1, f1, p1, q1, hg1, ht1, hv1, hd1, _, _⟩, _⟩, _, _⟩ := h
  obtain rfl := Option.some.inj (gIni.symm.trans hg0)
  obtain rfl := Option.some.inj (gKon.symm.trans hg1)
  obtain rfl := Option.some.inj (tIni.symm.trans ht0)
  obtain rfl := Option.some.inj (tKon.symm.trans ht1)
  have e0 : cs0.toList = INI.map (Value.int .u32) := arr_of_trod Tryd.underlying66 Tryd.underlying65 cu32 (by kernel_rfl) hd0
  have e1 : cs1.toList = KON.map (Value.int .u32) := arr_of_trod Tryd.underlying80 Tryd.underlying65 cu32 (by kernel_rfl) hd1
  refine ⟨fun j v hv => ?_, fun j v hv => ?_⟩
  · rw [Nat.zero_add, World.var?_cell hg0 hv0 j, ← Array.getElem?_toList, e0]; exact hv
  · rw [Nat.zero_add, World.var?_cell hg1 hv1 j, ← Array.getElem?_toList, e1]; exact hv

set_option maxRecDepth 100000 in
/-- The door's own heap meets the condition: three closed facts. -/
theorem door_met (os : Os) (args : Array Value) : laidMetH Tryd.prog laid2 ((World.doorLaid Tryd.prog 4000 os).forCall (fun _ _ => 0) ⟨#[], args, []⟩).memory :=
  laidMetH_of_parts3 (fuel := 8) (laidMet_of_run' 8 (by kernel_rfl) (by kernel_rfl)) (by kernel_rfl) (by kernel_rfl)
end Go.Proofs.YtogfgcihhnblkaaDoor
