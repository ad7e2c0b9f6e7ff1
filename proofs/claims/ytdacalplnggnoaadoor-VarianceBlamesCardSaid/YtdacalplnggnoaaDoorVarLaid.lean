/- What the listed variable reads as, and the door's own heap. -/
import Derived.Test.YtdacalplnggnoaaDoorRows
import Derived.Test.YtdacalplnggnoaaDoorVarFrm
import Derived.ProofKit
import Derived.LaidMore
import Derived.OpenShut
import Derived.Stop.Joined
namespace Go.Proofs.YtdacalplnggnoaaDoor
open Go.ChangeShapes Go.WideShapes Go.ChangeAt Go.RowKit

def laid2 : List (String × DataW Unit) := [("plexus/variance.signs", Rows.laid_plexus_variance_signs)]
theorem gTab : Tryd.prog.globalNamed "plexus/variance.signs" = some 0 := by kernel_rfl
theorem tTab : (Tryd.prog.globals[0]?).map (·.type) = some 59 := by kernel_rfl
theorem cStr : Tryd.prog.cellsOf 9 = 1 := by kernel_rfl
theorem c38 : Tryd.prog.cellsOf 59 = 38 := by kernel_rfl

theorem arrS_of_trod {H : Type} {enc : TypeId × Value → H} {P : Program} {w : World} {base : Nat} {sp : Nat → Bool} {held : Bool} {fuel n : Nat} {t e : TypeId} {cs : List Value} {l : List ByteArray} {p : List MemPlace}
    (ht : P.underlying t = some (.array n e)) (he : P.underlying e = some .string) (c1 : P.cellsOf e = 1) (ct : P.cellsOf t = n)
    (h : DataW.trod enc P w base sp held fuel t cs = some (.agg (l.map fun s => .lit (.string s.data.toList)), p)) : cs = l.map Value.string := by
  obtain ⟨xs, m, _, hx, hlen, hn, hel⟩ := DataW.trod_array ht h
  rw [ct] at hlen
  simp only [Prod.mk.injEq, DataW.agg.injEq] at hx
  have hl : l.length = n := by have := congrArg List.length hx.1; simp at this; omega
  apply List.ext_getElem?
  intro i
  by_cases hi : i < n
  · have h1 := hel i hi
    rw [c1, Nat.mul_one] at h1
    have hxi : xs[i]? = some xs[i] := List.getElem?_eq_getElem (by omega)
    rw [hxi] at h1
    obtain ⟨k, e1, e2, _⟩ := DataW.trod_string he h1
    have h2 : (l.map fun s => (DataW.lit (.string s.data.toList) : DataW H))[i]? = (xs.map (·.1))[i]? := by rw [hx.1]
    rw [List.getElem?_map, List.getElem?_map, hxi, List.getElem?_eq_getElem (show i < l.length by omega), e2] at h2
    simp only [Option.map_some, Option.some.injEq, DataW.lit.injEq, Lit.string.injEq] at h2
    have h4 : l[i] = k := by
      obtain ⟨⟨a⟩⟩ := k
      have h5 : l[i].data.toList = a := h2
      rw [← h5]
    rw [List.getElem?_map, List.getElem?_eq_getElem (show i < l.length by omega), Option.map_some, h4]
    have h3 : ((cs.drop i).take 1)[0]? = some (.string k) := by rw [e1]; rfl
    rw [List.getElem?_take_of_lt (by omega), List.getElem?_drop] at h3
    exact h3
  · rw [List.getElem?_eq_none (by omega), List.getElem?_eq_none (by simp; omega)]

theorem glob_of_laid {W : World} (h : laidMetH Tryd.prog laid2 W) : Gl W := by
  rw [MakeChecks.laidMetH_plain _ _ _ (by kernel_rfl)] at h
  obtain ⟨ps, ⟨g0, t0, cs0, f0, p0, q0, hg0, ht0, hv0, hd0, _, _⟩, _, _⟩ := h
  obtain rfl := Option.some.inj (gTab.symm.trans hg0)
  obtain rfl := Option.some.inj (tTab.symm.trans ht0)
  have e0 : cs0.toList = SIG.map Value.string := arrS_of_trod Tryd.underlying59 Tryd.underlying9 cStr c38 (by exact hd0)
  have hc : ∀ j, j < 38 → W.cell? ⟨0, j, none⟩ = some (.string (sg j)) := by
    intro j hj
    have hl : SIG.length = 38 := rfl
    rw [World.var?_cell hg0 hv0 j, ← Array.getElem?_toList, e0, List.getElem?_map]
    unfold sg
    rw [List.getD_eq_getElem?_getD, List.getElem?_eq_getElem (show j < SIG.length by omega)]
    rfl
  exact ⟨World.block_lt_of_cell? W _ (hc 0 (by omega)), hc⟩

set_option maxRecDepth 100000 in
/-- The door's own heap meets the condition: three closed facts. -/
theorem door_met (os : Os) (args : Array Value) : laidMetH Tryd.prog laid2 ((World.doorLaid Tryd.prog 4000 os).forCall (fun _ _ => 0) ⟨#[], args, []⟩).memory :=
  laidMetH_of_parts3 (fuel := 8) (laidMet_of_run' 8 (by kernel_rfl) (by kernel_rfl)) (by kernel_rfl) (by kernel_rfl)
end Go.Proofs.YtdacalplnggnoaaDoor
