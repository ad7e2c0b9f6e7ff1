/- Rows of bytes that came in. -/
import Derived.Test.YtogfgcihhnblkaaDoorShaGen
import Derived.OpenShut
namespace Go.Proofs.YtogfgcihhnblkaaDoor
open Go.RowKit

theorem Glob.at {w w' : World} (h : Glob w) (hb : Below w.heap.size w w') : Glob w' := h.bel hb h.two
theorem Lies.at {w w' : World} {v : Value} {l : List Int} (h : Lies w v l) (hb : Below w.heap.size w w') : Lies w' v l := h.later hb (Nat.le_refl _)

/-- What the walk is told of a slice of integers that came in. -/
def IsRow (k : IntKind) (w : World) (a : Option Addr) (len cap : Nat) (zs : List Int) : Prop :=
  (a = none ∧ len = 0 ∧ cap = 0 ∧ zs = []) ∨
  ∃ x, a = some x ∧ len ≤ cap ∧ cap ≤ maxLen ∧ zs.length = cap ∧ (∀ i, i < zs.length → w.cell? (x.add i) = some (.int k (zs.getD i 0))) ∧ ∀ n ∈ zs, (Lit.int k n).wf = true

theorem spot_none {w : World} {x : Addr} {u : Value} (h : w.cell? x = some u) : x = ⟨x.block, x.off, none⟩ := by
  obtain ⟨b, o, s⟩ := x
  cases s with
  | none => rfl
  | some s =>
    exfalso
    unfold World.cell? at h
    split at h <;> simp at h

/-- A row of bytes that came in, as a list. -/
theorem IsRow.lies {w : World} {a : Option Addr} {len cap : Nat} {zs : List Int} (h : IsRow .u8 w a len cap zs) :
    ∃ l : List Int, l.length = len ∧ (∀ y ∈ l, 0 ≤ y ∧ y ≤ 255) ∧ Lies w (.slice a len cap) l := by
  rcases h with ⟨rfl, rfl, rfl, rfl⟩ | ⟨x, rfl, h1, h2, h3, h4, h5⟩
  · exact ⟨[], rfl, by simp, none, 0, rfl, by simp, by omega, fun h => by simp at h⟩
  · unfold maxLen at h2
    have htl : (zs.take len).length = len := by rw [List.length_take]; omega
    refine ⟨zs.take len, htl, fun y hy => bounds_u8 (h5 y (List.mem_of_mem_take hy)), some x, cap, by rw [htl], by omega, by omega, fun h0 => ?_⟩
    rw [htl] at h0
    have h6 := h4 0 (by omega)
    rw [show x.add 0 = x by rfl] at h6
    have hx := spot_none h6
    refine ⟨x.block, x.off, by rw [← hx], World.block_lt_of_cell? w _ h6, fun j u hu => ?_⟩
    have hj : j < len := by
      have := (List.getElem?_eq_some_iff.1 hu).1
      simp [bs] at this; omega
    have h7 := h4 j (by omega)
    rw [hx, Addr.add_mid] at h7
    rw [h7]
    simp only [bs, List.getElem?_map, List.getElem?_take, hj, if_true] at hu
    rw [List.getElem?_eq_getElem (by omega)] at hu
    simp only [Option.map_some, Option.some.injEq] at hu
    rw [← hu]
    simp [List.getD, show j < zs.length by omega]

end Go.Proofs.YtogfgcihhnblkaaDoor
