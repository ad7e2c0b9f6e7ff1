/- A map from strings to booleans that a call makes, as a set of keys. Bounds on sizes alone. -/
import Derived.StringKeys
import Derived.Test.YtoogcafceghdjaaLatChn
namespace Go.Proofs.Ytoogcafceghdjaa
open Go.RowKit Go.Maps

theorem keyedS : Keyed Try.prog 9 := string_keyed Try.underlying9
/-- Block b is a map in which the keys of a list are true, and no others. -/
def MapS (w : World) (b n : Nat) (keys : List Str) : Prop :=
  ∃ D : DataW Unit, w.ownsMap Try.prog 9 (plainElem Try.prog 4) b n D ∧ IsMap D ∧ ∀ x : Str, D.atKey (.string x) (.lit (.bool false)) = .lit (.bool (decide (x ∈ keys)))
theorem mapS_made (w : World) : MapS (w.alloc (.map #[] 0)) w.heap.size 0 [] :=
  ⟨.map [], World.ownsMap_made w _ _ _, isMap_empty, fun x => by simp [DataW.atKey]⟩
theorem MapS.same {w w' : World} {b n : Nat} {keys : List Str} (h : MapS w b n keys) (hb : w'.heap[b]? = w.heap[b]?) : MapS w' b n keys := by
  obtain ⟨D, ⟨es, clock, h1, h2, h3, h4⟩, h5, h6⟩ := h
  exact ⟨D, ⟨es, clock, hb.trans h1, h2, h3, h4⟩, h5, h6⟩
theorem MapS.lt {w : World} {b n : Nat} {keys : List Str} (h : MapS w b n keys) : b < w.heap.size := by
  obtain ⟨D, h1, _⟩ := h; exact h1.lt
theorem MapS.look {w : World} {b n : Nat} {keys : List Str} (h : MapS w b n keys) (x : Str) (hx : x.length ≤ 9223372036854775807) :
    (Instr.lookup 102 (.map (some b)) (.string (ba x)) false).run Try.prog w = .ok (.bool (decide (x ∈ keys))) w := by
  obtain ⟨D, h1, h2, h3⟩ := h
  have hk : keyOf Try.prog 9 (.string (ba x)) = some (.string x) := Go.WideMaps.keyOf_string_mk Try.underlying9 (by show x.toArray.size ≤ maxLen; unfold maxLen; simp; omega)
  obtain ⟨v, ps, hrun, hv⟩ := h1.lookup keyedS Try.underlying102 (zeroB w) (plainElem_bool Try.underlying4 false) hk
  rw [h3 x] at hv
  rw [hrun, plainElem_bool_inv hv]
theorem mapS_put {w' : World} {b n : Nat} {keys : List Str} {x : Str} {D : DataW Unit} (h1 : w'.ownsMap Try.prog 9 (plainElem Try.prog 4) b (n + 1) (D.put (.string x) (.lit (.bool true))))
    (h2 : IsMap D) (h3 : ∀ x : Str, D.atKey (.string x) (.lit (.bool false)) = .lit (.bool (decide (x ∈ keys)))) : MapS w' b (n + 1) (keys ++ [x]) := by
  refine ⟨_, h1, h2.put _ _, fun y => ?_⟩
  by_cases e : y = x
  · subst e
    rw [atKey_put_same h2 (by trivial)]
    simp
  · rw [atKey_put_other (by intro e2; cases e2; exact e rfl), h3]
    congr 3
    rw [List.mem_append, List.mem_singleton]
    simp [e]
/-- The store at the operation. -/
theorem wpList_put {ops : Array Oper} {rest : List Oper} {o : Oper} {a : Act} {w : World} {Q : Exit → Act → World → Prop} (hg : o.guard = none) (m x v : Operand)
    (hop : o.op = Op.mapUpdate 102 m x v) (b n : Nat) (keys : List Str) (y : Str) (hm : a.eval m = .map (some b)) (hx : a.eval x = .string (ba y)) (hv : a.eval v = .bool true) (h : MapS w b n keys) (hn : n < 9223372036854775807) (hy : y.length ≤ 9223372036854775807)
    (hK : ∀ w', MapS w' b (n + 1) (keys ++ [y]) → w.grownBy w' (some b) → wpList Try.prog ops Q rest (a.put o.dst undef) w') : wpList Try.prog ops Q (o :: rest) a w := by
  obtain ⟨D, h1, h2, h3⟩ := h
  refine wpList_mapUpdate_own w hg m x v 102 hop 9 4 keyedS Try.underlying102 _ b n D hm h1 (by unfold maxLen; omega) (.string (ba y)) (.bool true) (.string y) hx hv
    (Go.WideMaps.keyOf_string_mk Try.underlying9 (by show y.toArray.size ≤ maxLen; unfold maxLen; simp; omega)) (.lit (.bool true)) [] (plainElem_bool Try.underlying4 true) (fun w' hown hgrow => hK w' (mapS_put hown h2 h3) hgrow)
end Go.Proofs.Ytoogcafceghdjaa
