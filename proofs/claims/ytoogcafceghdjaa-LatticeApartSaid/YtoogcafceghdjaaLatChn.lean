/- Chain of package lattice. Bounds on sizes alone. -/
import Derived.Maps.OwnOps
import Derived.Maps.Views
import Derived.Carry
import Derived.Test.YtoogcafceghdjaaLatEq
namespace Go.Proofs.Ytoogcafceghdjaa
open Go.RowKit Go.Maps

theorem r64_wf {n : Int} (h : R64 n) : (Lit.int .i64 n).wf = true := by
  show (decide (IntKind.i64.min ≤ n) && decide (n ≤ IntKind.i64.max)) = true
  have h1 : IntKind.i64.min = -9223372036854775808 := by rfl
  have h2 : IntKind.i64.max = 9223372036854775807 := by rfl
  rw [h1, h2, decide_eq_true h.1, decide_eq_true h.2]
  rfl
theorem keyedI : Keyed Try.prog 3 := int_keyed Try.underlying3
theorem zeroB (w : World) : (zeroValue 4).run Try.prog w = .ok (.bool false) w := by kernel_rfl

/-- Block b is a map in which the keys of a list are true, and no others. -/
def MapI (w : World) (b n : Nat) (keys : List Int) : Prop :=
  ∃ D : DataW Unit, w.ownsMap Try.prog 3 (plainElem Try.prog 4) b n D ∧ IsMap D ∧ ∀ x : Int, D.atKey (.int .i64 x) (.lit (.bool false)) = .lit (.bool (decide (x ∈ keys)))
theorem mapI_made (w : World) : MapI (w.alloc (.map #[] 0)) w.heap.size 0 [] :=
  ⟨.map [], World.ownsMap_made w _ _ _, isMap_empty, fun x => by simp [DataW.atKey]⟩
theorem MapI.same {w w' : World} {b n : Nat} {keys : List Int} (h : MapI w b n keys) (hb : w'.heap[b]? = w.heap[b]?) : MapI w' b n keys := by
  obtain ⟨D, ⟨es, clock, h1, h2, h3, h4⟩, h5, h6⟩ := h
  exact ⟨D, ⟨es, clock, hb.trans h1, h2, h3, h4⟩, h5, h6⟩
theorem MapI.lt {w : World} {b n : Nat} {keys : List Int} (h : MapI w b n keys) : b < w.heap.size := by
  obtain ⟨D, h1, _⟩ := h; exact h1.lt
theorem MapI.at {w w' : World} {b n : Nat} {keys : List Int} (h : MapI w b n keys) (hb : Below w.heap.size w w') : MapI w' b n keys := h.same (hb.block b h.lt)
set_option maxRecDepth 100000 in
theorem plainElem_bool_inv {v : Value} {q : Bool} {ps : List MemPlace} (h : plainElem (H := Unit) Try.prog 4 v = some (.lit (.bool q), ps)) : v = .bool q := by
  unfold plainElem at h
  rw [Try.underlying4] at h
  split at h
  · rename_i x _ ; simp only [Option.some.injEq, Prod.mk.injEq, DataW.lit.injEq, Lit.bool.injEq] at h; rw [h.1]
  · rename_i e; cases e
  · rename_i e; cases e
  · cases h
theorem MapI.look {w : World} {b n : Nat} {keys : List Int} (h : MapI w b n keys) (x : Int) (hx : R64 x) :
    (Instr.lookup 71 (.map (some b)) (.int .i64 x) false).run Try.prog w = .ok (.bool (decide (x ∈ keys))) w := by
  obtain ⟨D, h1, h2, h3⟩ := h
  have hk : keyOf Try.prog 3 (.int .i64 x) = some (.int .i64 x) := keyOf_int_mk Try.underlying3 (r64_wf hx)
  obtain ⟨v, ps, hrun, hv⟩ := h1.lookup keyedI Try.underlying71 (zeroB w) (plainElem_bool Try.underlying4 false) hk
  rw [h3 x] at hv
  rw [hrun, plainElem_bool_inv hv]
theorem mapI_put {w' : World} {b n : Nat} {keys : List Int} {x : Int} {D : DataW Unit} (h1 : w'.ownsMap Try.prog 3 (plainElem Try.prog 4) b (n + 1) (D.put (.int .i64 x) (.lit (.bool true))))
    (h2 : IsMap D) (h3 : ∀ x : Int, D.atKey (.int .i64 x) (.lit (.bool false)) = .lit (.bool (decide (x ∈ keys)))) : MapI w' b (n + 1) (keys ++ [x]) := by
  refine ⟨_, h1, h2.put _ _, fun y => ?_⟩
  by_cases e : y = x
  · subst e
    rw [atKey_put_same h2 (by trivial)]
    simp
  · rw [atKey_put_other (by intro e2; cases e2; exact e rfl), h3]
    congr 3
    rw [List.mem_append, List.mem_singleton]
    simp [e]
/-- The store of a literal's entry, at the operation. -/
theorem wpList_ins {ops : Array Oper} {rest : List Oper} {o : Oper} {a : Act} {w : World} {Q : Exit → Act → World → Prop} (hg : o.guard = none) (m x v : Operand)
    (hop : o.op = Op.insert 71 m x v) (b n : Nat) (keys : List Int) (y : Int) (hm : a.eval m = .map (some b)) (hx : a.eval x = .int .i64 y) (hv : a.eval v = .bool true) (h : MapI w b n keys) (hn : n ≤ 1000000) (hy : R64 y)
    (hK : ∀ w', MapI w' b (n + 1) (keys ++ [y]) → w.grownBy w' (some b) → wpList Try.prog ops Q rest (a.put o.dst undef) w') : wpList Try.prog ops Q (o :: rest) a w := by
  obtain ⟨D, h1, h2, h3⟩ := h
  refine wpList_plain hg fun K' hK' => ?_
  obtain ⟨w', hrun, r1, r2⟩ := h1.update keyedI Try.underlying71 (by unfold maxLen; omega) (keyOf_int_mk Try.underlying3 (r64_wf hy) : keyOf Try.prog 3 (.int .i64 y) = some (.int .i64 y)) (plainElem_bool Try.underlying4 true)
  unfold Oper.wp
  simp [execOp, hop, hm, hx, hv, hrun, Result.andThen]
  exact hK' _ _ (hK w' (mapI_put r1 h2 h3) r2)

set_option maxRecDepth 100000 in
set_option maxHeartbeats 3200000 in
theorem kinds_any (w : World) : Calls Try.prog 42 #[] w (fun e w' => ∃ b, e = .returned (.map (some b)) ∧ Below w.heap.size w w' ∧ MapI w' b 3 [1, 2, 3]) := by
  have hmm := @run_makeMap Try.prog
  have HM := hid_of (mapI_made w)
  have HB := hid_of (bel_alloc w (.map #[] 0))
  go_enter Try.func42, Try.ntmps42
  go_wp2_with (first
    | ((refine wpList_ins rfl _ _ _ rfl w.heap.size 0 [] 1 rfl rfl rfl HM.out (by omega) ⟨by omega, by omega⟩ ?_); intro w1 hm1 hg1; (have M1 := hid_of hm1); (have B1 := hid_of (HB.out.grown hg1 (by simp) (fun k hk => by cases hk; omega))); clear hm1 hg1)
    | ((refine wpList_ins rfl _ _ _ rfl w.heap.size 1 [1] 2 rfl rfl rfl M1.out (by omega) ⟨by omega, by omega⟩ ?_); intro w2 hm1 hg1; (have M2 := hid_of hm1); (have B2 := hid_of (B1.out.grown hg1 B1.out.size (fun k hk => by cases hk; omega))); clear hm1 hg1)
    | ((refine wpList_ins rfl _ _ _ rfl w.heap.size 2 [1, 2] 3 rfl rfl rfl M2.out (by omega) ⟨by omega, by omega⟩ ?_); intro w3 hm1 hg1; (have M3 := hid_of hm1); (have B3 := hid_of (B2.out.grown hg1 B2.out.size (fun k hk => by cases hk; omega))); clear hm1 hg1))
  go_ret
  exact ⟨_, rfl, B3.out, M3.out⟩
end Go.Proofs.Ytoogcafceghdjaa
