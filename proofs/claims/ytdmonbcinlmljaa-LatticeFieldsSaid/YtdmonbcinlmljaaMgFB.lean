/- Texts in one: LatEq, LatChn, LatMps, LatCat, LatChx, LatNam, LatRls, LatFld, LatNod, LatChk, LatChL, LatIdx, LatFie, WireMath. -/
import Derived.Test.YtdmonbcinlmljaaMgFA
import Derived.Maps.OwnOps
import Derived.Maps.Views
import Derived.Carry
import Derived.StringKeys
import Derived.Lib.AppendZeros
import Derived.WalkMore
import Derived.Laws.EntriesVeiled
import Derived.Lib.SliceRun
import Derived.Laws.ResultCell
import Derived.Laws.Rows
import Derived.Laws.Tables
import Derived.WalkKit
set_option linter.unusedVariables false
set_option linter.unusedSimpArgs false
/- Equal of package lattice. Bounds on sizes alone. -/
namespace Go.Proofs.Ytdmonbcinlmljaa
open Go.RowKit

theorem lat_eq (k lo hi : Int) (ns : List Str) (ps : List Lat) (rs : List Gr) (u : Lat) : decide (Lat.mk k lo hi ns ps rs = u) = (decide (k = u.k) && decide (lo = u.lo) && decide (hi = u.hi) && decide (ns = u.ns) && decide (ps = u.ps) && decide (rs = u.rs)) := by
  obtain ⟨k2, lo2, hi2, ns2, ps2, rs2⟩ := u
  by_cases h : Lat.mk k lo hi ns ps rs = ⟨k2, lo2, hi2, ns2, ps2, rs2⟩
  · cases h
    simp [Lat.k, Lat.lo, Lat.hi, Lat.ns, Lat.ps, Lat.rs]
  · rw [decide_eq_false h, eq_comm, Bool.eq_false_iff]
    intro h2
    simp only [Bool.and_eq_true] at h2
    obtain ⟨⟨⟨⟨⟨a, b⟩, c⟩, d⟩, e⟩, f⟩ := h2
    have a : k = k2 := of_decide_eq_true a
    have b : lo = lo2 := of_decide_eq_true b
    have c : hi = hi2 := of_decide_eq_true c
    have d : ns = ns2 := of_decide_eq_true d
    have e : ps = ps2 := of_decide_eq_true e
    have f : rs = rs2 := of_decide_eq_true f
    exact h (by rw [a, b, c, d, e, f])
theorem blk_kept {W w' : World} {b : Nat} {cs : List Value} {E : TypeId} {m : Nat × Nat} (hb : W.heap[b]? = some (.cells cs.toArray E m)) (h : Below W.heap.size W w') {j : Nat} {u : Value} (hu : cs[j]? = some u) : w'.cell? ⟨b, j, none⟩ = some u := by
  have := World.news_of_block hb j u (by simpa using hu)
  rw [Addr.add_mid, Nat.zero_add] at this
  exact (h.cell (p := ⟨b, j, none⟩) (lt_of_block hb)).trans this
theorem two_new (w : World) (o o2 : Obj) : ((w.alloc o).alloc o2).heap[w.heap.size]? = some o ∧ ((w.alloc o).alloc o2).heap[w.heap.size + 1]? = some o2 := by
  refine ⟨((bel_alloc (w.alloc o) o2).block w.heap.size (by simp)).trans (heap_alloc_new w o), ?_⟩
  have := heap_alloc_new (w.alloc o) o2
  rw [show (w.alloc o).heap.size = w.heap.size + 1 by simp] at this
  exact this
set_option maxRecDepth 100000 in
set_option maxHeartbeats 3200000 in
theorem equal_any : ∀ (t u : Lat) (kA loA hiA : Int) (anA : Option Addr) (nnA cnA : Nat) (apA : Option Addr) (npA cpA : Nat) (arA : Option Addr) (nrA crA : Nat) (kB loB hiB : Int) (anB : Option Addr) (nnB cnB : Nat) (apB : Option Addr) (npB cpB : Nat) (arB : Option Addr) (nrB crB : Nat) (w : World), LO w kA loA hiA anA nnA cnA apA npA cpA arA nrA crA t → LO w kB loB hiB anB nnB cnB apB npB cpB arB nrB crB u → Calls Try.prog 8 #[.agg #[.int .i64 kA, .int .i64 loA, .int .i64 hiA, .slice anA nnA cnA, .slice apA npA cpA, .slice arA nrA crA], .agg #[.int .i64 kB, .int .i64 loB, .int .i64 hiB, .slice anB nnB cnB, .slice apB npB cpB, .slice arB nrB crB]] w (BoP (decide (t = u)) w) := by
  refine lat_ind ?_
  intro k' lo' hi' ns' ps' rs' ih u kA loA hiA anA nnA cnA apA npA cpA arA nrA crA kB loB hiB anB nnB cnB apB npB cpB arB nrB crB w H1 H2
  obtain rfl : kA = k' := H1.hk
  obtain rfl : loA = lo' := H1.hlo
  obtain rfl : hiA = hi' := H1.hhi
  rw [lat_eq, ← H2.hk, ← H2.hlo, ← H2.hhi]
  have CN := hid_of (fun (wz : World) (hz : Below w.heap.size w wz) => seqs_any ns' u.ns anA anB nnA nnB cnA cnB wz (H1.n.at hz) (H2.n.at hz))
  have CP := hid_of (fun (wz : World) (hz : Below w.heap.size w wz) => eqfl_any 8 (enters_of Try.func8 (by kernel_rfl) rfl) ps' u.ps apA apB npA npB cpA cpB wz (H1.p.at hz) (H2.p.at hz) ih)
  have CR := hid_of (fun (wz : World) (hz : Below w.heap.size w wz) => eqfr_any 25 (enters_of Try.func25 (by kernel_rfl) rfl) rs' u.rs arA arB nrA nrB crA crB wz (H1.r.at hz) (H2.r.at hz) (fun x _ y a b k k2 c c2 w h1 h2 => eqrule_any x y a b k k2 c c2 w h1 h2))
  obtain ⟨qn, hqn⟩ : ∃ q, q = decide (ns' = u.ns) := ⟨_, rfl⟩
  obtain ⟨qp, hqp⟩ : ∃ q, q = decide (ps' = u.ps) := ⟨_, rfl⟩
  obtain ⟨qr, hqr⟩ : ∃ q, q = decide (rs' = u.rs) := ⟨_, rfl⟩
  rw [← hqn] at CN ⊢
  rw [← hqp] at CP ⊢
  rw [← hqr] at CR ⊢
  clear hqn hqp hqr H1 H2 ih
  have HBB := hid_of (((Below.refl w.heap.size w).alloc (Nat.le_refl _) (.cells #[.int .i64 kA, .int .i64 loA, .int .i64 hiA, .slice anA nnA cnA, .slice apA npA cpA, .slice arA nrA crA] 26)).alloc (by simp) (.cells #[.int .i64 kB, .int .i64 loB, .int .i64 hiB, .slice anB nnB cnB, .slice apB npB cpB, .slice arB nrB crB] 26))
  have HC : Hid (∀ w', Below ((w.alloc (.cells #[.int .i64 kA, .int .i64 loA, .int .i64 hiA, .slice anA nnA cnA, .slice apA npA cpA, .slice arA nrA crA] 26)).alloc (.cells #[.int .i64 kB, .int .i64 loB, .int .i64 hiB, .slice anB nnB cnB, .slice apB npB cpB, .slice arB nrB crB] 26)).heap.size ((w.alloc (.cells #[.int .i64 kA, .int .i64 loA, .int .i64 hiA, .slice anA nnA cnA, .slice apA npA cpA, .slice arA nrA crA] 26)).alloc (.cells #[.int .i64 kB, .int .i64 loB, .int .i64 hiB, .slice anB nnB cnB, .slice apB npB cpB, .slice arB nrB crB] 26)) w' →
      w'.cell? ⟨w.heap.size, 4, none⟩ = some (.slice apA npA cpA) ∧ w'.cell? ⟨w.heap.size + 1, 4, none⟩ = some (.slice apB npB cpB) ∧ w'.cell? ⟨w.heap.size, 5, none⟩ = some (.slice arA nrA crA) ∧ w'.cell? ⟨w.heap.size + 1, 5, none⟩ = some (.slice arB nrB crB)) := hid_of (fun w' h => by
    obtain ⟨b1, b2⟩ := two_new w (.cells #[.int .i64 kA, .int .i64 loA, .int .i64 hiA, .slice anA nnA cnA, .slice apA npA cpA, .slice arA nrA crA] 26) (.cells #[.int .i64 kB, .int .i64 loB, .int .i64 hiB, .slice anB nnB cnB, .slice apB npB cpB, .slice arB nrB crB] 26)
    exact ⟨blk_kept (cs := [.int .i64 kA, .int .i64 loA, .int .i64 hiA, .slice anA nnA cnA, .slice apA npA cpA, .slice arA nrA crA]) b1 h rfl, blk_kept (cs := [.int .i64 kB, .int .i64 loB, .int .i64 hiB, .slice anB nnB cnB, .slice apB npB cpB, .slice arB nrB crB]) b2 h rfl, blk_kept (cs := [.int .i64 kA, .int .i64 loA, .int .i64 hiA, .slice anA nnA cnA, .slice apA npA cpA, .slice arA nrA crA]) b1 h rfl, blk_kept (cs := [.int .i64 kB, .int .i64 loB, .int .i64 hiB, .slice anB nnB cnB, .slice apB npB cpB, .slice arB nrB crB]) b2 h rfl⟩)
  by_cases hk : kA = kB
  case neg =>
    have e1 : (kA == kB) = false := beq_eq_false_iff_ne.2 hk
    rw [decide_eq_false hk]
    simp only [Bool.false_and]
    clear hk
    go_enter Try.func8, Try.ntmps8
    go_wp2
    go_ret
    exact ⟨rfl, HBB.out⟩
  by_cases hlo : loA = loB
  case neg =>
    have e1 : (kA == kB) = true := beq_iff_eq.2 hk
    have e2 : (loA == loB) = false := beq_eq_false_iff_ne.2 hlo
    rw [decide_eq_false hlo]
    simp only [Bool.false_and, Bool.and_false]
    clear hk hlo
    go_enter Try.func8, Try.ntmps8
    go_wp2
    go_ret
    exact ⟨rfl, HBB.out⟩
  by_cases hhi : hiA = hiB
  case neg =>
    have e1 : (kA == kB) = true := beq_iff_eq.2 hk
    have e2 : (loA == loB) = true := beq_iff_eq.2 hlo
    have e3 : (hiA == hiB) = false := beq_eq_false_iff_ne.2 hhi
    rw [decide_eq_false hhi]
    simp only [Bool.false_and, Bool.and_false]
    clear hk hlo hhi
    go_enter Try.func8, Try.ntmps8
    go_wp2
    go_ret
    exact ⟨rfl, HBB.out⟩
  have e1 : (kA == kB) = true := beq_iff_eq.2 hk
  have e2 : (loA == loB) = true := beq_iff_eq.2 hlo
  have e3 : (hiA == hiB) = true := beq_iff_eq.2 hhi
  rw [decide_eq_true hk, decide_eq_true hlo, decide_eq_true hhi]
  simp only [Bool.true_and]
  clear hk hlo hhi
  cases qn
  · simp only [Bool.false_and]
    go_enter Try.func8, Try.ntmps8
    go_wp2_with (first | (go_at_call 22; ((with_reducible refine (CN.out _ HBB.out).mono ?_); (rintro e w2 ⟨rfl, h2⟩)); (have H2 := hid_of (HBB.out.trans (h2.mono HBB.out.size))); (have K2 := hid_of h2); (obtain ⟨p4, q4, p5, q5⟩ := HC.out w2 h2); clear h2))
    go_ret
    exact ⟨rfl, H2.out⟩
  cases qp
  · simp only [Bool.true_and, Bool.false_and]
    go_enter Try.func8, Try.ntmps8
    go_wp2_with (first | (go_at_call 22; ((with_reducible refine (CN.out _ HBB.out).mono ?_); (rintro e w2 ⟨rfl, h2⟩)); (have H2 := hid_of (HBB.out.trans (h2.mono HBB.out.size))); (have K2 := hid_of h2); (obtain ⟨p4, q4, p5, q5⟩ := HC.out w2 h2); clear h2) | (go_at_call 23; go_loud ((with_reducible refine (CP.out _ H2.out).mono ?_); (rintro e w3 ⟨rfl, h2⟩)); (have H3 := hid_of (H2.out.trans (h2.mono H2.out.size))); (obtain ⟨s4, t4, s5, t5⟩ := HC.out w3 (K2.out.trans (h2.mono K2.out.size))); clear h2 p4 q4 p5 q5))
    go_ret
    exact ⟨rfl, H3.out⟩
  · simp only [Bool.true_and]
    go_enter Try.func8, Try.ntmps8
    go_wp2_with (first | (go_at_call 22; ((with_reducible refine (CN.out _ HBB.out).mono ?_); (rintro e w2 ⟨rfl, h2⟩)); (have H2 := hid_of (HBB.out.trans (h2.mono HBB.out.size))); (have K2 := hid_of h2); (obtain ⟨p4, q4, p5, q5⟩ := HC.out w2 h2); clear h2) | (go_at_call 23; go_loud ((with_reducible refine (CP.out _ H2.out).mono ?_); (rintro e w3 ⟨rfl, h2⟩)); (have H3 := hid_of (H2.out.trans (h2.mono H2.out.size))); (obtain ⟨s4, t4, s5, t5⟩ := HC.out w3 (K2.out.trans (h2.mono K2.out.size))); clear h2 p4 q4 p5 q5) | (go_at_call 24; ((with_reducible refine (CR.out _ H3.out).mono ?_); (rintro e w4 ⟨rfl, h2⟩)); (have H4 := hid_of (H3.out.trans (h2.mono H3.out.size))); clear h2))
    go_ret
    exact ⟨rfl, H4.out⟩

end Go.Proofs.Ytdmonbcinlmljaa

/- Chain of package lattice. Bounds on sizes alone. -/
namespace Go.Proofs.Ytdmonbcinlmljaa
open Go.RowKit Go.Maps

theorem r64_wf {n : Int} (h : R64 n) : (Lit.int .i64 n).wf = true := by
  show (decide (IntKind.i64.min ≤ n) && decide (n ≤ IntKind.i64.max)) = true
  have h1 : IntKind.i64.min = -9223372036854775808 := by rfl
  have h2 : IntKind.i64.max = 9223372036854775807 := by rfl
  rw [h1, h2, decide_eq_true h.1, decide_eq_true h.2]
  rfl
theorem keyedI : Keyed Try.prog 3 := int_keyed Try.underlying3
theorem zeroB (w : World) : (zeroValue 4).run Try.prog w = .ok (.bool false) w := by kernel_rfl

/-- Block b is a map in which the keys of a list are true, and no others. -/
def MapI (w : World) (b n : Nat) (keys : List Int) : Prop :=
  ∃ D : DataW Unit, w.ownsMap Try.prog 3 (plainElem Try.prog 4) b n D ∧ IsMap D ∧ ∀ x : Int, D.atKey (.int .i64 x) (.lit (.bool false)) = .lit (.bool (decide (x ∈ keys)))
theorem mapI_made (w : World) : MapI (w.alloc (.map #[] 0)) w.heap.size 0 [] :=
  ⟨.map [], World.ownsMap_made w _ _ _, isMap_empty, fun x => by simp [DataW.atKey]⟩
theorem MapI.same {w w' : World} {b n : Nat} {keys : List Int} (h : MapI w b n keys) (hb : w'.heap[b]? = w.heap[b]?) : MapI w' b n keys := by
  obtain ⟨D, ⟨es, clock, h1, h2, h3, h4⟩, h5, h6⟩ := h
  exact ⟨D, ⟨es, clock, hb.trans h1, h2, h3, h4⟩, h5, h6⟩
theorem MapI.lt {w : World} {b n : Nat} {keys : List Int} (h : MapI w b n keys) : b < w.heap.size := by
  obtain ⟨D, h1, _⟩ := h; exact h1.lt
theorem MapI.at {w w' : World} {b n : Nat} {keys : List Int} (h : MapI w b n keys) (hb : Below w.heap.size w w') : MapI w' b n keys := h.same (hb.block b h.lt)
set_option maxRecDepth 100000 in
theorem plainElem_bool_inv {v : Value} {q : Bool} {ps : List MemPlace} (h : plainElem (H := Unit) Try.prog 4 v = some (.lit (.bool q), ps)) : v = .bool q := by
  unfold plainElem at h
  rw [Try.underlying4] at h
  split at h
  · rename_i x _ ; simp only [Option.some.injEq, Prod.mk.injEq, DataW.lit.injEq, Lit.bool.injEq] at h; rw [h.1]
  · rename_i e; cases e
  · rename_i e; cases e
  · cases h
theorem MapI.look {w : World} {b n : Nat} {keys : List Int} (h : MapI w b n keys) (x : Int) (hx : R64 x) :
    (Instr.lookup 66 (.map (some b)) (.int .i64 x) false).run Try.prog w = .ok (.bool (decide (x ∈ keys))) w := by
  obtain ⟨D, h1, h2, h3⟩ := h
  have hk : keyOf Try.prog 3 (.int .i64 x) = some (.int .i64 x) := keyOf_int_mk Try.underlying3 (r64_wf hx)
  obtain ⟨v, ps, hrun, hv⟩ := h1.lookup keyedI Try.underlying66 (zeroB w) (plainElem_bool Try.underlying4 false) hk
  rw [h3 x] at hv
  rw [hrun, plainElem_bool_inv hv]
theorem mapI_put {w' : World} {b n : Nat} {keys : List Int} {x : Int} {D : DataW Unit} (h1 : w'.ownsMap Try.prog 3 (plainElem Try.prog 4) b (n + 1) (D.put (.int .i64 x) (.lit (.bool true))))
    (h2 : IsMap D) (h3 : ∀ x : Int, D.atKey (.int .i64 x) (.lit (.bool false)) = .lit (.bool (decide (x ∈ keys)))) : MapI w' b (n + 1) (keys ++ [x]) := by
  refine ⟨_, h1, h2.put _ _, fun y => ?_⟩
  by_cases e : y = x
  · subst e
    rw [atKey_put_same h2 (by trivial)]
    simp
  · rw [atKey_put_other (by intro e2; cases e2; exact e rfl), h3]
    congr 3
    rw [List.mem_append, List.mem_singleton]
    simp [e]
/-- The store of a literal's entry, at the operation. -/
theorem wpList_ins {ops : Array Oper} {rest : List Oper} {o : Oper} {a : Act} {w : World} {Q : Exit → Act → World → Prop} (hg : o.guard = none) (m x v : Operand)
    (hop : o.op = Op.insert 66 m x v) (b n : Nat) (keys : List Int) (y : Int) (hm : a.eval m = .map (some b)) (hx : a.eval x = .int .i64 y) (hv : a.eval v = .bool true) (h : MapI w b n keys) (hn : n ≤ 1000000) (hy : R64 y)
    (hK : ∀ w', MapI w' b (n + 1) (keys ++ [y]) → w.grownBy w' (some b) → wpList Try.prog ops Q rest (a.put o.dst undef) w') : wpList Try.prog ops Q (o :: rest) a w := by
  obtain ⟨D, h1, h2, h3⟩ := h
  refine wpList_plain hg fun K' hK' => ?_
  obtain ⟨w', hrun, r1, r2⟩ := h1.update keyedI Try.underlying66 (by unfold maxLen; omega) (keyOf_int_mk Try.underlying3 (r64_wf hy) : keyOf Try.prog 3 (.int .i64 y) = some (.int .i64 y)) (plainElem_bool Try.underlying4 true)
  unfold Oper.wp
  simp [execOp, hop, hm, hx, hv, hrun, Result.andThen]
  exact hK' _ _ (hK w' (mapI_put r1 h2 h3) r2)

set_option maxRecDepth 100000 in
set_option maxHeartbeats 3200000 in
theorem kinds_any (w : World) : Calls Try.prog 38 #[] w (fun e w' => ∃ b, e = .returned (.map (some b)) ∧ Below w.heap.size w w' ∧ MapI w' b 3 [1, 2, 3]) := by
  have hmm := @run_makeMap Try.prog
  have HM := hid_of (mapI_made w)
  have HB := hid_of (bel_alloc w (.map #[] 0))
  go_enter Try.func38, Try.ntmps38
  go_wp2_with (first
    | ((refine wpList_ins rfl _ _ _ rfl w.heap.size 0 [] 1 rfl rfl rfl HM.out (by omega) ⟨by omega, by omega⟩ ?_); intro w1 hm1 hg1; (have M1 := hid_of hm1); (have B1 := hid_of (HB.out.grown hg1 (by simp) (fun k hk => by cases hk; omega))); clear hm1 hg1)
    | ((refine wpList_ins rfl _ _ _ rfl w.heap.size 1 [1] 2 rfl rfl rfl M1.out (by omega) ⟨by omega, by omega⟩ ?_); intro w2 hm1 hg1; (have M2 := hid_of hm1); (have B2 := hid_of (B1.out.grown hg1 B1.out.size (fun k hk => by cases hk; omega))); clear hm1 hg1)
    | ((refine wpList_ins rfl _ _ _ rfl w.heap.size 2 [1, 2] 3 rfl rfl rfl M2.out (by omega) ⟨by omega, by omega⟩ ?_); intro w3 hm1 hg1; (have M3 := hid_of hm1); (have B3 := hid_of (B2.out.grown hg1 B2.out.size (fun k hk => by cases hk; omega))); clear hm1 hg1))
  go_ret
  exact ⟨_, rfl, B3.out, M3.out⟩
end Go.Proofs.Ytdmonbcinlmljaa

/- A map from strings to booleans that a call makes, as a set of keys. Bounds on sizes alone. -/
namespace Go.Proofs.Ytdmonbcinlmljaa
open Go.RowKit Go.Maps

theorem keyedS : Keyed Try.prog 9 := string_keyed Try.underlying9
/-- Block b is a map in which the keys of a list are true, and no others. -/
def MapS (w : World) (b n : Nat) (keys : List Str) : Prop :=
  ∃ D : DataW Unit, w.ownsMap Try.prog 9 (plainElem Try.prog 4) b n D ∧ IsMap D ∧ ∀ x : Str, D.atKey (.string x) (.lit (.bool false)) = .lit (.bool (decide (x ∈ keys)))
theorem mapS_made (w : World) : MapS (w.alloc (.map #[] 0)) w.heap.size 0 [] :=
  ⟨.map [], World.ownsMap_made w _ _ _, isMap_empty, fun x => by simp [DataW.atKey]⟩
theorem MapS.same {w w' : World} {b n : Nat} {keys : List Str} (h : MapS w b n keys) (hb : w'.heap[b]? = w.heap[b]?) : MapS w' b n keys := by
  obtain ⟨D, ⟨es, clock, h1, h2, h3, h4⟩, h5, h6⟩ := h
  exact ⟨D, ⟨es, clock, hb.trans h1, h2, h3, h4⟩, h5, h6⟩
theorem MapS.lt {w : World} {b n : Nat} {keys : List Str} (h : MapS w b n keys) : b < w.heap.size := by
  obtain ⟨D, h1, _⟩ := h; exact h1.lt
theorem MapS.look {w : World} {b n : Nat} {keys : List Str} (h : MapS w b n keys) (x : Str) (hx : x.length ≤ 9223372036854775807) :
    (Instr.lookup 89 (.map (some b)) (.string (ba x)) false).run Try.prog w = .ok (.bool (decide (x ∈ keys))) w := by
  obtain ⟨D, h1, h2, h3⟩ := h
  have hk : keyOf Try.prog 9 (.string (ba x)) = some (.string x) := Go.WideMaps.keyOf_string_mk Try.underlying9 (by show x.toArray.size ≤ maxLen; unfold maxLen; simp; omega)
  obtain ⟨v, ps, hrun, hv⟩ := h1.lookup keyedS Try.underlying89 (zeroB w) (plainElem_bool Try.underlying4 false) hk
  rw [h3 x] at hv
  rw [hrun, plainElem_bool_inv hv]
theorem mapS_put {w' : World} {b n : Nat} {keys : List Str} {x : Str} {D : DataW Unit} (h1 : w'.ownsMap Try.prog 9 (plainElem Try.prog 4) b (n + 1) (D.put (.string x) (.lit (.bool true))))
    (h2 : IsMap D) (h3 : ∀ x : Str, D.atKey (.string x) (.lit (.bool false)) = .lit (.bool (decide (x ∈ keys)))) : MapS w' b (n + 1) (keys ++ [x]) := by
  refine ⟨_, h1, h2.put _ _, fun y => ?_⟩
  by_cases e : y = x
  · subst e
    rw [atKey_put_same h2 (by trivial)]
    simp
  · rw [atKey_put_other (by intro e2; cases e2; exact e rfl), h3]
    congr 3
    rw [List.mem_append, List.mem_singleton]
    simp [e]
/-- The store at the operation. -/
theorem wpList_put {ops : Array Oper} {rest : List Oper} {o : Oper} {a : Act} {w : World} {Q : Exit → Act → World → Prop} (hg : o.guard = none) (m x v : Operand)
    (hop : o.op = Op.mapUpdate 89 m x v) (b n : Nat) (keys : List Str) (y : Str) (hm : a.eval m = .map (some b)) (hx : a.eval x = .string (ba y)) (hv : a.eval v = .bool true) (h : MapS w b n keys) (hn : n < 9223372036854775807) (hy : y.length ≤ 9223372036854775807)
    (hK : ∀ w', MapS w' b (n + 1) (keys ++ [y]) → w.grownBy w' (some b) → wpList Try.prog ops Q rest (a.put o.dst undef) w') : wpList Try.prog ops Q (o :: rest) a w := by
  obtain ⟨D, h1, h2, h3⟩ := h
  refine wpList_mapUpdate_own w hg m x v 89 hop 9 4 keyedS Try.underlying89 _ b n D hm h1 (by unfold maxLen; omega) (.string (ba y)) (.bool true) (.string y) hx hv
    (Go.WideMaps.keyOf_string_mk Try.underlying9 (by show y.toArray.size ≤ maxLen; unfold maxLen; simp; omega)) (.lit (.bool true)) [] (plainElem_bool Try.underlying4 true) (fun w' hown hgrow => hK w' (mapS_put hown h2 h3) hgrow)
end Go.Proofs.Ytdmonbcinlmljaa

/- slices.Grow of nil, slices.Concat of two slices of strings. Bounds on sizes alone. -/
namespace Go.Proofs.Ytdmonbcinlmljaa
open Go.RowKit

theorem ow_zero {w : World} {C c : Nat} {cs : Array Value} (hc : cs.size = C) (hm : C ≤ maxLen) (hC : c = C) :
    Ow 9 w.heap.size w (w.drew.alloc (.cells cs 9)) (.slice (some ⟨w.heap.size, 0, none⟩) 0 c) [] := by
  subst hC
  refine ⟨Nat.le_refl _, (Below.refl _ w).drew.alloc (Nat.le_refl _) _, rfl, .inr ⟨w.heap.size, c, cs, rfl, Nat.le_refl _, ?_, Nat.zero_le _, hm, by omega, by simp⟩⟩
  exact heap_alloc_new w.drew _

set_option maxRecDepth 100000 in
theorem grow_any (n : Nat) (w : World) (hn : n ≤ 8796093022208) :
    Calls Try.prog 74 #[.slice none 0 0, .int .i64 n] w fun e w' => ∃ xo xc, e = .returned (.slice xo 0 xc) ∧ Ow 9 w.heap.size w w' (.slice xo 0 xc) [] := by
  obtain ⟨i0, hi, hz0, hz1, hz2⟩ := info_parts strsE.info
  have d0 : decide ((n : Int) < 0) = false := by simp
  by_cases h0 : n = 0
  · subst h0
    go_enter Try.func74, Try.ntmps74
    go_wp2
    go_ret
    exact ⟨none, 0, rfl, ow_nil _ _⟩
  · have d1 : decide (0 < n) = true := by simp; omega
    have HH := hid_of (Lib.run_append_nil_zeros (P := Try.prog) w 22 3 22 9 i0 (.string ⟨#[]⟩) .i64 .i64 Try.underlying22 Try.underlying3 hi hz0 n (by omega) (by omega) (by omega) (by rw [hz2]; omega))
    have hgc := grownCap_le_maxLen w n 0 9 (by unfold maxLen; omega)
    have hge := grownCap_ge w n 0 9
    obtain ⟨C, hC⟩ : ∃ C, C = grownCap w n 0 9 := ⟨_, rfl⟩
    rw [← hC] at HH hgc hge
    obtain ⟨cs, hcs⟩ : ∃ cs, cs = Builtin.zeroCells (Value.string ⟨#[]⟩).cells n ++ Builtin.zeroCells (Value.string ⟨#[]⟩).cells (C - n) := ⟨_, rfl⟩
    rw [← hcs] at HH
    have HCS : Hid (cs.size = C) := hid_of (by
      rw [hcs, Array.size_append, size_zeroCells, size_zeroCells, show (Value.string ⟨#[]⟩).cells.size = 1 from rfl]; omega)
    have HM := hid_of hgc
    have hC0 : (0 : Int) ≤ (C : Int) := by omega
    have hCm : C ≤ 9223372036854775807 := by unfold maxLen at hgc; exact hgc
    clear hcs hC hgc hge hi hz0 hz1 hz2
    go_enter Try.func74, Try.ntmps74
    go_wp2_with (at_builtin; refine Lib.wpList_append_run _ rfl _ _ _ _ rfl _ _ rfl rfl _ _ HH.out ?_)
    go_ret
    exact ⟨_, C, rfl, ow_zero HCS.out HM.out rfl⟩

/-- What Concat has collected after k slices. -/
def catK (a b : List Str) : Nat → List Str
  | 0 => []
  | 1 => a
  | _ => a ++ b
theorem catK_len (a b : List Str) (k : Nat) : (catK a b k).length ≤ a.length + b.length := by
  match k with
  | 0 => simp [catK]
  | 1 => simp [catK]
  | (k + 2) => simp [catK]

set_option maxRecDepth 100000 in
set_option maxHeartbeats 800000 in
theorem concat_any (g : Nat) (ao : Option Addr) (n cap : Nat) (bo : Option Addr) (m cap2 : Nat) (a b : List Str) (w : World) (Ra : Rd w (.slice ao n cap) (ss a)) (Rb : Rd w (.slice bo m cap2) (ss b)) (hab : a.length + b.length ≤ 8796093022208) (hg : g < w.heap.size)
    (c0 : w.cell? ⟨g, 0, none⟩ = some (.slice ao n cap)) (c1 : w.cell? ⟨g, 1, none⟩ = some (.slice bo m cap2)) :
    Calls Try.prog 64 #[.slice (some ⟨g, 0, none⟩) 2 2] w fun e w' => ∃ xo xc, e = .returned (.slice xo (a ++ b).length xc) ∧ Ow 9 w.heap.size w w' (.slice xo (a ++ b).length xc) (ss (a ++ b)) := by
  have hn := (rds_open Ra).1
  have hm := (rds_open Rb).1
  have HRA := hid_of Ra
  have HRB := hid_of Rb
  have hnm9 : n + m ≤ 8796093022208 := by omega
  have HN := hid_of hn
  have HM := hid_of hm
  have GR := hid_of (fun s w h => grow_any s w h)
  obtain ⟨D, hD⟩ : ∃ D, D = catK a b := ⟨_, rfl⟩
  have HD := hid_of hD
  have HC0 := hid_of c0
  have HC1 := hid_of c1
  have HNM := hid_of hnm9
  clear Ra Rb hab hn hm hD
  go_enter Try.func64, Try.ntmps64
  go_wp2
  go_loop [3, 5, 11] (fun zv fv iv => ∃ (k s : Nat) (v : Value), zv = .int .i64 s ∧ fv = v ∧ iv = .int .i64 k ∧ s ≤ 8796093022208 ∧ ((k = 0 ∧ s = 0) ∨ (k = 1 ∧ s = n) ∨ (k = 2 ∧ s = n + m))) (fun _ _ iv => 2 - (intOf iv).toNat)
  case atStart => exact ⟨0, 0, _, rfl, rfl, rfl, by omega, .inl ⟨rfl, rfl⟩⟩
  case round =>
    obtain ⟨k, s, v, rfl, rfl, rfl, hs9, hks⟩ := hrel
    rcases hks with ⟨rfl, rfl⟩ | ⟨rfl, rfl⟩ | ⟨rfl, hsz⟩
    · go_wp2
      go_round
      case rel => exact ⟨1, n, _, by go_num, rfl, rfl, by omega, .inr (.inl ⟨rfl, rfl⟩)⟩
      case measure => simp [intOf]
    · have d1 : decide (((s + m : Nat) : Int) < 0) = false := by simp; omega
      go_wp2
      go_round
      case rel => exact ⟨2, s + m, _, by go_num, rfl, rfl, by omega, .inr (.inr ⟨rfl, rfl⟩)⟩
      case measure => simp [intOf]
    · clear c0 c1 hsz
      go_wp2_with (go_at_call 74; ((with_reducible refine (GR.out s w hs9).mono ?_); (rintro e w1 ⟨xo1, xc1, rfl, h1⟩; have O1 := hid_of h1; clear h1)))
      go_loopw [6, 8, 27] (fun sv fv iv wr => ∃ (k : Nat) (xo : Option Addr) (xc : Nat) (v : Value), fv = v ∧ iv = .int .i64 k ∧ k ≤ 2 ∧ sv = .slice xo (D k).length xc ∧ Hid (Ow 9 w.heap.size w wr (.slice xo (D k).length xc) (ss (D k)))) (fun _ _ iv _ => 2 - (intOf iv).toNat)
      case atStart => exact ⟨0, xo1, xc1, _, rfl, rfl, by omega, by rw [HD.out]; rfl, hid_of (by rw [HD.out]; exact O1.out)⟩
      case round =>
        obtain ⟨k, xo, xc, v2, rfl, rfl, hk, rfl, how⟩ := hrel
        have HDL : Hid ((D k).length ≤ 8796093022208 ∧ (k = 0 → (D k).length = 0) ∧ (k = 1 → (D k).length = n)) := hid_of ⟨by have := catK_len a b k; rw [HD.out]; have := HN.out; have := HM.out; have := HNM.out; omega, fun h => by rw [HD.out, h]; rfl, fun h => by rw [HD.out, h]; exact HN.out.symm⟩
        have hcase : k = 0 ∨ k = 1 ∨ k = 2 := by omega
        obtain ⟨dk, hdk⟩ : ∃ d, d = D k := ⟨_, rfl⟩
        rw [← hdk] at how HDL ⊢
        have HDK := hid_of hdk
        clear hdk
        rcases hcase with rfl | rfl | rfl
        · have c0 := (how.out.bel.cell (p := ⟨g, 0, none⟩) hg).trans HC0.out
          have STEP : Hid (D 1 = dk ++ a) := hid_of (by rw [HDK.out, HD.out]; rfl)
          have RX := hid_of (HRA.out.at how.out.bel)
          go_wp2_with (at_builtin; ((refine wpList_app strsE rfl _ _ rfl (v := .slice xo dk.length xc) rfl how.out (vx := .slice ao n cap) rfl RX.out (ss_one _) (by rw [ss_length, ss_length]; have := HDL.out.2.1 rfl; have := HN.out; have := HNM.out; omega) (by rw [ss_length, ss_length]; have := HDL.out.2.1 rfl; have := HN.out; have := HNM.out; omega) ?_); intro xo3 n3 c3 w3 hn3 h3; have X3 : Hid (n3 = (dk ++ a).length ∧ Ow 9 w.heap.size w w3 (.slice xo3 n3 c3) (ss (dk ++ a))) := hid_of ⟨by rw [hn3, ss_length, ss_length]; simp, by rw [ss_append]; exact h3⟩; clear h3 hn3))
          go_roundw
          case rel => exact ⟨1, xo3, c3, _, rfl, rfl, by omega, by rw [STEP.out, X3.out.1], hid_of (by rw [STEP.out, ← X3.out.1]; exact X3.out.2)⟩
          case measure => simp [intOf]
        · have c1 := (how.out.bel.cell (p := ⟨g, 1, none⟩) hg).trans HC1.out
          have STEP : Hid (D 2 = dk ++ b) := hid_of (by rw [HDK.out, HD.out]; rfl)
          have RX := hid_of (HRB.out.at how.out.bel)
          go_wp2_with (at_builtin; ((refine wpList_app strsE rfl _ _ rfl (v := .slice xo dk.length xc) rfl how.out (vx := .slice bo m cap2) rfl RX.out (ss_one _) (by rw [ss_length, ss_length]; have := HDL.out.2.2 rfl; have := HM.out; have := HNM.out; omega) (by rw [ss_length, ss_length]; have := HDL.out.2.2 rfl; have := HM.out; have := HNM.out; omega) ?_); intro xo3 n3 c3 w3 hn3 h3; have X3 : Hid (n3 = (dk ++ b).length ∧ Ow 9 w.heap.size w w3 (.slice xo3 n3 c3) (ss (dk ++ b))) := hid_of ⟨by rw [hn3, ss_length, ss_length]; simp, by rw [ss_append]; exact h3⟩; clear h3 hn3))
          go_roundw
          case rel => exact ⟨2, xo3, c3, _, rfl, rfl, by omega, by rw [STEP.out, X3.out.1], hid_of (by rw [STEP.out, ← X3.out.1]; exact X3.out.2)⟩
          case measure => simp [intOf]
        · have HF : Hid (dk = a ++ b) := hid_of (by rw [HDK.out, HD.out]; rfl)
          go_wp2
          go_ret
          exact ⟨xo, xc, by rw [HF.out] <;> rfl, by rw [← HF.out]; exact how.out⟩

end Go.Proofs.Ytdmonbcinlmljaa

/- isChain and Chain of package lattice. Bounds on sizes alone. -/
namespace Go.Proofs.Ytdmonbcinlmljaa
open Go.RowKit Go.Maps

theorem undrew {w w' : World} (h : Below w.drew.heap.size w.drew w') : Below w.heap.size w w' := ⟨h.os, h.tape, h.output, h.size, h.block⟩
theorem kin3 (k : Int) : decide (k ∈ [(1 : Int), 2, 3]) = decide (k = 1 ∨ k = 2 ∨ k = 3) := by simp
set_option maxRecDepth 100000 in
set_option maxHeartbeats 3200000 in
theorem ischain_any : ∀ (t : Lat) (k lo hi : Int) (an : Option Addr) (nn cn : Nat) (ap : Option Addr) (np cp : Nat) (ar : Option Addr) (nr cr : Nat) (b : Nat) (w : World), LO w k lo hi an nn cn ap np cp ar nr cr t → MapI w b 3 [1, 2, 3] → Calls Try.prog 37 #[.agg #[.int .i64 k, .int .i64 lo, .int .i64 hi, .slice an nn cn, .slice ap np cp, .slice ar nr cr], .map (some b)] w (BoP (chainL t) w) := by
  refine lat_ind ?_
  intro k' lo' hi' ns' ps' rs' ih k lo hi an nn cn ap np cp ar nr cr b w H hm
  obtain rfl : k = k' := H.hk
  have HB := hid_of (bel_alloc w (.cells #[.int .i64 k, .int .i64 lo, .int .i64 hi, .slice an nn cn, .slice ap np cp, .slice ar nr cr] 26))
  rw [chainL]
  by_cases h7 : k = 7
  case neg =>
    have hlk := (hm.at HB.out).look k H.rk
    rw [kin3] at hlk
    rw [if_neg h7]
    obtain ⟨q, hq⟩ : ∃ q, q = decide (k = 1 ∨ k = 2 ∨ k = 3) := ⟨_, rfl⟩
    rw [← hq] at hlk ⊢
    have e7 : (k == 7) = false := beq_eq_false_iff_ne.2 h7
    clear hq h7 H hm ih
    go_enter Try.func37, Try.ntmps37
    go_wp2
    go_ret
    exact ⟨rfl, HB.out⟩
  subst h7
  rw [if_pos rfl, chainsL_all]
  have hl := H.p.len
  simp only [Lat.ps] at hl
  by_cases h2 : np = 2
  case neg =>
    have e2 : (np == 2) = false := beq_eq_false_iff_ne.2 h2
    have e3 : ((np : Int) == 2) = false := beq_eq_false_iff_ne.2 (by omega)
    rw [decide_eq_false (by omega), Bool.false_and]
    clear h2 hl H hm ih
    go_enter Try.func37, Try.ntmps37
    go_wp2
    go_ret
    exact ⟨rfl, HB.out⟩
  subst h2
  rw [decide_eq_true hl.1.symm, Bool.true_and]
  obtain ⟨p0, p1, rfl⟩ : ∃ p0 p1, ps' = [p0, p1] := by
    match ps', hl.1 with
    | [a, b], _ => exact ⟨a, b, rfl⟩
  obtain ⟨g, o, kA, loA, hiA, anA, nnA, cnA, apA, npA, cpA, arA, nrA, crA, rfl, LA, hcA⟩ := H.p.get (show [p0, p1][0]? = some p0 from rfl)
  obtain ⟨gB, oB, kB, loB, hiB, anB, nnB, cnB, apB, npB, cpB, arB, nrB, crB, eB, LB, hcB⟩ := H.p.get (show [p0, p1][1]? = some p1 from rfl)
  simp only [Option.some.injEq, Addr.mk.injEq, and_true] at eB
  obtain ⟨rfl, rfl⟩ := eB
  have CA := hid_of (fun (wz : World) (hz : Below w.heap.size w wz) => ih p0 (by simp) kA loA hiA anA nnA cnA apA npA cpA arA nrA crA b wz (LA.at hz) (hm.at hz))
  have CB := hid_of (fun (wz : World) (hz : Below w.heap.size w wz) => ih p1 (by simp) kB loB hiB anB nnB cnB apB npB cpB arB nrB crB b wz (LB.at hz) (hm.at hz))
  simp only [List.all_cons, List.all_nil, Bool.and_true]
  obtain ⟨qa, hqa⟩ : ∃ q, q = chainL p0 := ⟨_, rfl⟩
  obtain ⟨qb, hqb⟩ : ∃ q, q = chainL p1 := ⟨_, rfl⟩
  rw [← hqa] at CA ⊢
  rw [← hqb] at CB ⊢
  obtain ⟨a0, a1, a2, a3, a4, a5⟩ := hcA _ HB.out
  have HC : Hid (∀ w', Below (w.alloc (.cells #[.int .i64 7, .int .i64 lo, .int .i64 hi, .slice an nn cn, .slice (some ⟨g, o, none⟩) 2 cp, .slice ar nr cr] 26)).heap.size (w.alloc (.cells #[.int .i64 7, .int .i64 lo, .int .i64 hi, .slice an nn cn, .slice (some ⟨g, o, none⟩) 2 cp, .slice ar nr cr] 26)) w' → w'.cell? ⟨w.heap.size, 4, none⟩ = some (.slice (some ⟨g, o, none⟩) 2 cp)) := hid_of (fun w' h =>
    blk_kept (cs := [.int .i64 7, .int .i64 lo, .int .i64 hi, .slice an nn cn, .slice (some ⟨g, o, none⟩) 2 cp, .slice ar nr cr]) (heap_alloc_new w _) h rfl)
  have HCB := hid_of hcB
  clear hqa hqb hcA hcB H hm ih hl LA LB
  simp only [Nat.zero_mul, Nat.one_mul, Nat.add_zero] at a0 a1 a2 a3 a4 a5 HCB
  cases qa
  · rw [Bool.false_and]
    go_enter Try.func37, Try.ntmps37
    go_wp2_with (go_at_call 37; ((with_reducible refine (CA.out _ HB.out).mono ?_); (rintro e w2 ⟨rfl, h2⟩)); (have H2 := hid_of (HB.out.trans (h2.mono HB.out.size))); clear h2)
    go_ret
    exact ⟨rfl, H2.out⟩
  · rw [Bool.true_and]
    go_enter Try.func37, Try.ntmps37
    go_wp2_with (first
      | (go_at_call 37; ((with_reducible refine (CA.out _ HB.out).mono ?_); (rintro e w2 ⟨rfl, h2⟩)); (have H2 := hid_of (HB.out.trans (h2.mono HB.out.size))); (have s4 := HC.out w2 h2); (obtain ⟨b0, b1, b2, b3, b4, b5⟩ := HCB.out w2 H2.out); clear h2)
      | (go_at_call 37; ((with_reducible refine (CB.out _ H2.out).mono ?_); (rintro e w3 ⟨rfl, h3⟩)); (have H3 := hid_of (H2.out.trans (h3.mono H2.out.size))); clear h3))
    go_ret
    exact ⟨rfl, H3.out⟩
set_option maxRecDepth 100000 in
set_option maxHeartbeats 3200000 in
theorem chain_any (t : Lat) (k lo hi : Int) (an : Option Addr) (nn cn : Nat) (ap : Option Addr) (np cp : Nat) (ar : Option Addr) (nr cr : Nat) (w : World) (H : LO w k lo hi an nn cn ap np cp ar nr cr t) : Calls Try.prog 14 #[.agg #[.int .i64 k, .int .i64 lo, .int .i64 hi, .slice an nn cn, .slice ap np cp, .slice ar nr cr]] w (BoP (chainL t) w) := by
  have HB := hid_of (bel_alloc w (.cells #[.int .i64 k, .int .i64 lo, .int .i64 hi, .slice an nn cn, .slice ap np cp, .slice ar nr cr] 26))
  have HH := hid_of H
  have HC : Hid (∀ w', Below (w.alloc (.cells #[.int .i64 k, .int .i64 lo, .int .i64 hi, .slice an nn cn, .slice ap np cp, .slice ar nr cr] 26)).heap.size (w.alloc (.cells #[.int .i64 k, .int .i64 lo, .int .i64 hi, .slice an nn cn, .slice ap np cp, .slice ar nr cr] 26)) w' → w'.cell? ⟨w.heap.size, 0, none⟩ = some (.int .i64 k) ∧ w'.cell? ⟨w.heap.size, 1, none⟩ = some (.int .i64 lo) ∧ w'.cell? ⟨w.heap.size, 2, none⟩ = some (.int .i64 hi) ∧ w'.cell? ⟨w.heap.size, 3, none⟩ = some (.slice an nn cn) ∧ w'.cell? ⟨w.heap.size, 4, none⟩ = some (.slice ap np cp) ∧ w'.cell? ⟨w.heap.size, 5, none⟩ = some (.slice ar nr cr)) := hid_of (fun w' h =>
    ⟨blk_kept (cs := [.int .i64 k, .int .i64 lo, .int .i64 hi, .slice an nn cn, .slice ap np cp, .slice ar nr cr]) (heap_alloc_new w _) h rfl, blk_kept (cs := [.int .i64 k, .int .i64 lo, .int .i64 hi, .slice an nn cn, .slice ap np cp, .slice ar nr cr]) (heap_alloc_new w _) h rfl, blk_kept (cs := [.int .i64 k, .int .i64 lo, .int .i64 hi, .slice an nn cn, .slice ap np cp, .slice ar nr cr]) (heap_alloc_new w _) h rfl, blk_kept (cs := [.int .i64 k, .int .i64 lo, .int .i64 hi, .slice an nn cn, .slice ap np cp, .slice ar nr cr]) (heap_alloc_new w _) h rfl, blk_kept (cs := [.int .i64 k, .int .i64 lo, .int .i64 hi, .slice an nn cn, .slice ap np cp, .slice ar nr cr]) (heap_alloc_new w _) h rfl, blk_kept (cs := [.int .i64 k, .int .i64 lo, .int .i64 hi, .slice an nn cn, .slice ap np cp, .slice ar nr cr]) (heap_alloc_new w _) h rfl⟩)
  clear H
  go_enter Try.func14, Try.ntmps14
  go_wp2
  go_region_with (first
    | (go_at_call 38; ((with_reducible refine (kinds_any _).mono ?_); (rintro e w2 ⟨b, rfl, h2, hm⟩)); (have K2 := hid_of (undrew h2)); (have M2 := hid_of hm); (obtain ⟨s0, s1, s2, s3, s4, s5⟩ := HC.out w2 K2.out); clear h2 hm)
    | (go_at_call 37; ((with_reducible refine (ischain_any t k lo hi an nn cn ap np cp ar nr cr b w2 (HH.out.at (HB.out.trans (K2.out.mono HB.out.size))) M2.out).mono ?_); (rintro e w3 ⟨rfl, h3⟩); (have H3 := hid_of h3); clear h3)))
  all_goals go_wp2
  all_goals go_ret
  all_goals exact ⟨rfl, HB.out.trans ((K2.out.trans (H3.out.mono K2.out.size)).mono HB.out.size)⟩
end Go.Proofs.Ytdmonbcinlmljaa

/- isNamed of package lattice. Bounds on sizes alone. -/
namespace Go.Proofs.Ytdmonbcinlmljaa
open Go.RowKit Go.Maps

theorem nodup_next {l : List Str} {i : Nat} {x : Str} (h : (l.take i).Nodup) (hx : l[i]? = some x) (hn : x ∉ l.take i) : (l.take (i + 1)).Nodup := by
  rw [take_next hx, List.nodup_append]
  refine ⟨h, by simp, fun a ha b hb => ?_⟩
  simp at hb
  subst hb
  exact fun e => hn (e ▸ ha)
theorem nodup_bad {l : List Str} {i : Nat} {x : Str} (hx : l[i]? = some x) (hn : x ∈ l.take i) : ¬ l.Nodup := by
  intro h
  have h2 : (l.take (i + 1)).Nodup := h.sublist (List.take_sublist _ _)
  rw [take_next hx, List.nodup_append] at h2
  exact h2.2.2 x hn x (by simp) rfl
theorem named_inv {t : Lat} {i : Nat} {x : Str} (hx : t.ns[i]? = some x) (h : nameB x = false) : namesB t = false := by
  unfold namesB
  have : t.ns.all nameB = false := by
    rw [Bool.eq_false_iff]; intro h2; rw [List.all_eq_true] at h2
    rw [h2 x (List.mem_of_getElem? hx)] at h; cases h
  rw [this, Bool.false_and, Bool.false_and]
theorem named_dup {t : Lat} {i : Nat} {x : Str} (hx : t.ns[i]? = some x) (hn : x ∈ t.ns.take i) : namesB t = false := by
  unfold namesB
  rw [decide_eq_false (nodup_bad hx hn), Bool.and_false, Bool.false_and]
theorem named_end {t : Lat} {n : Nat} (hn : n = t.ns.length) (h : ∀ x ∈ t.ns.take n, nameB x = true) (h2 : (t.ns.take n).Nodup) : namesB t = (decide (t.k = 6) || ssB t.ns) := by
  subst hn
  rw [List.take_length] at h h2
  unfold namesB
  rw [List.all_eq_true.2 h, decide_eq_true h2, Bool.true_and, Bool.true_and]
theorem box_in {w w' : World} {o : Obj} {S : Nat → Prop} {cs : List Value} {E : TypeId} {m : Nat × Nat} (h : Kept S ((w.alloc (.cells cs.toArray E m)).alloc o) w') (hS : ¬ S w.heap.size) {j : Nat} {u : Value} (hu : cs[j]? = some u) : w'.cell? ⟨w.heap.size, j, none⟩ = some u := by
  have hb := (h.block w.heap.size (by simp; omega) hS).trans (two_new w (.cells cs.toArray E m) o).1
  have := World.news_of_block hb j u (by simpa using hu)
  rw [Addr.add_mid, Nat.zero_add] at this
  exact this
set_option maxRecDepth 100000 in
set_option maxHeartbeats 3200000 in
theorem named_any (t : Lat) (k lo hi : Int) (an : Option Addr) (nn cn : Nat) (ap : Option Addr) (np cp : Nat) (ar : Option Addr) (nr cr : Nat) (w : World) (H : LO w k lo hi an nn cn ap np cp ar nr cr t) (hnn : nn ≤ 1000000) : Calls Try.prog 42 #[.agg #[.int .i64 k, .int .i64 lo, .int .i64 hi, .slice an nn cn, .slice ap np cp, .slice ar nr cr]] w (BoP (namesB t) w) := by
  obtain ⟨r, hr⟩ : ∃ r, r = namesB t := ⟨_, rfl⟩
  rw [← hr]
  have HR := hid_of hr
  have HH := hid_of H
  have HN := hid_of H.ln
  have HRD := hid_of (rds_open H.n)
  have hmm := @run_makeMap Try.prog
  have HK : Hid (k = t.k) := hid_of H.hk
  have HM0 : Hid (MapS ((w.alloc (.cells #[.int .i64 k, .int .i64 lo, .int .i64 hi, .slice an nn cn, .slice ap np cp, .slice ar nr cr] 26)).alloc (.map #[] 0)) (w.heap.size + 1) 0 []) := hid_of (by have := mapS_made (w.alloc (.cells #[.int .i64 k, .int .i64 lo, .int .i64 hi, .slice an nn cn, .slice ap np cp, .slice ar nr cr] 26)); rwa [show (w.alloc (.cells #[.int .i64 k, .int .i64 lo, .int .i64 hi, .slice an nn cn, .slice ap np cp, .slice ar nr cr] 26)).heap.size = w.heap.size + 1 by simp] at this)
  have HBX : Hid (∀ w', Kept (fun k => k = w.heap.size + 1) ((w.alloc (.cells #[.int .i64 k, .int .i64 lo, .int .i64 hi, .slice an nn cn, .slice ap np cp, .slice ar nr cr] 26)).alloc (.map #[] 0)) w' → Below w.heap.size w w' ∧ w'.cell? ⟨w.heap.size, 0, none⟩ = some (.int .i64 k) ∧ w'.cell? ⟨w.heap.size, 3, none⟩ = some (.slice an nn cn)) := hid_of (fun w' h =>
    ⟨(((Below.refl w.heap.size w).alloc (Nat.le_refl _) _).alloc (by simp) _).trans (h.below (by simp; omega) (fun k hk => by omega)), box_in (cs := [.int .i64 k, .int .i64 lo, .int .i64 hi, .slice an nn cn, .slice ap np cp, .slice ar nr cr]) h (by omega) rfl, box_in (cs := [.int .i64 k, .int .i64 lo, .int .i64 hi, .slice an nn cn, .slice ap np cp, .slice ar nr cr]) h (by omega) rfl⟩)
  obtain ⟨W1, hW1⟩ : ∃ W1, W1 = ((w.alloc (.cells #[.int .i64 k, .int .i64 lo, .int .i64 hi, .slice an nn cn, .slice ap np cp, .slice ar nr cr] 26)).alloc (.map #[] 0)) := ⟨_, rfl⟩
  rw [← hW1] at HM0 HBX
  have HW1 := hid_of hW1
  clear hr H
  go_enter Try.func42, Try.ntmps42
  clear hW1
  go_wp2
  clear hmm
  go_loopw [5, 10] (fun sv iv wr => ∃ (i : Nat) (v : Value), sv = v ∧ iv = .int .i64 i ∧ i ≤ nn ∧ Hid (MapS wr (w.heap.size + 1) i (t.ns.take i)) ∧ Hid (Kept (fun k => k = w.heap.size + 1) W1 wr) ∧ Hid ((∀ x ∈ t.ns.take i, nameB x = true) ∧ (t.ns.take i).Nodup)) (fun _ iv _ => nn - (intOf iv).toNat)
  case atStart => exact ⟨0, _, rfl, rfl, Nat.zero_le _, hid_of (by rw [← HW1.out]; exact HM0.out), hid_of (by rw [← HW1.out]; exact Kept.refl _ _), hid_of ⟨by simp, by simp⟩⟩
  case round =>
    obtain ⟨i, v, rfl, rfl, hi, hm, hk, hq⟩ := hrel
    have BX := hid_of (HBX.out wr hk.out)
    by_cases hlt : i < nn
    · have d1 : decide (i < nn) = true := decide_eq_true hlt
      have hlt' : (i : Int) < (nn : Int) := by omega
      have HLT := hid_of hlt
      have hl : i < t.ns.length := by have := HN.out; omega
      rcases HRD.out.2.2.2 with h3 | ⟨g, o, rfl, hg, hc⟩
      · exfalso; rw [h3] at hl; simp at hl
      obtain ⟨x, hx⟩ : ∃ x, t.ns[i]? = some x := ⟨_, List.getElem?_eq_getElem hl⟩
      have c1 := (BX.out.1.cell (p := ⟨g, o + i, none⟩) hg).trans (hc i _ hx)
      have HX := hid_of hx
      have hxl : x.length ≤ 9223372036854775807 := HH.out.on x (List.mem_of_getElem? hx)
      have HXL := hid_of hxl
      have VC : Hid (∀ w, Calls Try.prog 62 #[.string (ba x)] w fun ee w' => ee = .returned (.bool (nameB x)) ∧ w = w') := hid_of (fun w => (valid_any (ba x) w (by unfold maxLen; show x.toArray.size ≤ _; simpa using hxl)).mono fun _ _ h => ⟨h.1, h.2.symm⟩)
      obtain ⟨q, hqn⟩ : ∃ q, q = nameB x := ⟨_, rfl⟩
      rw [← hqn] at VC
      have HQ := hid_of hqn
      obtain ⟨bx, hbx⟩ : ∃ bx, bx = ba x := ⟨_, rfl⟩
      have HBX2 := hid_of hbx
      have hlk := hm.out.look x hxl
      rw [← hbx] at VC c1 hlk
      clear hlt hc hx hxl hqn hbx hl
      cases q
      · have RF : Hid (false = r) := hid_of (by rw [HR.out, named_inv HX.out HQ.out.symm])
        clear hlk
        go_wp2_with (go_at_call 62; ((with_reducible refine (VC.out _).mono ?_); (rintro e w2 ⟨rfl, rfl⟩)))
        go_ret
        exact ⟨ret_b RF.out, BX.out.1⟩
      · by_cases hin : x ∈ t.ns.take i
        · have RF : Hid (false = r) := hid_of (by rw [HR.out, named_dup HX.out hin])
          rw [decide_eq_true hin] at hlk
          clear hin
          go_wp2_with (go_at_call 62; ((with_reducible refine (VC.out _).mono ?_); (rintro e w2 ⟨rfl, rfl⟩)))
          go_ret
          exact ⟨ret_b RF.out, BX.out.1⟩
        · rw [decide_eq_false hin] at hlk
          have HIN := hid_of hin
          clear hin
          have hi9 : Hid (i < 9223372036854775807) := hid_of (by omega)
          go_wp2_with (first
            | (at_mapUpdate; ((refine wpList_put rfl _ _ _ rfl (w.heap.size + 1) i (t.ns.take i) x rfl (by rw [← HBX2.out]; rfl) rfl hm.out hi9.out HXL.out ?_); intro w2 hm2 hg2; have M2 := hid_of hm2; have G2 := hid_of hg2; clear hm2 hg2))
            | (go_at_call 62; ((with_reducible refine (VC.out _).mono ?_); (rintro e w2 ⟨rfl, rfl⟩))))
          go_roundw
          case rel =>
            refine ⟨i + 1, _, rfl, by go_num, HLT.out, hid_of (by rw [take_next HX.out]; exact M2.out), hid_of (hk.out.trans ⟨G2.out.os, G2.out.tape, G2.out.output, G2.out.size, fun k hk2 hn => G2.out.block k hk2 (fun e => hn (by cases e; rfl))⟩), hid_of ⟨fun y hy => ?_, nodup_next hq.out.2 HX.out HIN.out⟩⟩
            rw [take_next HX.out, List.mem_append, List.mem_singleton] at hy
            rcases hy with hy | rfl
            · exact hq.out.1 y hy
            · exact HQ.out.symm
          case measure => have := HLT.out; simp [intOf]; omega
    · have d1 : decide (i < nn) = false := decide_eq_false hlt
      have HI : Hid (i = nn) := hid_of (by omega)
      have b0 := BX.out.2.1
      have b3 := BX.out.2.2
      have RE : Hid (r = (decide (t.k = 6) || ssB t.ns)) := hid_of (by rw [HR.out]; exact named_end HN.out (by rw [← HI.out]; exact hq.out.1) (by rw [← HI.out]; exact hq.out.2))
      by_cases h6 : k = 6
      · subst h6
        have RT : Hid (true = r) := hid_of (by rw [RE.out, decide_eq_true HK.out.symm]; rfl)
        clear hlt
        go_wp2
        go_ret
        exact ⟨ret_b RT.out, BX.out.1⟩
      · have e6 : (k == 6) = false := beq_eq_false_iff_ne.2 h6
        have RT : Hid (ssB t.ns = r) := hid_of (by rw [RE.out, decide_eq_false (by rw [← HK.out]; exact h6)]; rfl)
        have SC := hid_of (sorted_any an nn cn t.ns wr (HH.out.n.at BX.out.1))
        rw [RT.out] at SC
        clear hlt h6
        go_wp2_with (go_at_call 63; ((with_reducible refine (SC.out).mono ?_); (rintro e w2 ⟨rfl, h2⟩)); (have H2 := hid_of h2); clear h2)
        go_ret
        exact ⟨rfl, BX.out.1.trans (H2.out.mono BX.out.1.size)⟩
end Go.Proofs.Ytdmonbcinlmljaa

/- areRules of package lattice. Bounds on sizes alone. -/
namespace Go.Proofs.Ytdmonbcinlmljaa
open Go.RowKit Go.Maps

theorem all_bad {α : Type} {f : α → Bool} {l : List α} {i : Nat} {p : α} (h : l[i]? = some p) (hf : f p = false) : l.all f = false := by
  rw [Bool.eq_false_iff]
  intro h2
  rw [List.all_eq_true] at h2
  rw [h2 p (List.mem_of_getElem? h)] at hf
  cases hf
theorem all_end {α : Type} {f : α → Bool} {l : List α} {n : Nat} (hn : n = l.length) (h : ∀ i, i < n → ∀ p, l[i]? = some p → f p = true) : l.all f = true := by
  rw [List.all_eq_true]
  intro p hp
  obtain ⟨i, hi⟩ := List.getElem?_of_mem hp
  exact h i (by have := (List.getElem?_eq_some_iff.1 hi).1; omega) p hi
theorem ruleB_empty {ns : List Str} {r : Gr} (h : r.1 = []) : ruleB ns r = false := by unfold ruleB; rw [h]; rfl
theorem ruleB_sorted {ns : List Str} {r : Gr} (h : ssB r.1 = false) : ruleB ns r = false := by unfold ruleB; rw [h, Bool.and_false, Bool.false_and]
theorem ruleB_in {ns : List Str} {r : Gr} {j : Nat} {s : Str} (h : (r.1 ++ [r.2])[j]? = some s) (hs : s ∉ ns) : ruleB ns r = false := by
  unfold ruleB
  rw [all_bad (f := fun s => decide (s ∈ ns)) h (decide_eq_false hs), Bool.and_false]
theorem ruleB_ok {ns : List Str} {r : Gr} {n : Nat} (h0 : r.1 ≠ []) (h1 : ssB r.1 = true) (hn : n = (r.1 ++ [r.2]).length) (h : ∀ j, j < n → ∀ s, (r.1 ++ [r.2])[j]? = some s → s ∈ ns) : ruleB ns r = true := by
  unfold ruleB
  rw [all_end (f := fun s => decide (s ∈ ns)) hn (fun j hj s hs => decide_eq_true (h j hj s hs)), h1]
  cases hr : r.1 with
  | nil => exact absurd hr h0
  | cons a l => rfl
theorem bel_two {w : World} {B : Nat} {w' : World} {o o2 : Obj} (h : Below B w w') (hB : B ≤ w'.heap.size) : Below B w ((w'.alloc o).alloc o2) := (h.alloc hB o).alloc (by simp; omega) o2
set_option maxRecDepth 100000 in
set_option maxHeartbeats 6400000 in
theorem rules_any (ns : List Str) (rs : List Gr) (an : Option Addr) (nn cn : Nat) (ar : Option Addr) (nr cr : Nat) (w : World) (R1 : Rd w (.slice an nn cn) (ss ns)) (R2 : RuR w (.slice ar nr cr) rs) (on : Ok ns) (or : OkR rs) :
    Calls Try.prog 43 #[.slice an nn cn, .slice ar nr cr] w (BoP (rulesB ns rs) w) := by
  obtain ⟨r, hr⟩ : ∃ r, r = rulesB ns rs := ⟨_, rfl⟩
  rw [← hr]
  have HR := hid_of hr
  have HRD := hid_of (rds_open R1)
  have HR2 := hid_of R2
  have HRL := hid_of R2.len
  have hcn : nn ≤ 9223372036854775807 := by have := HRD.out; omega
  have hcr : nr ≤ 9223372036854775807 := by have := HRL.out; omega
  have ON := hid_of on
  have OR := hid_of or
  have hmm := @run_makeMap Try.prog
  have HM0 : Hid (MapS (w.alloc (.map #[] 0)) w.heap.size 0 []) := hid_of (mapS_made w)
  have HB0 : Hid (Kept (fun k => k = w.heap.size) (w.alloc (.map #[] 0)) (w.alloc (.map #[] 0))) := hid_of (Kept.refl _ _)
  have HBX : Hid (∀ w', Kept (fun k => k = w.heap.size) (w.alloc (.map #[] 0)) w' → Below w.heap.size w w') := hid_of (fun w' h =>
    ((Below.refl w.heap.size w).alloc (Nat.le_refl _) _).trans (h.below (by simp) (fun k hk => by omega)))
  clear hr R1 R2 on or
  go_enter Try.func43, Try.ntmps43
  go_wp2
  go_step3
  go_wp2
  clear hmm
  go_loopw [16] (fun iv wr => ∃ (i : Nat), iv = .int .i64 i ∧ i ≤ nn ∧ Hid (MapS wr w.heap.size i (ns.take i)) ∧ Hid (Kept (fun k => k = w.heap.size) (w.alloc (.map #[] 0)) wr)) (fun iv _ => nn - (intOf iv).toNat)
  case atStart => exact ⟨0, rfl, Nat.zero_le _, HM0, HB0⟩
  case round =>
    obtain ⟨i, rfl, hi, hm, hk⟩ := hrel
    have BX := hid_of (HBX.out wr hk.out)
    by_cases hlt : i < nn
    · have d1 : decide (i < nn) = true := decide_eq_true hlt
      have hlt' : (i : Int) < (nn : Int) := by omega
      have HLT := hid_of hlt
      have hl : i < ns.length := by have := HRD.out.1; omega
      rcases HRD.out.2.2.2 with h3 | ⟨g, o, rfl, hg, hc⟩
      · exfalso; rw [h3] at hl; simp at hl
      obtain ⟨x, hx⟩ : ∃ x, ns[i]? = some x := ⟨_, List.getElem?_eq_getElem hl⟩
      have c1 := (BX.out.cell (p := ⟨g, o + i, none⟩) hg).trans (hc i _ hx)
      have HX := hid_of hx
      have HXL : Hid (x.length ≤ 9223372036854775807) := hid_of (ON.out x (List.mem_of_getElem? hx))
      obtain ⟨bx, hbx⟩ : ∃ bx, bx = ba x := ⟨_, rfl⟩
      have HBX2 := hid_of hbx
      rw [← hbx] at c1
      have hi9 : Hid (i < 9223372036854775807) := hid_of (by omega)
      clear hlt hc hx hbx hl
      go_wp2_with (at_mapUpdate; ((refine wpList_put rfl _ _ _ rfl w.heap.size i (ns.take i) x rfl (by rw [← HBX2.out]; rfl) rfl hm.out hi9.out HXL.out ?_); intro w2 hm2 hg2; have M2 := hid_of hm2; have G2 := hid_of hg2; clear hm2 hg2))
      go_roundw
      case rel => exact ⟨i + 1, by go_num, HLT.out, hid_of (by rw [take_next HX.out]; exact M2.out), hid_of (hk.out.trans ⟨G2.out.os, G2.out.tape, G2.out.output, G2.out.size, fun k hk2 hn => G2.out.block k hk2 (fun e => hn (by cases e; rfl))⟩)⟩
      case measure => have := HLT.out; simp [intOf]; omega
    · have d1 : decide (i < nn) = false := decide_eq_false hlt
      have HM : Hid (MapS wr w.heap.size nn ns) := hid_of (by
        have e1 : i = nn := by omega
        have := hm.out
        rw [e1, HRD.out.1, List.take_length] at this
        rw [HRD.out.1]; exact this)
      clear hm hk hlt
      go_wp2
      go_step3
      go_wp2
      go_loopw [8, 25] (fun ov iv wr => ∃ (i : Nat), ov = .bool true ∧ iv = .int .i64 i ∧ i ≤ nr ∧ Hid (∀ j, j < i → ∀ p, rs[j]? = some p → ruleB ns p = true) ∧ Hid (MapS wr w.heap.size nn ns) ∧ Hid (Below w.heap.size w wr)) (fun _ iv _ => nr - (intOf iv).toNat)
      case atStart => exact ⟨0, rfl, rfl, Nat.zero_le _, hid_of (fun j h => absurd h (Nat.not_lt_zero j)), HM, BX⟩
      case round =>
        clear HM BX
        obtain ⟨i, rfl, rfl, hi, hq, hm, hb⟩ := hrel
        by_cases hlt : i < nr
        · have d1 : decide (i < nr) = true := decide_eq_true hlt
          have hlt' : (i : Int) < (nr : Int) := by omega
          have HLT := hid_of hlt
          have hl : i < rs.length := by have := HRL.out.1; omega
          obtain ⟨x, hx⟩ : ∃ x, rs[i]? = some x := ⟨_, List.getElem?_eq_getElem hl⟩
          obtain ⟨g, o, aA, kA, dA, rfl, RA, hcA⟩ := HR2.out.get hx
          obtain ⟨c0, c1⟩ := hcA _ hb.out
          have HX := hid_of hx
          have HOX := hid_of (OR.out x (List.mem_of_getElem? hx))
          obtain ⟨bx, hbx⟩ : ∃ bx, bx = ba x.2 := ⟨_, rfl⟩
          have HBX2 := hid_of hbx
          rw [← hbx] at c1
          have HRA := hid_of RA
          have HKA := hid_of (rds_open RA).1
          have HWB : Hid (Below w.heap.size w (wr.alloc (.cells #[.slice aA kA dA, .string bx] 47))) := hid_of (hb.out.alloc hb.out.size _)
          have HBC : Hid (∀ w', Below (wr.alloc (.cells #[.slice aA kA dA, .string bx] 47)).heap.size (wr.alloc (.cells #[.slice aA kA dA, .string bx] 47)) w' → w'.cell? ⟨wr.heap.size, 0, none⟩ = some (.slice aA kA dA) ∧ w'.cell? ⟨wr.heap.size, 1, none⟩ = some (.string bx)) := hid_of (fun w' h =>
            ⟨blk_kept (cs := [.slice aA kA dA, .string bx]) (heap_alloc_new wr _) h rfl, blk_kept (cs := [.slice aA kA dA, .string bx]) (heap_alloc_new wr _) h rfl⟩)
          clear hlt hl hx hcA hbx RA
          by_cases hk0 : kA = 0
          · subst hk0
            have RF : Hid (false = r) := hid_of (by
              rw [HR.out]
              exact (all_bad HX.out (ruleB_empty (List.eq_nil_of_length_eq_zero HKA.out.symm))).symm)
            go_wp2
            rw [Exit.noGoto_ret]
            go_ret
            exact ⟨ret_b RF.out, HWB.out⟩
          have e0 : (kA == 0) = false := beq_eq_false_iff_ne.2 hk0
          have HK0 := hid_of hk0
          have SC := hid_of (sorted_any aA kA dA x.1 _ (HRA.out.at HWB.out))
          obtain ⟨q, hqs⟩ : ∃ q, q = ssB x.1 := ⟨_, rfl⟩
          rw [← hqs] at SC
          have HQS := hid_of hqs
          clear hk0 hqs
          cases q
          · have RF : Hid (false = r) := hid_of (by rw [HR.out]; exact (all_bad HX.out (ruleB_sorted HQS.out.symm)).symm)
            go_wp2_with (go_at_call 63; ((with_reducible refine (SC.out).mono ?_); (rintro e w2 ⟨rfl, h2⟩)); (have H2 := hid_of h2); clear h2)
            rw [Exit.noGoto_ret]
            go_ret
            exact ⟨ret_b RF.out, HWB.out.trans (H2.out.mono HWB.out.size)⟩
          · obtain ⟨L, hL⟩ : ∃ L, L = x.1 ++ [x.2] := ⟨_, rfl⟩
            have HL := hid_of hL
            have HLL : Hid (∀ s ∈ L, s.length ≤ 9223372036854775807) := hid_of (fun s hs => by
              rw [hL, List.mem_append, List.mem_singleton] at hs
              rcases hs with hs | rfl
              · exact HOX.out.1 s hs
              · exact HOX.out.2.1)
            have CAT : Hid (∀ w2, Below (wr.alloc (.cells #[.slice aA kA dA, .string bx] 47)).heap.size (wr.alloc (.cells #[.slice aA kA dA, .string bx] 47)) w2 → Calls Try.prog 64 #[.slice (some ⟨w2.heap.size + 1, 0, none⟩) 2 2] ((w2.alloc (.cells #[.string bx] 9)).alloc (.cells #[.slice aA kA dA, .slice (some ⟨w2.heap.size, 0, none⟩) 1 1] 22)) fun e w' => ∃ (g2 o2 n xc : Nat), e = .returned (.slice (some ⟨g2, o2, none⟩) n xc) ∧ n = L.length ∧ n ≤ xc ∧ xc ≤ 9223372036854775807 ∧ (∀ (j : Nat) (s : Str), L[j]? = some s → w'.cell? ⟨g2, o2 + j, none⟩ = some (.string (ba s))) ∧ Below wr.heap.size wr w') := hid_of (fun w2 h => by
              have hwr : Below wr.heap.size wr w2 := (bel_alloc wr _).trans (h.mono (by simp))
              have hw : Below w.heap.size w w2 := hb.out.trans (hwr.mono hb.out.size)
              have hs2 : wr.heap.size ≤ w2.heap.size := hwr.size
              have q := two_new w2 (.cells #[.string bx] 9) (.cells #[.slice aA kA dA, .slice (some ⟨w2.heap.size, 0, none⟩) 1 1] 22)
              have hsz : w2.heap.size + 1 < ((w2.alloc (.cells #[.string bx] 9)).alloc (.cells #[.slice aA kA dA, .slice (some ⟨w2.heap.size, 0, none⟩) 1 1] 22)).heap.size := by simp
              have Rb : Rd ((w2.alloc (.cells #[.string bx] 9)).alloc (.cells #[.slice aA kA dA, .slice (some ⟨w2.heap.size, 0, none⟩) 1 1] 22)) (.slice (some ⟨w2.heap.size, 0, none⟩) 1 1) (ss [x.2]) :=
                (rd_new (w := w2) (l := ss [x.2]) (n := 1) rfl (by rw [HBX2.out]; rfl) (by simp [ss])).at (bel_alloc _ _)
              refine (concat_any (w2.heap.size + 1) aA kA dA (some ⟨w2.heap.size, 0, none⟩) 1 1 x.1 [x.2] _ (HRA.out.at (bel_two hw hw.size)) Rb (by have := HOX.out.2.2; simp; omega) hsz (blk_kept (cs := [.slice aA kA dA, .slice (some ⟨w2.heap.size, 0, none⟩) 1 1]) q.2 (Below.refl _ _) rfl) (blk_kept (cs := [.slice aA kA dA, .slice (some ⟨w2.heap.size, 0, none⟩) 1 1]) q.2 (Below.refl _ _) rfl)).mono ?_
              rintro e w' ⟨xo, xc, rfl, O⟩
              have hlen : (ss (x.1 ++ [x.2])).length = (x.1 ++ [x.2]).length := ss_length _
              have Rd' := O.rd (by rw [hlen]; have := HOX.out.2.2; simp; omega)
              obtain ⟨_, r1, r2, r3⟩ := rds_open Rd'
              rcases r3 with r3 | ⟨g2, o2, rfl, _, r4⟩
              · simp at r3
              refine ⟨g2, o2, _, xc, rfl, by rw [hL], r1, r2, fun j s hj => r4 j s (by rw [← hL]; exact hj), (bel_two hwr hwr.size).trans (O.bel.mono (by simp; omega))⟩)
            clear hL
            go_wp2_with (first
              | (go_at_call 63; ((with_reducible refine (SC.out).mono ?_); (rintro e w2 ⟨rfl, h2⟩)); (have H2 := hid_of h2); (obtain ⟨s0, s1⟩ := HBC.out w2 h2); clear h2)
              | (go_at_call 64; ((with_reducible refine (CAT.out w2 H2.out).mono ?_); (rintro e w6 ⟨g2, o2, n, xc, rfl, hn, hnc, hxc, hc6, hb6⟩); (have HN6 := hid_of hn); (have HC6 := hid_of hc6); (have HB6 := hid_of hb6); clear hn hc6 hb6)))
            have hm6 : Hid (MapS w6 w.heap.size nn ns) := hid_of (hm.out.same (HB6.out.block _ hm.out.lt))
            clear c0 c1 s0 s1
            go_loopw [8, 47] (fun ov iv w7 => ∃ j : Nat, ov = .bool true ∧ iv = .int .i64 j ∧ j ≤ n ∧ Hid (∀ jj, jj < j → ∀ s, L[jj]? = some s → s ∈ ns) ∧ w6 = w7) (fun _ iv _ => n - (intOf iv).toNat)
            case atStart => exact ⟨0, rfl, rfl, Nat.zero_le _, hid_of (fun j h => absurd h (Nat.not_lt_zero j)), rfl⟩
            case round =>
              obtain ⟨j, rfl, rfl, hj, hjn, rfl⟩ := hrel
              by_cases hjlt : j < n
              · have d2 : decide (j < n) = true := decide_eq_true hjlt
                have hjlt' : (j : Int) < (n : Int) := by omega
                have HJLT := hid_of hjlt
                obtain ⟨s, hs⟩ : ∃ s, L[j]? = some s := ⟨_, List.getElem?_eq_getElem (by have := HN6.out; omega)⟩
                have cs := HC6.out j s hs
                have hlk := hm6.out.look s (HLL.out s (List.mem_of_getElem? hs))
                have HS := hid_of hs
                obtain ⟨bs, hbs⟩ : ∃ bs, bs = ba s := ⟨_, rfl⟩
                rw [← hbs] at cs hlk
                clear hs hjlt hbs
                by_cases hin : s ∈ ns
                · rw [decide_eq_true hin] at hlk
                  have HIN := hid_of hin
                  clear hin
                  go_wp2
                  go_roundw
                  case rel => exact ⟨j + 1, rfl, by go_num, HJLT.out, hid_of (fun jj hjj s' hs' => by
                    by_cases e : jj = j
                    · subst e
                      rw [HS.out] at hs'
                      cases hs'
                      exact HIN.out
                    · exact hjn.out jj (by omega) s' hs'), by first | trivial | rfl⟩
                  case measure => have := HJLT.out; simp [intOf]; omega
                · rw [decide_eq_false hin] at hlk
                  have RF : Hid (false = r) := hid_of (by rw [HR.out]; exact (all_bad HX.out (ruleB_in (j := j) (s := s) (by rw [← HL.out]; exact HS.out) hin)).symm)
                  clear hin
                  go_wp2
                  rw [Exit.noGoto_ret]
                  go_ret
                  exact ⟨ret_b RF.out, hb.out.trans (HB6.out.mono hb.out.size)⟩
              · have d2 : decide (j < n) = false := decide_eq_false hjlt
                have RO : Hid (ruleB ns x = true) := hid_of (ruleB_ok (n := n) (fun h => HK0.out (by rw [HKA.out, h]; rfl)) HQS.out.symm (by rw [HN6.out, HL.out]) (fun jj hjj s hs => hjn.out jj (by omega) s (by rw [HL.out]; exact hs)))
                clear hjlt
                go_wp2
                go_roundw
                case rel => exact ⟨i + 1, rfl, by go_num, HLT.out, hid_of (fun jj hjj p hp => by
                    by_cases e : jj = i
                    · subst e
                      rw [HX.out] at hp
                      cases hp
                      exact RO.out
                    · exact hq.out jj (by omega) p hp), hm6, hid_of (hb.out.trans (HB6.out.mono hb.out.size))⟩
                case measure => have := HLT.out; simp [intOf]; omega
        · have d1 : decide (i < nr) = false := decide_eq_false hlt
          have RT : Hid (true = r) := hid_of (by
            rw [HR.out]
            exact (all_end HRL.out.1 (fun j hj p hp => hq.out j (by omega) p hp)).symm)
          clear hlt
          go_wp2
          rw [Exit.noGoto_ret]
          go_ret
          exact ⟨ret_b RT.out, hb.out⟩
end Go.Proofs.Ytdmonbcinlmljaa

/- hasItsNames, hasItsFields, nameLimit of package lattice. Bounds on sizes alone. -/
namespace Go.Proofs.Ytdmonbcinlmljaa
open Go.RowKit

def hnB (k : Int) (nn : Nat) : Bool := if k = 4 ∨ k = 8 ∨ k = 5 then true else if k = 6 ∨ k = 10 then decide (0 < nn) else nn == 0
def fieldsB (k lo hi : Int) (nn np nr : Nat) : Bool :=
  if k = 1 ∨ k = 9 ∨ k = 4 ∨ k = 8 then lo == 0 && hi == 0 && nr == 0 && np == 0 && hnB k nn
  else if k = 2 ∨ k = 3 then nr == 0 && np == 0 && hnB k nn
  else if k = 5 then lo == 0 && hi == 0 && nr == 0 && np == 1 && hnB k nn
  else if k = 6 then lo == 0 && hi == 0 && nr == 0 && np == nn && hnB k nn
  else if k = 7 then lo == 0 && hi == 0 && nr == 0 && np == 2 && hnB k nn
  else if k = 10 then lo == 0 && hi == 0 && np == 0 && hnB k nn
  else false
theorem fb1 (lo hi : Int) (nn np nr : Nat) : fieldsB 1 lo hi nn np nr = (lo == 0 && hi == 0 && nr == 0 && np == 0 && hnB 1 nn) := by rfl
theorem fb2 (lo hi : Int) (nn np nr : Nat) : fieldsB 2 lo hi nn np nr = (nr == 0 && np == 0 && hnB 2 nn) := by rfl
theorem fb3 (lo hi : Int) (nn np nr : Nat) : fieldsB 3 lo hi nn np nr = (nr == 0 && np == 0 && hnB 3 nn) := by rfl
theorem fb4 (lo hi : Int) (nn np nr : Nat) : fieldsB 4 lo hi nn np nr = (lo == 0 && hi == 0 && nr == 0 && np == 0 && hnB 4 nn) := by rfl
theorem fb5 (lo hi : Int) (nn np nr : Nat) : fieldsB 5 lo hi nn np nr = (lo == 0 && hi == 0 && nr == 0 && np == 1 && hnB 5 nn) := by rfl
theorem fb6 (lo hi : Int) (nn np nr : Nat) : fieldsB 6 lo hi nn np nr = (lo == 0 && hi == 0 && nr == 0 && np == nn && hnB 6 nn) := by rfl
theorem fb7 (lo hi : Int) (nn np nr : Nat) : fieldsB 7 lo hi nn np nr = (lo == 0 && hi == 0 && nr == 0 && np == 2 && hnB 7 nn) := by rfl
theorem fb8 (lo hi : Int) (nn np nr : Nat) : fieldsB 8 lo hi nn np nr = (lo == 0 && hi == 0 && nr == 0 && np == 0 && hnB 8 nn) := by rfl
theorem fb9 (lo hi : Int) (nn np nr : Nat) : fieldsB 9 lo hi nn np nr = (lo == 0 && hi == 0 && nr == 0 && np == 0 && hnB 9 nn) := by rfl
theorem fb10 (lo hi : Int) (nn np nr : Nat) : fieldsB 10 lo hi nn np nr = (lo == 0 && hi == 0 && np == 0 && hnB 10 nn) := by rfl
theorem fb0 {k : Int} (lo hi : Int) (nn np nr : Nat) (h : k ≠ 1 ∧ k ≠ 2 ∧ k ≠ 3 ∧ k ≠ 4 ∧ k ≠ 5 ∧ k ≠ 6 ∧ k ≠ 7 ∧ k ≠ 8 ∧ k ≠ 9 ∧ k ≠ 10) : fieldsB k lo hi nn np nr = false := by
  unfold fieldsB
  rw [if_neg (by omega), if_neg (by omega), if_neg (by omega), if_neg (by omega), if_neg (by omega), if_neg (by omega)]
theorem len0 {α : Type} (l : List α) : (l.length == 0) = decide (l = []) := by cases l <;> simp
theorem shape_fields (t : Lat) : shapeB t = fieldsB t.k t.lo t.hi t.ns.length t.ps.length t.rs.length := by
  obtain ⟨k, lo, hi, ns, ps, rs⟩ := t
  simp only [Lat.k, Lat.lo, Lat.hi, Lat.ns, Lat.ps, Lat.rs]
  rcases kinds k with rfl | rfl | rfl | rfl | rfl | rfl | rfl | rfl | rfl | rfl | hx
  case inr.inr.inr.inr.inr.inr.inr.inr.inr.inr =>
    rw [fb0 _ _ _ _ _ hx]
    refine Bool.eq_false_iff.2 fun h => ?_
    have := shape_k h
    simp only [Lat.k] at this
    omega
  all_goals
    simp only [fb1, fb2, fb3, fb4, fb5, fb6, fb7, fb8, fb9, fb10, shapeB, hnB, Lat.k, Lat.lo, Lat.hi, Lat.ns, Lat.ps, Lat.rs]
    rw [Bool.eq_iff_iff]
    cases ns <;> cases ps <;> cases rs <;> simp [and_assoc]
set_option maxRecDepth 100000 in
theorem hn_any (k lo hi : Int) (an : Option Addr) (nn cn : Nat) (ap : Option Addr) (np cp : Nat) (ar : Option Addr) (nr cr : Nat) (w : World) (q : Bool) (hq : q = hnB k nn) : Calls Try.prog 61 #[.agg #[.int .i64 k, .int .i64 lo, .int .i64 hi, .slice an nn cn, .slice ap np cp, .slice ar nr cr]] w (BoP q w) := by
  have HB := hid_of (bel_alloc w (.cells #[.int .i64 k, .int .i64 lo, .int .i64 hi, .slice an nn cn, .slice ap np cp, .slice ar nr cr] 26))
  rcases kinds k with rfl | rfl | rfl | rfl | rfl | rfl | rfl | rfl | rfl | rfl | hx
  case inr.inr.inr.inr.inr.inr.inr.inr.inr.inr =>
    have h : q = (nn == 0) := by rw [hq]; unfold hnB; rw [if_neg (by omega), if_neg (by omega)]
    have HQ := hid_of h
    obtain ⟨h1, h2, h3, h4, h5, h6, h7, h8, h9, h10⟩ := hx
    clear hq h
    go_enter Try.func61, Try.ntmps61
    go_wp2
    go_ret
    refine ⟨ret_b ?_, HB.out⟩
    rw [HQ.out]
    first | rfl | (rw [Bool.eq_iff_iff]; simp)
  all_goals
    have HQ := hid_of hq
    clear hq
    go_enter Try.func61, Try.ntmps61
    go_wp2
    go_ret
    refine ⟨ret_b ?_, HB.out⟩
    rw [HQ.out]
    first | rfl | (rw [Bool.eq_iff_iff]; simp [hnB])
set_option maxRecDepth 100000 in
theorem limit_any (k : Int) (w : World) : Calls Try.prog 41 #[.int .i64 k] w fun e w' => e = .returned (.int .i64 (limL k : Nat)) ∧ w = w' := by
  obtain ⟨r, hr⟩ : ∃ r, r = limL k := ⟨_, rfl⟩
  rw [← hr]
  have HR := hid_of hr
  clear hr
  by_cases h6 : k = 6
  · subst h6
    go_enter Try.func41, Try.ntmps41
    go_wp2
    go_ret
    exact ⟨by rw [HR.out]; rfl, rfl⟩
  by_cases h10 : k = 10
  · subst h10
    go_enter Try.func41, Try.ntmps41
    go_wp2
    go_ret
    exact ⟨by rw [HR.out]; rfl, rfl⟩
  have RE : Hid (r = 32) := hid_of (by rw [HR.out]; unfold limL; rw [if_neg h6, if_neg h10])
  have e6 : (k == 6) = false := beq_eq_false_iff_ne.2 h6
  have e10 : (k == 10) = false := beq_eq_false_iff_ne.2 h10
  go_enter Try.func41, Try.ntmps41
  go_wp2
  go_ret
  exact ⟨by rw [RE.out]; rfl, rfl⟩
set_option maxRecDepth 100000 in
set_option maxHeartbeats 6400000 in
theorem fields_any (k lo hi : Int) (an : Option Addr) (nn cn : Nat) (ap : Option Addr) (np cp : Nat) (ar : Option Addr) (nr cr : Nat) (w : World) : Calls Try.prog 40 #[.agg #[.int .i64 k, .int .i64 lo, .int .i64 hi, .slice an nn cn, .slice ap np cp, .slice ar nr cr]] w (BoP (fieldsB k lo hi nn np nr) w) := by
  obtain ⟨r, hr⟩ : ∃ r, r = fieldsB k lo hi nn np nr := ⟨_, rfl⟩
  rw [← hr]
  have HR := hid_of hr
  clear hr
  rcases kinds k with rfl | rfl | rfl | rfl | rfl | rfl | rfl | rfl | rfl | rfl | hx
  · rw [fb1] at HR
    by_cases hlo : lo = 0
    case neg =>
      have RF : Hid (false = r) := hid_of (by rw [HR.out]; simp [hlo])
      have f1 : (lo == 0) = false := beq_eq_false_iff_ne.2 hlo
      clear hlo
      go_enter Try.func40, Try.ntmps40
      go_wp2
      go_ret
      exact ⟨ret_b RF.out, bel_alloc w _⟩
    subst hlo
    by_cases hhi : hi = 0
    case neg =>
      have RF : Hid (false = r) := hid_of (by rw [HR.out]; simp [hhi])
      have f1 : (hi == 0) = false := beq_eq_false_iff_ne.2 hhi
      clear hhi
      go_enter Try.func40, Try.ntmps40
      go_wp2
      go_ret
      exact ⟨ret_b RF.out, bel_alloc w _⟩
    subst hhi
    by_cases hnr : nr = 0
    case neg =>
      have RF : Hid (false = r) := hid_of (by rw [HR.out]; simp [hnr])
      have f1 : (nr == 0) = false := beq_eq_false_iff_ne.2 hnr
      have f2 : ((nr : Int) == 0) = false := beq_eq_false_iff_ne.2 (by omega)
      clear hnr
      go_enter Try.func40, Try.ntmps40
      go_wp2
      go_ret
      exact ⟨ret_b RF.out, bel_alloc w _⟩
    subst hnr
    by_cases hnp : np = 0
    case neg =>
      have RF : Hid (false = r) := hid_of (by rw [HR.out]; simp [hnp])
      have f1 : (np == 0) = false := beq_eq_false_iff_ne.2 hnp
      have f2 : ((np : Int) == 0) = false := beq_eq_false_iff_ne.2 (by omega)
      clear hnp
      go_enter Try.func40, Try.ntmps40
      go_wp2
      go_ret
      exact ⟨ret_b RF.out, bel_alloc w _⟩
    subst hnp
    have HQ : Hid (hnB 1 nn = r) := hid_of (by rw [HR.out]; simp)
    obtain ⟨q, hq⟩ : ∃ q, q = hnB 1 nn := ⟨_, rfl⟩
    have HN := hid_of (fun lo hi an nn2 cn ap np2 cp ar nr cr w (h : nn2 = nn) => hn_any 1 lo hi an nn2 cn ap np2 cp ar nr cr w q (by rw [h]; exact hq))
    rw [← hq] at HQ
    clear hq HR
    go_enter Try.func40, Try.ntmps40
    go_wp2_with (go_at_call 61; ((with_reducible refine (HN.out _ _ _ _ _ _ _ _ _ _ _ _ rfl).mono ?_); (rintro e w2 ⟨rfl, h2⟩)); (have H2 := hid_of h2); clear h2)
    go_ret
    exact ⟨ret_b HQ.out, (bel_alloc w _).trans (H2.out.mono (by simp))⟩
  · rw [fb2] at HR
    by_cases hnr : nr = 0
    case neg =>
      have RF : Hid (false = r) := hid_of (by rw [HR.out]; simp [hnr])
      have f1 : (nr == 0) = false := beq_eq_false_iff_ne.2 hnr
      have f2 : ((nr : Int) == 0) = false := beq_eq_false_iff_ne.2 (by omega)
      clear hnr
      go_enter Try.func40, Try.ntmps40
      go_wp2
      go_ret
      exact ⟨ret_b RF.out, bel_alloc w _⟩
    subst hnr
    by_cases hnp : np = 0
    case neg =>
      have RF : Hid (false = r) := hid_of (by rw [HR.out]; simp [hnp])
      have f1 : (np == 0) = false := beq_eq_false_iff_ne.2 hnp
      have f2 : ((np : Int) == 0) = false := beq_eq_false_iff_ne.2 (by omega)
      clear hnp
      go_enter Try.func40, Try.ntmps40
      go_wp2
      go_ret
      exact ⟨ret_b RF.out, bel_alloc w _⟩
    subst hnp
    have HQ : Hid (hnB 2 nn = r) := hid_of (by rw [HR.out]; simp)
    obtain ⟨q, hq⟩ : ∃ q, q = hnB 2 nn := ⟨_, rfl⟩
    have HN := hid_of (fun lo hi an nn2 cn ap np2 cp ar nr cr w (h : nn2 = nn) => hn_any 2 lo hi an nn2 cn ap np2 cp ar nr cr w q (by rw [h]; exact hq))
    rw [← hq] at HQ
    clear hq HR
    go_enter Try.func40, Try.ntmps40
    go_wp2_with (go_at_call 61; ((with_reducible refine (HN.out _ _ _ _ _ _ _ _ _ _ _ _ rfl).mono ?_); (rintro e w2 ⟨rfl, h2⟩)); (have H2 := hid_of h2); clear h2)
    go_ret
    exact ⟨ret_b HQ.out, (bel_alloc w _).trans (H2.out.mono (by simp))⟩
  · rw [fb3] at HR
    by_cases hnr : nr = 0
    case neg =>
      have RF : Hid (false = r) := hid_of (by rw [HR.out]; simp [hnr])
      have f1 : (nr == 0) = false := beq_eq_false_iff_ne.2 hnr
      have f2 : ((nr : Int) == 0) = false := beq_eq_false_iff_ne.2 (by omega)
      clear hnr
      go_enter Try.func40, Try.ntmps40
      go_wp2
      go_ret
      exact ⟨ret_b RF.out, bel_alloc w _⟩
    subst hnr
    by_cases hnp : np = 0
    case neg =>
      have RF : Hid (false = r) := hid_of (by rw [HR.out]; simp [hnp])
      have f1 : (np == 0) = false := beq_eq_false_iff_ne.2 hnp
      have f2 : ((np : Int) == 0) = false := beq_eq_false_iff_ne.2 (by omega)
      clear hnp
      go_enter Try.func40, Try.ntmps40
      go_wp2
      go_ret
      exact ⟨ret_b RF.out, bel_alloc w _⟩
    subst hnp
    have HQ : Hid (hnB 3 nn = r) := hid_of (by rw [HR.out]; simp)
    obtain ⟨q, hq⟩ : ∃ q, q = hnB 3 nn := ⟨_, rfl⟩
    have HN := hid_of (fun lo hi an nn2 cn ap np2 cp ar nr cr w (h : nn2 = nn) => hn_any 3 lo hi an nn2 cn ap np2 cp ar nr cr w q (by rw [h]; exact hq))
    rw [← hq] at HQ
    clear hq HR
    go_enter Try.func40, Try.ntmps40
    go_wp2_with (go_at_call 61; ((with_reducible refine (HN.out _ _ _ _ _ _ _ _ _ _ _ _ rfl).mono ?_); (rintro e w2 ⟨rfl, h2⟩)); (have H2 := hid_of h2); clear h2)
    go_ret
    exact ⟨ret_b HQ.out, (bel_alloc w _).trans (H2.out.mono (by simp))⟩
  · rw [fb4] at HR
    by_cases hlo : lo = 0
    case neg =>
      have RF : Hid (false = r) := hid_of (by rw [HR.out]; simp [hlo])
      have f1 : (lo == 0) = false := beq_eq_false_iff_ne.2 hlo
      clear hlo
      go_enter Try.func40, Try.ntmps40
      go_wp2
      go_ret
      exact ⟨ret_b RF.out, bel_alloc w _⟩
    subst hlo
    by_cases hhi : hi = 0
    case neg =>
      have RF : Hid (false = r) := hid_of (by rw [HR.out]; simp [hhi])
      have f1 : (hi == 0) = false := beq_eq_false_iff_ne.2 hhi
      clear hhi
      go_enter Try.func40, Try.ntmps40
      go_wp2
      go_ret
      exact ⟨ret_b RF.out, bel_alloc w _⟩
    subst hhi
    by_cases hnr : nr = 0
    case neg =>
      have RF : Hid (false = r) := hid_of (by rw [HR.out]; simp [hnr])
      have f1 : (nr == 0) = false := beq_eq_false_iff_ne.2 hnr
      have f2 : ((nr : Int) == 0) = false := beq_eq_false_iff_ne.2 (by omega)
      clear hnr
      go_enter Try.func40, Try.ntmps40
      go_wp2
      go_ret
      exact ⟨ret_b RF.out, bel_alloc w _⟩
    subst hnr
    by_cases hnp : np = 0
    case neg =>
      have RF : Hid (false = r) := hid_of (by rw [HR.out]; simp [hnp])
      have f1 : (np == 0) = false := beq_eq_false_iff_ne.2 hnp
      have f2 : ((np : Int) == 0) = false := beq_eq_false_iff_ne.2 (by omega)
      clear hnp
      go_enter Try.func40, Try.ntmps40
      go_wp2
      go_ret
      exact ⟨ret_b RF.out, bel_alloc w _⟩
    subst hnp
    have HQ : Hid (hnB 4 nn = r) := hid_of (by rw [HR.out]; simp)
    obtain ⟨q, hq⟩ : ∃ q, q = hnB 4 nn := ⟨_, rfl⟩
    have HN := hid_of (fun lo hi an nn2 cn ap np2 cp ar nr cr w (h : nn2 = nn) => hn_any 4 lo hi an nn2 cn ap np2 cp ar nr cr w q (by rw [h]; exact hq))
    rw [← hq] at HQ
    clear hq HR
    go_enter Try.func40, Try.ntmps40
    go_wp2_with (go_at_call 61; ((with_reducible refine (HN.out _ _ _ _ _ _ _ _ _ _ _ _ rfl).mono ?_); (rintro e w2 ⟨rfl, h2⟩)); (have H2 := hid_of h2); clear h2)
    go_ret
    exact ⟨ret_b HQ.out, (bel_alloc w _).trans (H2.out.mono (by simp))⟩
  · rw [fb5] at HR
    by_cases hlo : lo = 0
    case neg =>
      have RF : Hid (false = r) := hid_of (by rw [HR.out]; simp [hlo])
      have f1 : (lo == 0) = false := beq_eq_false_iff_ne.2 hlo
      clear hlo
      go_enter Try.func40, Try.ntmps40
      go_wp2
      go_ret
      exact ⟨ret_b RF.out, bel_alloc w _⟩
    subst hlo
    by_cases hhi : hi = 0
    case neg =>
      have RF : Hid (false = r) := hid_of (by rw [HR.out]; simp [hhi])
      have f1 : (hi == 0) = false := beq_eq_false_iff_ne.2 hhi
      clear hhi
      go_enter Try.func40, Try.ntmps40
      go_wp2
      go_ret
      exact ⟨ret_b RF.out, bel_alloc w _⟩
    subst hhi
    by_cases hnr : nr = 0
    case neg =>
      have RF : Hid (false = r) := hid_of (by rw [HR.out]; simp [hnr])
      have f1 : (nr == 0) = false := beq_eq_false_iff_ne.2 hnr
      have f2 : ((nr : Int) == 0) = false := beq_eq_false_iff_ne.2 (by omega)
      clear hnr
      go_enter Try.func40, Try.ntmps40
      go_wp2
      go_ret
      exact ⟨ret_b RF.out, bel_alloc w _⟩
    subst hnr
    by_cases hnp : np = 1
    case neg =>
      have RF : Hid (false = r) := hid_of (by rw [HR.out]; simp [hnp])
      have f1 : (np == 1) = false := beq_eq_false_iff_ne.2 hnp
      have f2 : ((np : Int) == 1) = false := beq_eq_false_iff_ne.2 (by omega)
      clear hnp
      go_enter Try.func40, Try.ntmps40
      go_wp2
      go_ret
      exact ⟨ret_b RF.out, bel_alloc w _⟩
    subst hnp
    have HQ : Hid (hnB 5 nn = r) := hid_of (by rw [HR.out]; simp)
    obtain ⟨q, hq⟩ : ∃ q, q = hnB 5 nn := ⟨_, rfl⟩
    have HN := hid_of (fun lo hi an nn2 cn ap np2 cp ar nr cr w (h : nn2 = nn) => hn_any 5 lo hi an nn2 cn ap np2 cp ar nr cr w q (by rw [h]; exact hq))
    rw [← hq] at HQ
    clear hq HR
    go_enter Try.func40, Try.ntmps40
    go_wp2_with (go_at_call 61; ((with_reducible refine (HN.out _ _ _ _ _ _ _ _ _ _ _ _ rfl).mono ?_); (rintro e w2 ⟨rfl, h2⟩)); (have H2 := hid_of h2); clear h2)
    go_ret
    exact ⟨ret_b HQ.out, (bel_alloc w _).trans (H2.out.mono (by simp))⟩
  · rw [fb6] at HR
    by_cases hlo : lo = 0
    case neg =>
      have RF : Hid (false = r) := hid_of (by rw [HR.out]; simp [hlo])
      have f1 : (lo == 0) = false := beq_eq_false_iff_ne.2 hlo
      clear hlo
      go_enter Try.func40, Try.ntmps40
      go_wp2
      go_ret
      exact ⟨ret_b RF.out, bel_alloc w _⟩
    subst hlo
    by_cases hhi : hi = 0
    case neg =>
      have RF : Hid (false = r) := hid_of (by rw [HR.out]; simp [hhi])
      have f1 : (hi == 0) = false := beq_eq_false_iff_ne.2 hhi
      clear hhi
      go_enter Try.func40, Try.ntmps40
      go_wp2
      go_ret
      exact ⟨ret_b RF.out, bel_alloc w _⟩
    subst hhi
    by_cases hnr : nr = 0
    case neg =>
      have RF : Hid (false = r) := hid_of (by rw [HR.out]; simp [hnr])
      have f1 : (nr == 0) = false := beq_eq_false_iff_ne.2 hnr
      have f2 : ((nr : Int) == 0) = false := beq_eq_false_iff_ne.2 (by omega)
      clear hnr
      go_enter Try.func40, Try.ntmps40
      go_wp2
      go_ret
      exact ⟨ret_b RF.out, bel_alloc w _⟩
    subst hnr
    by_cases hnp : np = nn
    case neg =>
      have RF : Hid (false = r) := hid_of (by rw [HR.out]; simp [hnp])
      have f1 : (np == nn) = false := beq_eq_false_iff_ne.2 hnp
      have f2 : ((np : Int) == (nn : Int)) = false := beq_eq_false_iff_ne.2 (by omega)
      clear hnp
      go_enter Try.func40, Try.ntmps40
      go_wp2
      go_ret
      exact ⟨ret_b RF.out, bel_alloc w _⟩
    subst hnp
    have HQ : Hid (hnB 6 np = r) := hid_of (by rw [HR.out]; simp)
    obtain ⟨q, hq⟩ : ∃ q, q = hnB 6 np := ⟨_, rfl⟩
    have HN := hid_of (fun lo hi an nn2 cn ap np2 cp ar nr cr w (h : nn2 = np) => hn_any 6 lo hi an nn2 cn ap np2 cp ar nr cr w q (by rw [h]; exact hq))
    rw [← hq] at HQ
    clear hq HR
    go_enter Try.func40, Try.ntmps40
    go_wp2_with (go_at_call 61; ((with_reducible refine (HN.out _ _ _ _ _ _ _ _ _ _ _ _ rfl).mono ?_); (rintro e w2 ⟨rfl, h2⟩)); (have H2 := hid_of h2); clear h2)
    go_ret
    exact ⟨ret_b HQ.out, (bel_alloc w _).trans (H2.out.mono (by simp))⟩
  · rw [fb7] at HR
    by_cases hlo : lo = 0
    case neg =>
      have RF : Hid (false = r) := hid_of (by rw [HR.out]; simp [hlo])
      have f1 : (lo == 0) = false := beq_eq_false_iff_ne.2 hlo
      clear hlo
      go_enter Try.func40, Try.ntmps40
      go_wp2
      go_ret
      exact ⟨ret_b RF.out, bel_alloc w _⟩
    subst hlo
    by_cases hhi : hi = 0
    case neg =>
      have RF : Hid (false = r) := hid_of (by rw [HR.out]; simp [hhi])
      have f1 : (hi == 0) = false := beq_eq_false_iff_ne.2 hhi
      clear hhi
      go_enter Try.func40, Try.ntmps40
      go_wp2
      go_ret
      exact ⟨ret_b RF.out, bel_alloc w _⟩
    subst hhi
    by_cases hnr : nr = 0
    case neg =>
      have RF : Hid (false = r) := hid_of (by rw [HR.out]; simp [hnr])
      have f1 : (nr == 0) = false := beq_eq_false_iff_ne.2 hnr
      have f2 : ((nr : Int) == 0) = false := beq_eq_false_iff_ne.2 (by omega)
      clear hnr
      go_enter Try.func40, Try.ntmps40
      go_wp2
      go_ret
      exact ⟨ret_b RF.out, bel_alloc w _⟩
    subst hnr
    by_cases hnp : np = 2
    case neg =>
      have RF : Hid (false = r) := hid_of (by rw [HR.out]; simp [hnp])
      have f1 : (np == 2) = false := beq_eq_false_iff_ne.2 hnp
      have f2 : ((np : Int) == 2) = false := beq_eq_false_iff_ne.2 (by omega)
      clear hnp
      go_enter Try.func40, Try.ntmps40
      go_wp2
      go_ret
      exact ⟨ret_b RF.out, bel_alloc w _⟩
    subst hnp
    have HQ : Hid (hnB 7 nn = r) := hid_of (by rw [HR.out]; simp)
    obtain ⟨q, hq⟩ : ∃ q, q = hnB 7 nn := ⟨_, rfl⟩
    have HN := hid_of (fun lo hi an nn2 cn ap np2 cp ar nr cr w (h : nn2 = nn) => hn_any 7 lo hi an nn2 cn ap np2 cp ar nr cr w q (by rw [h]; exact hq))
    rw [← hq] at HQ
    clear hq HR
    go_enter Try.func40, Try.ntmps40
    go_wp2_with (go_at_call 61; ((with_reducible refine (HN.out _ _ _ _ _ _ _ _ _ _ _ _ rfl).mono ?_); (rintro e w2 ⟨rfl, h2⟩)); (have H2 := hid_of h2); clear h2)
    go_ret
    exact ⟨ret_b HQ.out, (bel_alloc w _).trans (H2.out.mono (by simp))⟩
  · rw [fb8] at HR
    by_cases hlo : lo = 0
    case neg =>
      have RF : Hid (false = r) := hid_of (by rw [HR.out]; simp [hlo])
      have f1 : (lo == 0) = false := beq_eq_false_iff_ne.2 hlo
      clear hlo
      go_enter Try.func40, Try.ntmps40
      go_wp2
      go_ret
      exact ⟨ret_b RF.out, bel_alloc w _⟩
    subst hlo
    by_cases hhi : hi = 0
    case neg =>
      have RF : Hid (false = r) := hid_of (by rw [HR.out]; simp [hhi])
      have f1 : (hi == 0) = false := beq_eq_false_iff_ne.2 hhi
      clear hhi
      go_enter Try.func40, Try.ntmps40
      go_wp2
      go_ret
      exact ⟨ret_b RF.out, bel_alloc w _⟩
    subst hhi
    by_cases hnr : nr = 0
    case neg =>
      have RF : Hid (false = r) := hid_of (by rw [HR.out]; simp [hnr])
      have f1 : (nr == 0) = false := beq_eq_false_iff_ne.2 hnr
      have f2 : ((nr : Int) == 0) = false := beq_eq_false_iff_ne.2 (by omega)
      clear hnr
      go_enter Try.func40, Try.ntmps40
      go_wp2
      go_ret
      exact ⟨ret_b RF.out, bel_alloc w _⟩
    subst hnr
    by_cases hnp : np = 0
    case neg =>
      have RF : Hid (false = r) := hid_of (by rw [HR.out]; simp [hnp])
      have f1 : (np == 0) = false := beq_eq_false_iff_ne.2 hnp
      have f2 : ((np : Int) == 0) = false := beq_eq_false_iff_ne.2 (by omega)
      clear hnp
      go_enter Try.func40, Try.ntmps40
      go_wp2
      go_ret
      exact ⟨ret_b RF.out, bel_alloc w _⟩
    subst hnp
    have HQ : Hid (hnB 8 nn = r) := hid_of (by rw [HR.out]; simp)
    obtain ⟨q, hq⟩ : ∃ q, q = hnB 8 nn := ⟨_, rfl⟩
    have HN := hid_of (fun lo hi an nn2 cn ap np2 cp ar nr cr w (h : nn2 = nn) => hn_any 8 lo hi an nn2 cn ap np2 cp ar nr cr w q (by rw [h]; exact hq))
    rw [← hq] at HQ
    clear hq HR
    go_enter Try.func40, Try.ntmps40
    go_wp2_with (go_at_call 61; ((with_reducible refine (HN.out _ _ _ _ _ _ _ _ _ _ _ _ rfl).mono ?_); (rintro e w2 ⟨rfl, h2⟩)); (have H2 := hid_of h2); clear h2)
    go_ret
    exact ⟨ret_b HQ.out, (bel_alloc w _).trans (H2.out.mono (by simp))⟩
  · rw [fb9] at HR
    by_cases hlo : lo = 0
    case neg =>
      have RF : Hid (false = r) := hid_of (by rw [HR.out]; simp [hlo])
      have f1 : (lo == 0) = false := beq_eq_false_iff_ne.2 hlo
      clear hlo
      go_enter Try.func40, Try.ntmps40
      go_wp2
      go_ret
      exact ⟨ret_b RF.out, bel_alloc w _⟩
    subst hlo
    by_cases hhi : hi = 0
    case neg =>
      have RF : Hid (false = r) := hid_of (by rw [HR.out]; simp [hhi])
      have f1 : (hi == 0) = false := beq_eq_false_iff_ne.2 hhi
      clear hhi
      go_enter Try.func40, Try.ntmps40
      go_wp2
      go_ret
      exact ⟨ret_b RF.out, bel_alloc w _⟩
    subst hhi
    by_cases hnr : nr = 0
    case neg =>
      have RF : Hid (false = r) := hid_of (by rw [HR.out]; simp [hnr])
      have f1 : (nr == 0) = false := beq_eq_false_iff_ne.2 hnr
      have f2 : ((nr : Int) == 0) = false := beq_eq_false_iff_ne.2 (by omega)
      clear hnr
      go_enter Try.func40, Try.ntmps40
      go_wp2
      go_ret
      exact ⟨ret_b RF.out, bel_alloc w _⟩
    subst hnr
    by_cases hnp : np = 0
    case neg =>
      have RF : Hid (false = r) := hid_of (by rw [HR.out]; simp [hnp])
      have f1 : (np == 0) = false := beq_eq_false_iff_ne.2 hnp
      have f2 : ((np : Int) == 0) = false := beq_eq_false_iff_ne.2 (by omega)
      clear hnp
      go_enter Try.func40, Try.ntmps40
      go_wp2
      go_ret
      exact ⟨ret_b RF.out, bel_alloc w _⟩
    subst hnp
    have HQ : Hid (hnB 9 nn = r) := hid_of (by rw [HR.out]; simp)
    obtain ⟨q, hq⟩ : ∃ q, q = hnB 9 nn := ⟨_, rfl⟩
    have HN := hid_of (fun lo hi an nn2 cn ap np2 cp ar nr cr w (h : nn2 = nn) => hn_any 9 lo hi an nn2 cn ap np2 cp ar nr cr w q (by rw [h]; exact hq))
    rw [← hq] at HQ
    clear hq HR
    go_enter Try.func40, Try.ntmps40
    go_wp2_with (go_at_call 61; ((with_reducible refine (HN.out _ _ _ _ _ _ _ _ _ _ _ _ rfl).mono ?_); (rintro e w2 ⟨rfl, h2⟩)); (have H2 := hid_of h2); clear h2)
    go_ret
    exact ⟨ret_b HQ.out, (bel_alloc w _).trans (H2.out.mono (by simp))⟩
  · rw [fb10] at HR
    by_cases hlo : lo = 0
    case neg =>
      have RF : Hid (false = r) := hid_of (by rw [HR.out]; simp [hlo])
      have f1 : (lo == 0) = false := beq_eq_false_iff_ne.2 hlo
      clear hlo
      go_enter Try.func40, Try.ntmps40
      go_wp2
      go_ret
      exact ⟨ret_b RF.out, bel_alloc w _⟩
    subst hlo
    by_cases hhi : hi = 0
    case neg =>
      have RF : Hid (false = r) := hid_of (by rw [HR.out]; simp [hhi])
      have f1 : (hi == 0) = false := beq_eq_false_iff_ne.2 hhi
      clear hhi
      go_enter Try.func40, Try.ntmps40
      go_wp2
      go_ret
      exact ⟨ret_b RF.out, bel_alloc w _⟩
    subst hhi
    by_cases hnp : np = 0
    case neg =>
      have RF : Hid (false = r) := hid_of (by rw [HR.out]; simp [hnp])
      have f1 : (np == 0) = false := beq_eq_false_iff_ne.2 hnp
      have f2 : ((np : Int) == 0) = false := beq_eq_false_iff_ne.2 (by omega)
      clear hnp
      go_enter Try.func40, Try.ntmps40
      go_wp2
      go_ret
      exact ⟨ret_b RF.out, bel_alloc w _⟩
    subst hnp
    have HQ : Hid (hnB 10 nn = r) := hid_of (by rw [HR.out]; simp)
    obtain ⟨q, hq⟩ : ∃ q, q = hnB 10 nn := ⟨_, rfl⟩
    have HN := hid_of (fun lo hi an nn2 cn ap np2 cp ar nr cr w (h : nn2 = nn) => hn_any 10 lo hi an nn2 cn ap np2 cp ar nr cr w q (by rw [h]; exact hq))
    rw [← hq] at HQ
    clear hq HR
    go_enter Try.func40, Try.ntmps40
    go_wp2_with (go_at_call 61; ((with_reducible refine (HN.out _ _ _ _ _ _ _ _ _ _ _ _ rfl).mono ?_); (rintro e w2 ⟨rfl, h2⟩)); (have H2 := hid_of h2); clear h2)
    go_ret
    exact ⟨ret_b HQ.out, (bel_alloc w _).trans (H2.out.mono (by simp))⟩
  · rw [fb0 _ _ _ _ _ hx] at HR
    obtain ⟨h1, h2, h3, h4, h5, h6, h7, h8, h9, h10⟩ := hx
    go_enter Try.func40, Try.ntmps40
    go_wp2
    go_ret
    exact ⟨ret_b HR.out.symm, bel_alloc w _⟩
end Go.Proofs.Ytdmonbcinlmljaa

/- checkNode of package lattice. Bounds on sizes alone. -/
namespace Go.Proofs.Ytdmonbcinlmljaa
open Go.RowKit

def ErP (r : Int) (w : World) (e : Ending) (w' : World) : Prop := e = .returned (.int .i64 r) ∧ Below w.heap.size w w'
theorem ret_i {a b : Int} (h : a = b) : Ending.returned (.int .i64 a) = .returned (.int .i64 b) := by rw [h]
theorem box6 {w w' : World} (k lo hi : Int) (an : Option Addr) (nn cn : Nat) (ap : Option Addr) (np cp : Nat) (ar : Option Addr) (nr cr : Nat) (h : Below (w.alloc (.cells #[.int .i64 k, .int .i64 lo, .int .i64 hi, .slice an nn cn, .slice ap np cp, .slice ar nr cr] 26)).heap.size (w.alloc (.cells #[.int .i64 k, .int .i64 lo, .int .i64 hi, .slice an nn cn, .slice ap np cp, .slice ar nr cr] 26)) w') : w'.cell? ⟨w.heap.size, 0, none⟩ = some (.int .i64 k) ∧ w'.cell? ⟨w.heap.size, 1, none⟩ = some (.int .i64 lo) ∧ w'.cell? ⟨w.heap.size, 2, none⟩ = some (.int .i64 hi) ∧ w'.cell? ⟨w.heap.size, 3, none⟩ = some (.slice an nn cn) ∧ w'.cell? ⟨w.heap.size, 4, none⟩ = some (.slice ap np cp) ∧ w'.cell? ⟨w.heap.size, 5, none⟩ = some (.slice ar nr cr) :=
  ⟨blk_kept (cs := [.int .i64 k, .int .i64 lo, .int .i64 hi, .slice an nn cn, .slice ap np cp, .slice ar nr cr]) (heap_alloc_new w _) h rfl, blk_kept (cs := [.int .i64 k, .int .i64 lo, .int .i64 hi, .slice an nn cn, .slice ap np cp, .slice ar nr cr]) (heap_alloc_new w _) h rfl, blk_kept (cs := [.int .i64 k, .int .i64 lo, .int .i64 hi, .slice an nn cn, .slice ap np cp, .slice ar nr cr]) (heap_alloc_new w _) h rfl, blk_kept (cs := [.int .i64 k, .int .i64 lo, .int .i64 hi, .slice an nn cn, .slice ap np cp, .slice ar nr cr]) (heap_alloc_new w _) h rfl, blk_kept (cs := [.int .i64 k, .int .i64 lo, .int .i64 hi, .slice an nn cn, .slice ap np cp, .slice ar nr cr]) (heap_alloc_new w _) h rfl, blk_kept (cs := [.int .i64 k, .int .i64 lo, .int .i64 hi, .slice an nn cn, .slice ap np cp, .slice ar nr cr]) (heap_alloc_new w _) h rfl⟩
set_option maxRecDepth 100000 in
set_option maxHeartbeats 6400000 in
theorem node_any (t : Lat) (k lo hi : Int) (an : Option Addr) (nn cn : Nat) (ap : Option Addr) (np cp : Nat) (ar : Option Addr) (nr cr : Nat) (w : World) (H : LO w k lo hi an nn cn ap np cp ar nr cr t) : Calls Try.prog 19 #[.agg #[.int .i64 k, .int .i64 lo, .int .i64 hi, .slice an nn cn, .slice ap np cp, .slice ar nr cr]] w (ErP (nodeE t) w) := by
  obtain ⟨r, hr⟩ : ∃ r, r = nodeE t := ⟨_, rfl⟩
  rw [← hr]
  have HR : Hid (r = _) := hid_of (hr.trans (nodeE.eq_1 t))
  have HB := hid_of (bel_alloc w (.cells #[.int .i64 k, .int .i64 lo, .int .i64 hi, .slice an nn cn, .slice ap np cp, .slice ar nr cr] 26))
  have HC : Hid (∀ w', Below (w.alloc (.cells #[.int .i64 k, .int .i64 lo, .int .i64 hi, .slice an nn cn, .slice ap np cp, .slice ar nr cr] 26)).heap.size (w.alloc (.cells #[.int .i64 k, .int .i64 lo, .int .i64 hi, .slice an nn cn, .slice ap np cp, .slice ar nr cr] 26)) w' → _) := hid_of (fun w' h => box6 k lo hi an nn cn ap np cp ar nr cr h)
  have LI : Hid (∀ w, Calls Try.prog 41 #[.int .i64 k] w fun e w' => e = .returned (.int .i64 (limL k : Nat)) ∧ w' = w) := hid_of (fun w => (limit_any k w).mono fun _ _ h => ⟨h.1, h.2.symm⟩)
  have FA := hid_of (fun w => fields_any k lo hi an nn cn ap np cp ar nr cr w)
  have hsf : shapeB t = fieldsB k lo hi nn np nr := by rw [shape_fields, H.hk, H.hlo, H.hhi, H.ln, H.lp, H.lr]
  obtain ⟨qf, hqf⟩ : ∃ q, q = fieldsB k lo hi nn np nr := ⟨_, rfl⟩
  rw [← hqf] at hsf FA
  have HSF := hid_of hsf
  have hcn : nn ≤ 9223372036854775807 := by have := rds_open H.n; omega
  have hcr : nr ≤ 9223372036854775807 := by have := H.r.len; omega
  have hcp : np ≤ 9223372036854775807 := by have := H.p.len; omega
  have HH := hid_of H
  clear hr hqf hsf H
  cases qf
  · have RE : Hid (1 = r) := hid_of (by rw [HR.out, if_pos HSF.out])
    go_enter Try.func19, Try.ntmps19
    go_wp2_with (go_at_call 40; ((with_reducible refine (FA.out _).mono ?_); (rintro e w2 ⟨rfl, h2⟩)); (have K2 := hid_of h2); (obtain ⟨s0, s1, s2, s3, s4, s5⟩ := HC.out w2 h2); clear h2)
    go_ret
    exact ⟨ret_i RE.out, HB.out.trans (K2.out.mono HB.out.size)⟩
  have HR2 : Hid (r = _) := hid_of (HR.out.trans (if_neg (by rw [HSF.out]; simp)))
  obtain ⟨L, hL⟩ : ∃ L, L = limL k := ⟨_, rfl⟩
  rw [← hL] at LI
  have HL := hid_of hL
  have hL9 : L ≤ 32 := by rw [hL]; unfold limL; split <;> (try split) <;> omega
  clear hL
  by_cases h1 : L < nn
  · have RE : Hid (6 = r) := hid_of (by rw [HR2.out, if_pos (.inl (by rw [← HH.out.hk, ← HL.out, ← HH.out.ln]; exact h1))])
    have d1 : decide (L < nn) = true := decide_eq_true h1
    have d2 : decide ((L : Int) < (nn : Int)) = true := decide_eq_true (by omega)
    go_enter Try.func19, Try.ntmps19
    go_wp2_with (go_at_call 40; ((with_reducible refine (FA.out _).mono ?_); (rintro e w2 ⟨rfl, h2⟩)); (have K2 := hid_of h2); (obtain ⟨s0, s1, s2, s3, s4, s5⟩ := HC.out w2 h2); clear h2)
    go_quiet ((go_at_call 41; exact Calls.quiet_of_same (LI.out _)))
    go_wp2
    go_ret
    exact ⟨ret_i RE.out, HB.out.trans ((bel_drewN K2.out nq).mono HB.out.size)⟩
  have d1 : decide (L < nn) = false := decide_eq_false h1
  have d1i : decide ((L : Int) < (nn : Int)) = false := decide_eq_false (by omega)
  have h32 : nn ≤ 32 := by omega
  by_cases h2 : 32 < nr
  · have RE : Hid (6 = r) := hid_of (by rw [HR2.out, if_pos (.inr (by rw [← HH.out.lr]; exact h2))])
    have d2 : decide (32 < nr) = true := decide_eq_true h2
    have d2i : decide ((32 : Int) < (nr : Int)) = true := decide_eq_true (by omega)
    go_enter Try.func19, Try.ntmps19
    go_wp2_with (go_at_call 40; ((with_reducible refine (FA.out _).mono ?_); (rintro e w2 ⟨rfl, h2⟩)); (have K2 := hid_of h2); (obtain ⟨s0, s1, s2, s3, s4, s5⟩ := HC.out w2 h2); clear h2)
    go_quiet ((go_at_call 41; exact Calls.quiet_of_same (LI.out _)))
    go_wp2
    go_ret
    exact ⟨ret_i RE.out, HB.out.trans ((bel_drewN K2.out nq).mono HB.out.size)⟩
  have d2 : decide (32 < nr) = false := decide_eq_false h2
  have d2i : decide ((32 : Int) < (nr : Int)) = false := decide_eq_false (by omega)
  have HR3 : Hid (r = _) := hid_of (HR2.out.trans (if_neg (by rw [← HH.out.hk, ← HL.out, ← HH.out.ln, ← HH.out.lr]; omega)))
  have NM := hid_of (fun (wz : World) (hz : Below (w.alloc (.cells #[.int .i64 k, .int .i64 lo, .int .i64 hi, .slice an nn cn, .slice ap np cp, .slice ar nr cr] 26)).heap.size (w.alloc (.cells #[.int .i64 k, .int .i64 lo, .int .i64 hi, .slice an nn cn, .slice ap np cp, .slice ar nr cr] 26)) wz) => named_any t k lo hi an nn cn ap np cp ar nr cr wz (HH.out.at (HB.out.trans (hz.mono HB.out.size))) (by omega))
  have RU := hid_of (fun (wz : World) (hz : Below (w.alloc (.cells #[.int .i64 k, .int .i64 lo, .int .i64 hi, .slice an nn cn, .slice ap np cp, .slice ar nr cr] 26)).heap.size (w.alloc (.cells #[.int .i64 k, .int .i64 lo, .int .i64 hi, .slice an nn cn, .slice ap np cp, .slice ar nr cr] 26)) wz) => rules_any t.ns t.rs an nn cn ar nr cr wz (HH.out.n.at (HB.out.trans (hz.mono HB.out.size))) (HH.out.r.at (HB.out.trans (hz.mono HB.out.size))) HH.out.on HH.out.or)
  obtain ⟨qn, hqn⟩ : ∃ q, q = namesB t := ⟨_, rfl⟩
  obtain ⟨qr, hqr⟩ : ∃ q, q = rulesB t.ns t.rs := ⟨_, rfl⟩
  rw [← hqn] at NM HR3
  rw [← hqr] at RU HR3
  clear hqn hqr h1 h2
  cases qn
  · have RE : Hid (3 = r) := hid_of (by rw [HR3.out, if_pos (by simp)])
    go_enter Try.func19, Try.ntmps19
    go_wp2_with (go_at_call 40; ((with_reducible refine (FA.out _).mono ?_); (rintro e w2 ⟨rfl, h2⟩)); (have K2 := hid_of h2); (obtain ⟨s0, s1, s2, s3, s4, s5⟩ := HC.out w2 h2); clear h2)
    go_quiet ((go_at_call 41; exact Calls.quiet_of_same (LI.out _)))
    go_wp2_with (first | (go_at_call 42; ((with_reducible refine (NM.out _ (bel_drewN K2.out _)).mono ?_); (rintro e w4 ⟨rfl, h4⟩)); (have K4 := hid_of ((bel_drewN K2.out nq).trans (h4.mono K2.out.size))); (obtain ⟨v0, v1, v2, v3, v4, v5⟩ := HC.out w4 K4.out); clear h4 s0 s1 s2 s3 s4 s5))
    go_ret
    exact ⟨ret_i RE.out, HB.out.trans (K4.out.mono HB.out.size)⟩
  cases qr
  · have RE : Hid (3 = r) := hid_of (by rw [HR3.out, if_pos (by simp)])
    go_enter Try.func19, Try.ntmps19
    go_wp2_with (go_at_call 40; ((with_reducible refine (FA.out _).mono ?_); (rintro e w2 ⟨rfl, h2⟩)); (have K2 := hid_of h2); (obtain ⟨s0, s1, s2, s3, s4, s5⟩ := HC.out w2 h2); clear h2)
    go_quiet ((go_at_call 41; exact Calls.quiet_of_same (LI.out _)))
    go_wp2_with (first | (go_at_call 42; ((with_reducible refine (NM.out _ (bel_drewN K2.out _)).mono ?_); (rintro e w4 ⟨rfl, h4⟩)); (have K4 := hid_of ((bel_drewN K2.out nq).trans (h4.mono K2.out.size))); (obtain ⟨v0, v1, v2, v3, v4, v5⟩ := HC.out w4 K4.out); clear h4 s0 s1 s2 s3 s4 s5) | (go_at_call 43; ((with_reducible refine (RU.out _ K4.out).mono ?_); (rintro e w5 ⟨rfl, h5⟩)); (have K5 := hid_of (K4.out.trans (h5.mono K4.out.size))); (obtain ⟨x0, x1, x2, x3, x4, x5⟩ := HC.out w5 K5.out); clear h5 v0 v1 v2 v3 v4 v5))
    go_ret
    exact ⟨ret_i RE.out, HB.out.trans (K5.out.mono HB.out.size)⟩
  have HR4 : Hid (r = _) := hid_of (HR3.out.trans (if_neg (by simp)))
  by_cases h1 : hi < lo
  · have RE : Hid (5 = r) := hid_of (by rw [HR4.out, if_pos (by rw [← HH.out.hlo, ← HH.out.hhi]; exact .inl h1)])
    have d3 : decide (hi < lo) = true := decide_eq_true h1
    go_enter Try.func19, Try.ntmps19
    go_wp2_with (go_at_call 40; ((with_reducible refine (FA.out _).mono ?_); (rintro e w2 ⟨rfl, h2⟩)); (have K2 := hid_of h2); (obtain ⟨s0, s1, s2, s3, s4, s5⟩ := HC.out w2 h2); clear h2)
    go_quiet ((go_at_call 41; exact Calls.quiet_of_same (LI.out _)))
    go_wp2_with (first | (go_at_call 42; ((with_reducible refine (NM.out _ (bel_drewN K2.out _)).mono ?_); (rintro e w4 ⟨rfl, h4⟩)); (have K4 := hid_of ((bel_drewN K2.out nq).trans (h4.mono K2.out.size))); (obtain ⟨v0, v1, v2, v3, v4, v5⟩ := HC.out w4 K4.out); clear h4 s0 s1 s2 s3 s4 s5) | (go_at_call 43; ((with_reducible refine (RU.out _ K4.out).mono ?_); (rintro e w5 ⟨rfl, h5⟩)); (have K5 := hid_of (K4.out.trans (h5.mono K4.out.size))); (obtain ⟨x0, x1, x2, x3, x4, x5⟩ := HC.out w5 K5.out); clear h5 v0 v1 v2 v3 v4 v5))
    go_ret
    exact ⟨ret_i RE.out, HB.out.trans (K5.out.mono HB.out.size)⟩
  have d3 : decide (hi < lo) = false := decide_eq_false h1
  by_cases h2 : lo < -1000000000
  · have RE : Hid (5 = r) := hid_of (by rw [HR4.out, if_pos (by rw [← HH.out.hlo, ← HH.out.hhi]; exact .inr (.inl h2))])
    have d4 : decide (lo < -1000000000) = true := decide_eq_true h2
    go_enter Try.func19, Try.ntmps19
    go_wp2_with (go_at_call 40; ((with_reducible refine (FA.out _).mono ?_); (rintro e w2 ⟨rfl, h2⟩)); (have K2 := hid_of h2); (obtain ⟨s0, s1, s2, s3, s4, s5⟩ := HC.out w2 h2); clear h2)
    go_quiet ((go_at_call 41; exact Calls.quiet_of_same (LI.out _)))
    go_wp2_with (first | (go_at_call 42; ((with_reducible refine (NM.out _ (bel_drewN K2.out _)).mono ?_); (rintro e w4 ⟨rfl, h4⟩)); (have K4 := hid_of ((bel_drewN K2.out nq).trans (h4.mono K2.out.size))); (obtain ⟨v0, v1, v2, v3, v4, v5⟩ := HC.out w4 K4.out); clear h4 s0 s1 s2 s3 s4 s5) | (go_at_call 43; ((with_reducible refine (RU.out _ K4.out).mono ?_); (rintro e w5 ⟨rfl, h5⟩)); (have K5 := hid_of (K4.out.trans (h5.mono K4.out.size))); (obtain ⟨x0, x1, x2, x3, x4, x5⟩ := HC.out w5 K5.out); clear h5 v0 v1 v2 v3 v4 v5))
    go_ret
    exact ⟨ret_i RE.out, HB.out.trans (K5.out.mono HB.out.size)⟩
  have d4 : decide (lo < -1000000000) = false := decide_eq_false h2
  by_cases h3 : 1000000000 < hi
  · have RE : Hid (5 = r) := hid_of (by rw [HR4.out, if_pos (by rw [← HH.out.hlo, ← HH.out.hhi]; exact .inr (.inr h3))])
    have d5 : decide (1000000000 < hi) = true := decide_eq_true h3
    go_enter Try.func19, Try.ntmps19
    go_wp2_with (go_at_call 40; ((with_reducible refine (FA.out _).mono ?_); (rintro e w2 ⟨rfl, h2⟩)); (have K2 := hid_of h2); (obtain ⟨s0, s1, s2, s3, s4, s5⟩ := HC.out w2 h2); clear h2)
    go_quiet ((go_at_call 41; exact Calls.quiet_of_same (LI.out _)))
    go_wp2_with (first | (go_at_call 42; ((with_reducible refine (NM.out _ (bel_drewN K2.out _)).mono ?_); (rintro e w4 ⟨rfl, h4⟩)); (have K4 := hid_of ((bel_drewN K2.out nq).trans (h4.mono K2.out.size))); (obtain ⟨v0, v1, v2, v3, v4, v5⟩ := HC.out w4 K4.out); clear h4 s0 s1 s2 s3 s4 s5) | (go_at_call 43; ((with_reducible refine (RU.out _ K4.out).mono ?_); (rintro e w5 ⟨rfl, h5⟩)); (have K5 := hid_of (K4.out.trans (h5.mono K4.out.size))); (obtain ⟨x0, x1, x2, x3, x4, x5⟩ := HC.out w5 K5.out); clear h5 v0 v1 v2 v3 v4 v5))
    go_ret
    exact ⟨ret_i RE.out, HB.out.trans (K5.out.mono HB.out.size)⟩
  have d5 : decide (1000000000 < hi) = false := decide_eq_false h3
  have HR5 : Hid (r = _) := hid_of (HR4.out.trans (if_neg (by rw [← HH.out.hlo, ← HH.out.hhi]; omega)))
  clear h1 h2 h3
  by_cases h7 : k = 7
  case neg =>
    have RE : Hid (0 = r) := hid_of (by rw [HR5.out, if_neg (by rw [← HH.out.hk]; exact fun h => h7 h.1)])
    have e7 : (k == 7) = false := beq_eq_false_iff_ne.2 h7
    go_enter Try.func19, Try.ntmps19
    go_wp2_with (go_at_call 40; ((with_reducible refine (FA.out _).mono ?_); (rintro e w2 ⟨rfl, h2⟩)); (have K2 := hid_of h2); (obtain ⟨s0, s1, s2, s3, s4, s5⟩ := HC.out w2 h2); clear h2)
    go_quiet ((go_at_call 41; exact Calls.quiet_of_same (LI.out _)))
    go_wp2_with (first | (go_at_call 42; ((with_reducible refine (NM.out _ (bel_drewN K2.out _)).mono ?_); (rintro e w4 ⟨rfl, h4⟩)); (have K4 := hid_of ((bel_drewN K2.out nq).trans (h4.mono K2.out.size))); (obtain ⟨v0, v1, v2, v3, v4, v5⟩ := HC.out w4 K4.out); clear h4 s0 s1 s2 s3 s4 s5) | (go_at_call 43; ((with_reducible refine (RU.out _ K4.out).mono ?_); (rintro e w5 ⟨rfl, h5⟩)); (have K5 := hid_of (K4.out.trans (h5.mono K4.out.size))); (obtain ⟨x0, x1, x2, x3, x4, x5⟩ := HC.out w5 K5.out); clear h5 v0 v1 v2 v3 v4 v5))
    go_ret
    exact ⟨ret_i RE.out, HB.out.trans (K5.out.mono HB.out.size)⟩
  subst h7
  have hsh := HSF.out
  obtain ⟨p0, p1, hps⟩ : ∃ p0 p1, t.ps = [p0, p1] := by
    have h2 : t.ps.length = 2 := by
      unfold shapeB at hsh
      simp only [← HH.out.hk] at hsh
      have := of_decide_eq_true hsh
      exact this.2.2.2.1
    match hm : t.ps, h2 with
    | [a, b], _ => exact ⟨a, b, rfl⟩
  have h2 : np = 2 := by rw [HH.out.lp, hps]; rfl
  subst h2
  obtain ⟨g, o, kA, loA, hiA, anA, nnA, cnA, apA, npA, cpA, arA, nrA, crA, rfl, LA, hcA⟩ := HH.out.p.get (show t.ps[0]? = some p0 by rw [hps]; rfl)
  have CH := hid_of (fun (wz : World) (hz : Below (w.alloc (.cells #[.int .i64 7, .int .i64 lo, .int .i64 hi, .slice an nn cn, .slice (some ⟨g, o, none⟩) 2 cp, .slice ar nr cr] 26)).heap.size (w.alloc (.cells #[.int .i64 7, .int .i64 lo, .int .i64 hi, .slice an nn cn, .slice (some ⟨g, o, none⟩) 2 cp, .slice ar nr cr] 26)) wz) => chain_any p0 kA loA hiA anA nnA cnA apA npA cpA arA nrA crA wz (LA.at (HB.out.trans (hz.mono HB.out.size))))
  have HCA : Hid (∀ wz, Below (w.alloc (.cells #[.int .i64 7, .int .i64 lo, .int .i64 hi, .slice an nn cn, .slice (some ⟨g, o, none⟩) 2 cp, .slice ar nr cr] 26)).heap.size (w.alloc (.cells #[.int .i64 7, .int .i64 lo, .int .i64 hi, .slice an nn cn, .slice (some ⟨g, o, none⟩) 2 cp, .slice ar nr cr] 26)) wz → _) := hid_of (fun wz hz => hcA wz (HB.out.trans (hz.mono HB.out.size)))
  simp only [Nat.zero_mul, Nat.add_zero] at HCA
  have hch : chainsL (t.ps.take 1) = chainL p0 := by rw [hps, chainsL_all]; simp
  obtain ⟨qc, hqc⟩ : ∃ q, q = chainL p0 := ⟨_, rfl⟩
  rw [hch, ← hqc] at HR5
  rw [← hqc] at CH
  clear hqc hch hps hsh hcA LA
  cases qc
  · have RE : Hid (4 = r) := hid_of (by rw [HR5.out, if_pos (by rw [← HH.out.hk]; exact ⟨rfl, rfl⟩)])
    go_enter Try.func19, Try.ntmps19
    go_wp2_with (go_at_call 40; ((with_reducible refine (FA.out _).mono ?_); (rintro e w2 ⟨rfl, h2⟩)); (have K2 := hid_of h2); (obtain ⟨s0, s1, s2, s3, s4, s5⟩ := HC.out w2 h2); clear h2)
    go_quiet ((go_at_call 41; exact Calls.quiet_of_same (LI.out _)))
    go_wp2_with (first | (go_at_call 42; ((with_reducible refine (NM.out _ (bel_drewN K2.out _)).mono ?_); (rintro e w4 ⟨rfl, h4⟩)); (have K4 := hid_of ((bel_drewN K2.out nq).trans (h4.mono K2.out.size))); (obtain ⟨v0, v1, v2, v3, v4, v5⟩ := HC.out w4 K4.out); clear h4 s0 s1 s2 s3 s4 s5) | (go_at_call 43; ((with_reducible refine (RU.out _ K4.out).mono ?_); (rintro e w5 ⟨rfl, h5⟩)); (have K5 := hid_of (K4.out.trans (h5.mono K4.out.size))); (obtain ⟨x0, x1, x2, x3, x4, x5⟩ := HC.out w5 K5.out); (obtain ⟨y0, y1, y2, y3, y4, y5⟩ := HCA.out w5 K5.out); clear h5 v0 v1 v2 v3 v4 v5) | (go_at_call 14; ((with_reducible refine (CH.out _ K5.out).mono ?_); (rintro e w6 ⟨rfl, h6⟩)); (have K6 := hid_of (K5.out.trans (h6.mono K5.out.size))); clear h6))
    go_ret
    exact ⟨ret_i RE.out, HB.out.trans (K6.out.mono HB.out.size)⟩
  · have RE : Hid (0 = r) := hid_of (by rw [HR5.out, if_neg (by simp)])
    go_enter Try.func19, Try.ntmps19
    go_wp2_with (go_at_call 40; ((with_reducible refine (FA.out _).mono ?_); (rintro e w2 ⟨rfl, h2⟩)); (have K2 := hid_of h2); (obtain ⟨s0, s1, s2, s3, s4, s5⟩ := HC.out w2 h2); clear h2)
    go_quiet ((go_at_call 41; exact Calls.quiet_of_same (LI.out _)))
    go_wp2_with (first | (go_at_call 42; ((with_reducible refine (NM.out _ (bel_drewN K2.out _)).mono ?_); (rintro e w4 ⟨rfl, h4⟩)); (have K4 := hid_of ((bel_drewN K2.out nq).trans (h4.mono K2.out.size))); (obtain ⟨v0, v1, v2, v3, v4, v5⟩ := HC.out w4 K4.out); clear h4 s0 s1 s2 s3 s4 s5) | (go_at_call 43; ((with_reducible refine (RU.out _ K4.out).mono ?_); (rintro e w5 ⟨rfl, h5⟩)); (have K5 := hid_of (K4.out.trans (h5.mono K4.out.size))); (obtain ⟨x0, x1, x2, x3, x4, x5⟩ := HC.out w5 K5.out); (obtain ⟨y0, y1, y2, y3, y4, y5⟩ := HCA.out w5 K5.out); clear h5 v0 v1 v2 v3 v4 v5) | (go_at_call 14; ((with_reducible refine (CH.out _ K5.out).mono ?_); (rintro e w6 ⟨rfl, h6⟩)); (have K6 := hid_of (K5.out.trans (h6.mono K5.out.size))); clear h6))
    go_ret
    exact ⟨ret_i RE.out, HB.out.trans (K6.out.mono HB.out.size)⟩
end Go.Proofs.Ytdmonbcinlmljaa

/- Check of package lattice. Bounds on sizes alone. -/
namespace Go.Proofs.Ytdmonbcinlmljaa
open Go.RowKit

/-- The number c stands in block b. -/
def CK (w : World) (b c : Nat) : Prop := w.heap[b]? = some (.cells [Value.int .i64 (c : Nat)].toArray 3 (0, 0))
theorem CK.cell {w : World} {b c : Nat} (h : CK w b c) : w.cell? ⟨b, 0, none⟩ = some (.int .i64 (c : Nat)) := by
  have := World.news_of_block h 0 (.int .i64 (c : Nat)) (by simp)
  rwa [Addr.add_mid] at this
theorem CK.free {w : World} {b c : Nat} (h : CK w b c) : w.frozen? ⟨b, 0, none⟩ = false := by
  unfold CK at h
  simp [World.frozen?, h]
theorem CK.lt {w : World} {b c : Nat} (h : CK w b c) : b < w.heap.size := lt_of_block h
theorem CK.same {w w' : World} {b c : Nat} (h : CK w b c) (hb : w'.heap[b]? = w.heap[b]?) : CK w' b c := hb.trans h
theorem CK.at {w w' : World} {b c : Nat} (h : CK w b c) (hb : Below w.heap.size w w') : CK w' b c := h.same (hb.block b h.lt)
theorem CK.set {w : World} {b c d : Nat} (h : CK w b c) : CK (w.setCell ⟨b, 0, none⟩ (.int .i64 (d : Nat))) b d := by
  have := blk_setCell (k := 0) (u := .int .i64 (d : Nat)) h
  exact this
def ChkP (b : Nat) (r : Nat × Int) (w : World) (e : Ending) (w' : World) : Prop := e = .returned (.int .i64 r.2) ∧ CK w' b r.1 ∧ Kept (fun k => k = b) w w'
theorem chkTs_step {l : List Lat} {i : Nat} {p : Lat} {d c : Nat} (h : l[i]? = some p) : chkTs (l.drop i) d c = if (chkT p d c).2 ≠ 0 then chkT p d c else chkTs (l.drop (i + 1)) d (chkT p d c).1 := by
  have hl := (List.getElem?_eq_some_iff.1 h)
  obtain ⟨h1, h2⟩ := hl
  rw [List.drop_eq_getElem_cons h1, h2, chkTs]
theorem cell_blk {w : World} {b : Nat} {cs : List Value} {E : TypeId} {m : Nat × Nat} (hb : w.heap[b]? = some (.cells cs.toArray E m)) {j : Nat} {u : Value} (hu : cs[j]? = some u) : w.cell? ⟨b, j, none⟩ = some u := by
  have := World.news_of_block hb j u (by simpa using hu)
  rwa [Addr.add_mid, Nat.zero_add] at this
theorem cell_of_blk {w w' : World} {b j : Nat} (h : w'.heap[b]? = w.heap[b]?) : w'.cell? ⟨b, j, none⟩ = w.cell? ⟨b, j, none⟩ := by
  unfold World.cell?
  rw [h]
set_option maxRecDepth 100000 in
set_option maxHeartbeats 6400000 in
theorem check1_any (w0 : World) (cb fb : Nat) (hcb : w0.heap.size ≤ cb) (hne : fb ≠ cb) : ∀ (t : Lat) (k lo hi : Int) (an : Option Addr) (nn cn : Nat) (ap : Option Addr) (np cp : Nat) (ar : Option Addr) (nr cr : Nat) (d c : Nat) (w : World), LO w0 k lo hi an nn cn ap np cp ar nr cr t → Below w0.heap.size w0 w → CK w cb c → w.cell? ⟨fb, 0, none⟩ = some (.func (.func 18) #[] #[.pointer (some ⟨cb, 0, none⟩), .pointer (some ⟨fb, 0, none⟩)]) → fb < w.heap.size → c ≤ 64 → d ≤ 7 →
    Calls Try.prog 18 #[.agg #[.int .i64 k, .int .i64 lo, .int .i64 hi, .slice an nn cn, .slice ap np cp, .slice ar nr cr], .int .i64 (d : Nat), .pointer (some ⟨cb, 0, none⟩), .pointer (some ⟨fb, 0, none⟩)] w (ChkP cb (chkT t d c) w) := by
  refine lat_ind ?_
  intro k' lo' hi' ns' ps' rs' ih k lo hi an nn cn ap np cp ar nr cr d c w H hw hck hf hfl hc hd
  obtain ⟨T, hT⟩ : ∃ T, T = Lat.mk k' lo' hi' ns' ps' rs' := ⟨_, rfl⟩
  have hps : T.ps = ps' := by rw [hT]; rfl
  rw [← hT] at H ⊢
  clear hT
  obtain ⟨R, hR⟩ : ∃ R, R = chkT T d c := ⟨_, rfl⟩
  rw [← hR]
  have hR1 := hR.trans (chkT_eq T d c)
  rw [hps] at hR1
  have HR := hid_of hR1
  have HB := hid_of (bel_alloc w (.cells #[.int .i64 k, .int .i64 lo, .int .i64 hi, .slice an nn cn, .slice ap np cp, .slice ar nr cr] 26))
  have HK1 : Hid (Kept (fun k => k = cb) w (w.alloc (.cells #[.int .i64 k, .int .i64 lo, .int .i64 hi, .slice an nn cn, .slice ap np cp, .slice ar nr cr] 26))) := hid_of (Kept.ofBelow HB.out)
  have HCK := hid_of hck
  have HW := hid_of hw
  have hcell := (hck.at HB.out).cell
  have hfree := (hck.at HB.out).free
  have HF := hid_of hf
  have HFL := hid_of hfl
  have IH := hid_of ih
  have HP := hid_of H.p
  have HPL : Hid (np = ps'.length) := hid_of (by rw [← hps]; exact H.lp)
  rw [hps] at HP
  have hnp : np ≤ 9223372036854775807 := by have := H.p.len; omega
  have HH := hid_of H
  clear hR hR1 ih H hw hck hf hfl hps
  by_cases h6 : 6 < d
  · have RE : Hid (R = (c, 6)) := hid_of (by rw [HR.out, if_pos (.inl h6)])
    have d1 : decide (6 < d) = true := decide_eq_true h6
    have d1i : decide ((6 : Int) < (d : Int)) = true := decide_eq_true (by omega)
    clear h6
    go_enter Try.func18, Try.ntmps18
    go_wp2
    go_ret
    exact ⟨by rw [RE.out] <;> rfl, by rw [RE.out]; exact HCK.out.at HB.out, HK1.out⟩
  have d1 : decide (6 < d) = false := decide_eq_false h6
  have d1i0 : decide ((6 : Int) < (d : Int)) = false := decide_eq_false (by omega)
  by_cases h64 : c = 64
  · have RE : Hid (R = (c, 6)) := hid_of (by rw [HR.out, if_pos (.inr (by omega))])
    subst h64
    clear h6
    go_enter Try.func18, Try.ntmps18
    go_wp2
    go_ret
    exact ⟨by rw [RE.out] <;> rfl, by rw [RE.out]; exact HCK.out.at HB.out, HK1.out⟩
  have e64 : ((c : Int) == 64) = false := beq_eq_false_iff_ne.2 (by omega)
  have e64' : (c == 64) = false := beq_eq_false_iff_ne.2 h64
  have HR2 : Hid (R = _) := hid_of (HR.out.trans (if_neg (by omega)))
  have ec : ((c + 1 : Nat) : Int) = (c : Int) + 1 := by omega
  have C1 : Hid (CK ((w.setCell ⟨cb, 0, none⟩ (.int .i64 ((c : Int) + 1))).alloc (.cells #[.int .i64 k, .int .i64 lo, .int .i64 hi, .slice an nn cn, .slice ap np cp, .slice ar nr cr] 26)) cb (c + 1)) := hid_of (by have := HCK.out.set (d := c + 1); rw [ec] at this; exact this.at (bel_alloc _ _))
  have K1 : Hid (Kept (fun k => k = cb) w ((w.setCell ⟨cb, 0, none⟩ (.int .i64 ((c : Int) + 1))).alloc (.cells #[.int .i64 k, .int .i64 lo, .int .i64 hi, .slice an nn cn, .slice ap np cp, .slice ar nr cr] 26))) := hid_of ((Kept.set w cb 0 _).trans (Kept.ofBelow (bel_alloc _ _)))
  have X1 : Hid (((w.setCell ⟨cb, 0, none⟩ (.int .i64 ((c : Int) + 1))).alloc (.cells #[.int .i64 k, .int .i64 lo, .int .i64 hi, .slice an nn cn, .slice ap np cp, .slice ar nr cr] 26)).heap[w.heap.size]? = some (.cells [.int .i64 k, .int .i64 lo, .int .i64 hi, .slice an nn cn, .slice ap np cp, .slice ar nr cr].toArray 26 (0, 0))) := hid_of
    (by have := heap_alloc_new (w.setCell ⟨cb, 0, none⟩ (.int .i64 ((c : Int) + 1))) (.cells [.int .i64 k, .int .i64 lo, .int .i64 hi, .slice an nn cn, .slice ap np cp, .slice ar nr cr].toArray 26 (0, 0)); rwa [show (w.setCell ⟨cb, 0, none⟩ (.int .i64 ((c : Int) + 1))).heap.size = w.heap.size by simp] at this)
  have HWB : Hid (∀ w', Kept (fun k => k = cb) w w' → Below w0.heap.size w0 w') := hid_of (fun w' h => HW.out.trans (h.below HW.out.size (fun k hk => by omega)))
  have NC := hid_of (node_any T k lo hi an nn cn ap np cp ar nr cr ((w.setCell ⟨cb, 0, none⟩ (.int .i64 ((c : Int) + 1))).alloc (.cells #[.int .i64 k, .int .i64 lo, .int .i64 hi, .slice an nn cn, .slice ap np cp, .slice ar nr cr] 26)) (HH.out.at (HWB.out _ K1.out)))
  obtain ⟨E, hE⟩ : ∃ E, E = nodeE T := ⟨_, rfl⟩
  rw [← hE] at NC HR2
  have B0 := cell_blk X1.out (j := 0) rfl
  have B1 := cell_blk X1.out (j := 1) rfl
  have B2 := cell_blk X1.out (j := 2) rfl
  have B3 := cell_blk X1.out (j := 3) rfl
  have B4 := cell_blk X1.out (j := 4) rfl
  have B5 := cell_blk X1.out (j := 5) rfl
  have hne2 : cb ≠ w.heap.size := by have := HCK.out.lt; omega
  have hne3 : w.heap.size ≠ cb := fun h => hne2 h.symm
  have hlt2 : cb < w.heap.size := HCK.out.lt
  have H64 : Hid (c < 64) := hid_of (by omega)
  have H6 : Hid (d ≤ 6) := hid_of (by omega)
  have d9 : d ≤ 6 := H6.out
  have c9 : (c : Int) < 64 := by have := H64.out; omega
  clear hE h6 h64 ec hc hd
  by_cases h0 : E = 0
  case neg =>
    have RE : Hid (R = (c + 1, E)) := hid_of (by rw [HR2.out, if_pos h0])
    have e0 : (E == 0) = false := beq_eq_false_iff_ne.2 h0
    have e0' : (E != 0) = true := bne_iff_ne.2 h0
    clear h0
    go_enter Try.func18, Try.ntmps18
    go_wp2_with (go_at_call 19; (go_loud (refine (NC.out).mono ?_); (rintro e w2 ⟨rfl, h2⟩)); (have H2 := hid_of h2); clear h2)
    go_ret
    exact ⟨by rw [RE.out] <;> rfl, by rw [RE.out]; exact C1.out.at H2.out, K1.out.trans (Kept.ofBelow H2.out)⟩
  subst h0
  have HR3 : Hid (chkTs ps' (d + 1) (c + 1) = R) := hid_of (HR2.out.trans (if_neg (by simp))).symm
  have HX2 : Hid (∀ w2, Below (((w.setCell ⟨cb, 0, none⟩ (.int .i64 ((c : Int) + 1))).alloc (.cells #[.int .i64 k, .int .i64 lo, .int .i64 hi, .slice an nn cn, .slice ap np cp, .slice ar nr cr] 26))).heap.size ((w.setCell ⟨cb, 0, none⟩ (.int .i64 ((c : Int) + 1))).alloc (.cells #[.int .i64 k, .int .i64 lo, .int .i64 hi, .slice an nn cn, .slice ap np cp, .slice ar nr cr] 26)) w2 → w2.cell? ⟨w.heap.size, 4, none⟩ = some (.slice ap np cp)) := hid_of (fun w2 h => blk_kept X1.out h (j := 4) rfl)
  go_enter Try.func18, Try.ntmps18
  go_wp2_with (go_at_call 19; (go_loud (refine (NC.out).mono ?_); (rintro e w2 ⟨rfl, h2⟩)); (have H2 := hid_of h2); (have s4 := HX2.out w2 h2); clear h2)
  have C2 : Hid (CK w2 cb (c + 1)) := hid_of (C1.out.at H2.out)
  have K2 : Hid (Kept (fun k => k = cb) w w2) := hid_of (K1.out.trans (Kept.ofBelow H2.out))
  clear s4 B0 B1 B2 B3 B4 B5 hcell hfree
  go_loopw [27] (fun iv wr => ∃ i ci : Nat, iv = .int .i64 i ∧ i ≤ np ∧ Hid (chkTs (ps'.drop i) (d + 1) ci = R) ∧ Hid (CK wr cb ci) ∧ Hid (ci ≤ 64) ∧ Hid (Kept (fun k => k = cb) w wr)) (fun iv _ => np - (intOf iv).toNat)
  case atStart => exact ⟨0, c + 1, rfl, Nat.zero_le _, hid_of HR3.out, C2, hid_of H64.out, K2⟩
  case round =>
    obtain ⟨i, ci, rfl, hi, hm, hck, hci, hk⟩ := hrel
    by_cases hlt : i < np
    · have d2 : decide (i < np) = true := decide_eq_true hlt
      have hlt' : (i : Int) < (np : Int) := by omega
      have HLT := hid_of hlt
      obtain ⟨u, hu⟩ : ∃ u, ps'[i]? = some u := ⟨_, List.getElem?_eq_getElem (by have := HPL.out; omega)⟩
      obtain ⟨g, o, kA, loA, hiA, anA, nnA, cnA, apA, npA, cpA, arA, nrA, crA, rfl, LA, hcA⟩ := HP.out.get hu
      obtain ⟨a0, a1, a2, a3, a4, a5⟩ := hcA wr (HWB.out wr hk.out)
      have hkb : Kept (fun k => k = cb) w (wr.alloc (.cells #[.int .i64 kA, .int .i64 loA, .int .i64 hiA, .slice anA nnA cnA, .slice apA npA cpA, .slice arA nrA crA] 26)) := hk.out.trans (Kept.ofBelow (bel_alloc wr _))
      have KB := hid_of hkb
      have hfl : fb < wr.heap.size := Nat.lt_of_lt_of_le HFL.out hk.out.size
      have hfw : wr.cell? ⟨fb, 0, none⟩ = some (.func (.func 18) #[] #[.pointer (some ⟨cb, 0, none⟩), .pointer (some ⟨fb, 0, none⟩)]) := (cell_of_blk (hk.out.block fb HFL.out hne)).trans HF.out
      have hfw2 : (wr.alloc (.cells #[.int .i64 kA, .int .i64 loA, .int .i64 hiA, .slice anA nnA cnA, .slice apA npA cpA, .slice arA nrA crA] 26)).cell? ⟨fb, 0, none⟩ = some (.func (.func 18) #[] #[.pointer (some ⟨cb, 0, none⟩), .pointer (some ⟨fb, 0, none⟩)]) := ((bel_alloc wr _).cell (p := ⟨fb, 0, none⟩) hfl).trans hfw
      have CALL := hid_of (IH.out u (List.mem_of_getElem? hu) kA loA hiA anA nnA cnA apA npA cpA arA nrA crA (d + 1) ci (wr.alloc (.cells #[.int .i64 kA, .int .i64 loA, .int .i64 hiA, .slice anA nnA cnA, .slice apA npA cpA, .slice arA nrA crA] 26)) LA (HWB.out _ hkb) (hck.out.at (bel_alloc wr _)) hfw2 (Nat.lt_of_lt_of_le hfl (by simp)) hci.out (by have := H6.out; omega))
      have HS := hid_of (hm.out.symm.trans (chkTs_step hu))
      have HLE := hid_of (chkT_le u (d + 1) ci hci.out)
      obtain ⟨q, hq⟩ : ∃ q, q = chkT u (d + 1) ci := ⟨_, rfl⟩
      rw [← hq] at CALL HS HLE
      obtain ⟨qc, qe⟩ := q
      simp only at HS HLE
      clear hq hlt hu hcA LA hkb
      by_cases h0 : qe = 0
      · subst h0
        have HS2 : Hid (chkTs (ps'.drop (i + 1)) (d + 1) qc = R) := hid_of (HS.out.trans (if_neg (by simp))).symm
        go_wp2_with (go_at_call 18; go_loud (refine (CALL.out).mono ?_; rintro e w3 ⟨rfl, h3, h4⟩; have C3 := hid_of h3; have K3 := hid_of h4; clear h3 h4))
        go_roundw
        case rel => exact ⟨i + 1, qc, by go_num, HLT.out, HS2, C3, hid_of HLE.out.2, hid_of (KB.out.trans K3.out)⟩
        case measure => have := HLT.out; simp [intOf]; omega
      · have e0 : (qe == 0) = false := beq_eq_false_iff_ne.2 h0
        have e0' : (qe != 0) = true := bne_iff_ne.2 h0
        have RE : Hid (R = (qc, qe)) := hid_of (HS.out.trans (if_pos h0))
        clear h0
        go_wp2_with (go_at_call 18; go_loud (refine (CALL.out).mono ?_; rintro e w3 ⟨rfl, h3, h4⟩; have C3 := hid_of h3; have K3 := hid_of h4; clear h3 h4))
        go_ret
        exact ⟨by rw [RE.out] <;> rfl, by rw [RE.out]; exact C3.out, KB.out.trans K3.out⟩
    · have d2 : decide (i < np) = false := decide_eq_false hlt
      have RE : Hid (R = (ci, 0)) := hid_of (by rw [← hm.out, List.drop_eq_nil_of_le (by have := HPL.out; omega), chkTs])
      clear hlt
      go_wp2
      go_ret
      exact ⟨by rw [RE.out] <;> rfl, by rw [RE.out]; exact hck.out, hk.out⟩
end Go.Proofs.Ytdmonbcinlmljaa

/- Check of package lattice, the whole. Bounds on sizes alone. -/
namespace Go.Proofs.Ytdmonbcinlmljaa
open Go.RowKit

theorem three_new (w : World) (o o2 o3 : Obj) : (((w.alloc o).alloc o2).alloc o3).heap[w.heap.size]? = some o ∧ (((w.alloc o).alloc o2).alloc o3).heap[w.heap.size + 1]? = some o2 ∧ (((w.alloc o).alloc o2).alloc o3).heap[w.heap.size + 1 + 1]? = some o3 := by
  obtain ⟨q1, q2⟩ := two_new w o o2
  have hs : ((w.alloc o).alloc o2).heap.size = w.heap.size + 1 + 1 := by simp
  have hb := bel_alloc ((w.alloc o).alloc o2) o3
  refine ⟨(hb.block _ (by omega)).trans q1, (hb.block _ (by omega)).trans q2, ?_⟩
  have := heap_alloc_new ((w.alloc o).alloc o2) o3
  rwa [hs] at this
set_option maxRecDepth 100000 in
set_option maxHeartbeats 6400000 in
theorem check_any (t : Lat) (k lo hi : Int) (an : Option Addr) (nn cn : Nat) (ap : Option Addr) (np cp : Nat) (ar : Option Addr) (nr cr : Nat) (w : World) (H : LO w k lo hi an nn cn ap np cp ar nr cr t) : Calls Try.prog 6 #[.agg #[.int .i64 k, .int .i64 lo, .int .i64 hi, .slice an nn cn, .slice ap np cp, .slice ar nr cr]] w (ErP (chkL t) w) := by
  obtain ⟨r, hr⟩ : ∃ r, r = chkL t := ⟨_, rfl⟩
  rw [← hr]
  have HR := hid_of hr
  have hmf : ∀ (fn : Fn) (first cap : Array Value) (w : World), (Instr.makeFunc fn first cap).run Try.prog w = .ok (.func fn first cap) w := fun _ _ _ _ => rfl
  have HB := hid_of (bel_alloc w (.cells #[.int .i64 k, .int .i64 lo, .int .i64 hi, .slice an nn cn, .slice ap np cp, .slice ar nr cr] 26))
  have HBW : Hid (Below w.heap.size w (((w.alloc (.cells #[.int .i64 k, .int .i64 lo, .int .i64 hi, .slice an nn cn, .slice ap np cp, .slice ar nr cr] 26)).alloc (.cells #[.int .i64 0] 3)).alloc (.cells #[.func (.func 18) #[] #[.pointer (some ⟨w.heap.size + 1, 0, none⟩), .pointer (some ⟨w.heap.size + 1 + 1, 0, none⟩)]] 40))) := hid_of (((HB.out.alloc (by simp) _).alloc (by simp; omega) _))
  obtain ⟨q1, q2, q3⟩ := three_new w (.cells #[.int .i64 k, .int .i64 lo, .int .i64 hi, .slice an nn cn, .slice ap np cp, .slice ar nr cr] 26) (.cells #[.int .i64 0] 3) (.cells #[.func (.func 18) #[] #[.pointer (some ⟨w.heap.size + 1, 0, none⟩), .pointer (some ⟨w.heap.size + 1 + 1, 0, none⟩)]] 40)
  have CALL := hid_of (check1_any w (w.heap.size + 1) (w.heap.size + 1 + 1) (by omega) (by omega) t k lo hi an nn cn ap np cp ar nr cr 1 0 (((w.alloc (.cells #[.int .i64 k, .int .i64 lo, .int .i64 hi, .slice an nn cn, .slice ap np cp, .slice ar nr cr] 26)).alloc (.cells #[.int .i64 0] 3)).alloc (.cells #[.func (.func 18) #[] #[.pointer (some ⟨w.heap.size + 1, 0, none⟩), .pointer (some ⟨w.heap.size + 1 + 1, 0, none⟩)]] 40)) H HBW.out q2 (cell_blk (cs := [.func (.func 18) #[] #[.pointer (some ⟨w.heap.size + 1, 0, none⟩), .pointer (some ⟨w.heap.size + 1 + 1, 0, none⟩)]]) q3 rfl) (by simp) (by omega) (by omega))
  have HX : Hid ((((w.alloc (.cells #[.int .i64 k, .int .i64 lo, .int .i64 hi, .slice an nn cn, .slice ap np cp, .slice ar nr cr] 26)).alloc (.cells #[.int .i64 0] 3)).alloc (.cells #[.func (.func 18) #[] #[.pointer (some ⟨w.heap.size + 1, 0, none⟩), .pointer (some ⟨w.heap.size + 1 + 1, 0, none⟩)]] 40)).cell? ⟨w.heap.size, 0, none⟩ = some (.int .i64 k)) := hid_of (cell_blk (cs := [.int .i64 k, .int .i64 lo, .int .i64 hi, .slice an nn cn, .slice ap np cp, .slice ar nr cr]) q1 rfl)
  obtain ⟨_, _, n3⟩ := three_new w (.cells #[.int .i64 k, .int .i64 lo, .int .i64 hi, .slice an nn cn, .slice ap np cp, .slice ar nr cr] 26) (.cells #[.int .i64 0] 3) (.cells #[.nilFunc] 40)
  have hcs := cell_blk (cs := [Value.nilFunc]) n3 (j := 0) rfl
  have hfz : ((((w.alloc (.cells #[.int .i64 k, .int .i64 lo, .int .i64 hi, .slice an nn cn, .slice ap np cp, .slice ar nr cr] 26)).alloc (.cells #[.int .i64 0] 3)).alloc (.cells #[.nilFunc] 40))).frozen? ⟨w.heap.size + 1 + 1, 0, none⟩ = false := by simp only [World.frozen?, n3]; rfl
  clear hr q1 q2 q3 n3 H
  go_enter Try.func6, Try.ntmps6
  go_wp2_with (go_at_call 18; go_loud (refine (CALL.out).mono ?_; rintro e w3 ⟨rfl, h3, h4⟩; have C3 := hid_of h3; have K3 := hid_of h4; clear h3 h4))
  go_ret
  exact ⟨ret_i (by rw [HR.out]; rfl), HBW.out.trans (K3.out.below (by simp; omega) (fun k hk => by omega))⟩
end Go.Proofs.Ytdmonbcinlmljaa

/- slices.Index, clone of a description without rows, Field. Bounds on sizes alone. -/
namespace Go.Proofs.Ytdmonbcinlmljaa
open Go.RowKit

section
variable {P : Program} {fn : Func} {ty : TypeId} {tmps : Array Value} {w : World} {t : TypeId} {cs : Array Value} {fr : Nat × Nat} {d : TypeDesc}
theorem res_ct {p u : Tmp} (h : fn.results = #[.cell p ty, .tmp u]) (g : Nat) (hp : tmps.getD p undef = .pointer (some ⟨g, 0, none⟩)) (hg : w.heap[g]? = some (.cells cs t fr))
    (hu : P.underlying ty = some d) (hd : (match d with | .struct _ | .array _ _ => true | _ => false) = true) (hi : (P.info? ty).map (·.size) = some cs.size) :
    (results fn tmps).run P w = .ok (.tuple #[.agg cs, tmps.getD u undef]) w := by
  rw [results_cell_tmp h, hp]
  simp [asAddr, run_loadVar_row w g t ty cs fr d hg hu hd hi]
end
theorem infoLat : (Try.prog.info? 26).map (·.size) = some 6 := by kernel_rfl

set_option maxRecDepth 100000 in
theorem cloneS_nil (w : World) : Calls Try.prog 44 #[.slice none 0 0] w fun e w' => e = .returned (.slice none 0 0) ∧ w = w' := by
  have q : ∀ (w : World) (a : Option Addr) (n c n' c' : Nat), (binOp .eql 22 (.slice a n c) (.slice none n' c')).run Try.prog w = .ok (.bool a.isNone) w := fun w a n c n' c' => Lib.run_eql_slice_nil w _ _ a n c n' c' Try.underlying22
  go_enter Try.func44, Try.ntmps44
  go_wp2
  go_ret
  exact ⟨rfl, rfl⟩

set_option maxRecDepth 100000 in
theorem eachL_nil (w : World) (fv : Value) : Calls Try.prog 45 #[.slice none 0 0, fv] w fun e w' => e = .returned (.slice none 0 0) ∧ w = w' := by
  go_enter Try.func45, Try.ntmps45
  go_wp2
  go_ret
  exact ⟨rfl, rfl⟩

set_option maxRecDepth 100000 in
theorem eachR_nil (w : World) (fv : Value) : Calls Try.prog 46 #[.slice none 0 0, fv] w fun e w' => e = .returned (.slice none 0 0) ∧ w = w' := by
  go_enter Try.func46, Try.ntmps46
  go_wp2
  go_ret
  exact ⟨rfl, rfl⟩

set_option maxRecDepth 100000 in
set_option maxHeartbeats 3200000 in
theorem clone_leaf (k lo hi : Int) (w : World) : Calls Try.prog 21 #[.agg #[.int .i64 k, .int .i64 lo, .int .i64 hi, .slice none 0 0, .slice none 0 0, .slice none 0 0]] w fun e w' => e = .returned (.agg #[.int .i64 k, .int .i64 lo, .int .i64 hi, .slice none 0 0, .slice none 0 0, .slice none 0 0]) ∧ Below w.heap.size w w' := by
  have CS := hid_of cloneS_nil
  have CL := hid_of eachL_nil
  have CR := hid_of eachR_nil
  go_enter Try.func21, Try.ntmps21
  have cs0 : (w.alloc (.cells #[.int .i64 k, .int .i64 lo, .int .i64 hi, .slice none 0 0, .slice none 0 0, .slice none 0 0] 26)).cell? ⟨w.heap.size, 3, none⟩ = some (.slice none 0 0) := cell_blk (cs := [.int .i64 k, .int .i64 lo, .int .i64 hi, .slice none 0 0, .slice none 0 0, .slice none 0 0]) (heap_alloc_new w _) rfl
  go_wp2
  go_region_held3 (fun W => W.cell? ⟨w.heap.size, 3, none⟩ = some (.slice none 0 0) ∧ W.cell? ⟨w.heap.size, 4, none⟩ = some (.slice none 0 0) ∧ W.cell? ⟨w.heap.size, 5, none⟩ = some (.slice none 0 0)) (go_keep) (first
    | (go_at_call 44; ((with_reducible refine (CS.out _).mono ?_); (rintro e w2 ⟨rfl, rfl⟩)))
    | (go_at_call 45; ((with_reducible refine (CL.out _ _).mono ?_); (rintro e w2 ⟨rfl, rfl⟩)))
    | (go_at_call 46; ((with_reducible refine (CR.out _ _).mono ?_); (rintro e w2 ⟨rfl, rfl⟩))))
  go_wp2
  refine bodyPost_ret (results_cell_row rfl _ _ (w.heap.size + 1) 26 #[.int .i64 k, .int .i64 lo, .int .i64 hi, .slice none 0 0, .slice none 0 0, .slice none 0 0] (0, 0) _ rfl (two_new w _ _).2 Try.underlying26 rfl infoLat) rfl ⟨rfl, ?_⟩
  exact (bel_alloc w _).trans ((bel_alloc _ _).drew.mono (by simp))
/-- Where the string s stands first in l, or -1. -/
def At (l : List Str) (s : Str) (r : Int) : Prop := (∃ n : Nat, r = n ∧ l[n]? = some s ∧ ∀ j, j < n → l[j]? ≠ some s) ∨ (r = -1 ∧ s ∉ l)
set_option maxRecDepth 100000 in
set_option maxHeartbeats 3200000 in
theorem index_any (l : List Str) (s : Str) (r : Int) (ao : Option Addr) (n cap : Nat) (w : World) (R : Rd w (.slice ao n cap) (ss l)) (hr : At l s r) :
    Calls Try.prog 20 #[.slice ao n cap, .string (ba s)] w fun e w' => e = .returned (.int .i64 r) ∧ w' = w := by
  obtain ⟨hn, _, hcap, h3⟩ := rds_open R
  have HR := hid_of hr
  have HN := hid_of hn
  have H3 := hid_of h3
  obtain ⟨bs, hbs⟩ : ∃ bs, bs = ba s := ⟨_, rfl⟩
  rw [← hbs]
  have HBS := hid_of hbs
  clear hr hn h3 R hbs
  go_enter Try.func20, Try.ntmps20
  go_wp2
  go_loopw [8] (fun iv wr => ∃ i : Nat, iv = .int .i64 i ∧ i ≤ n ∧ Hid (∀ j, j < i → l[j]? ≠ some s) ∧ w = wr) (fun iv _ => n - (intOf iv).toNat)
  case atStart => exact ⟨0, rfl, Nat.zero_le _, hid_of (fun j h => absurd h (Nat.not_lt_zero j)), rfl⟩
  case round =>
    obtain ⟨i, rfl, hi, HM, rfl⟩ := hrel
    by_cases hlt : i < n
    · have d1 : decide (i < n) = true := decide_eq_true hlt
      have hlt' : (i : Int) < (n : Int) := by omega
      have HLT := hid_of hlt
      have hl : i < l.length := by have := HN.out; omega
      rcases H3.out with h3 | ⟨g, o, rfl, hg, hc⟩
      · exfalso; rw [h3] at hl; simp at hl
      have c1 := hc i _ (List.getElem?_eq_getElem hl)
      obtain ⟨bx, hx⟩ : ∃ bx, bx = ba l[i] := ⟨_, rfl⟩
      rw [← hx] at c1
      by_cases he : s = l[i]
      · have et := eq_t HBS.out hx he
        have RE : Hid ((i : Int) = r) := hid_of (by
          rcases HR.out with ⟨m, h1, h2, h3⟩ | ⟨_, h2⟩
          · rw [h1]
            by_cases e : m = i
            · rw [e]
            · by_cases e2 : m < i
              · exact absurd h2 (HM.out m e2)
              · exact absurd (by rw [List.getElem?_eq_getElem hl, he]) (h3 i (by omega))
          · exact absurd (by rw [he]; exact List.getElem_mem hl) h2)
        clear hlt hc hx he hl H3 hg
        go_wp2
        go_ret
        exact ⟨ret_i RE.out, rfl⟩
      · have et := eq_f HBS.out hx he
        have HE : Hid (∀ j, j < i + 1 → l[j]? ≠ some s) := hid_of (fun j hj => by
          by_cases e : j = i
          · subst e; rw [List.getElem?_eq_getElem hl]; intro h; exact he (Option.some.inj h).symm
          · exact HM.out j (by omega))
        clear hlt hc hx he hl H3 hg
        go_wp2
        go_roundw
        case rel => exact ⟨i + 1, by go_num, HLT.out, HE, by first | trivial | rfl⟩
        case measure => have := HLT.out; simp [intOf]; omega
    · have d1 : decide (i < n) = false := decide_eq_false hlt
      have RE : Hid ((-1 : Int) = r) := hid_of (by
        rcases HR.out with ⟨m, h1, h2, _⟩ | ⟨h1, _⟩
        · exfalso
          have hm := (List.getElem?_eq_some_iff.1 h2).1
          have := HN.out
          exact HM.out m (by omega) h2
        · exact h1.symm)
      go_wp2
      go_ret
      exact ⟨ret_i RE.out, rfl⟩
end Go.Proofs.Ytdmonbcinlmljaa

/- Field of package lattice, where there is the field. Bounds on sizes alone. -/
namespace Go.Proofs.Ytdmonbcinlmljaa
open Go.RowKit

set_option maxRecDepth 100000 in
set_option maxHeartbeats 3200000 in
theorem field_yes (lo hi : Int) (an : Option Addr) (nn cn : Nat) (g o np cp : Nat) (ar : Option Addr) (nr cr : Nat) (kA loA hiA : Int) (anA : Option Addr) (nnA cnA : Nat) (apA : Option Addr) (npA cpA : Nat) (arA : Option Addr) (nrA crA : Nat) (ns : List Str) (s : Str) (i : Nat) (w : World) (R : Rd w (.slice an nn cn) (ss ns)) (hat : At ns s i) (hin : i < np) (hnp : np ≤ 9223372036854775807)
    (hc : ∀ w', Below w.heap.size w w' → w'.cell? ⟨g, o + i * 6, none⟩ = some (.int .i64 kA) ∧ w'.cell? ⟨g, o + i * 6 + 1, none⟩ = some (.int .i64 loA) ∧ w'.cell? ⟨g, o + i * 6 + 2, none⟩ = some (.int .i64 hiA) ∧ w'.cell? ⟨g, o + i * 6 + 3, none⟩ = some (.slice anA nnA cnA) ∧ w'.cell? ⟨g, o + i * 6 + 4, none⟩ = some (.slice apA npA cpA) ∧ w'.cell? ⟨g, o + i * 6 + 5, none⟩ = some (.slice arA nrA crA))
    (Q : Array Value → World → Prop)
    (CL : ∀ wz, Below w.heap.size w wz → w.heap.size + 2 ≤ wz.heap.size → Calls Try.prog 21 #[.agg #[.int .i64 kA, .int .i64 loA, .int .i64 hiA, .slice anA nnA cnA, .slice apA npA cpA, .slice arA nrA crA]] wz fun e w' => ∃ cells, e = .returned (.agg cells) ∧ cells.size = 6 ∧ cells.all (·.oneCell') = true ∧ Below wz.heap.size wz w' ∧ Q cells w') :
    Calls Try.prog 7 #[.agg #[.int .i64 6, .int .i64 lo, .int .i64 hi, .slice an nn cn, .slice (some ⟨g, o, none⟩) np cp, .slice ar nr cr], .string (ba s)] w fun e w' => ∃ cells w3, e = .returned (.tuple #[.agg cells, .bool true]) ∧ Q cells w3 ∧ w' = w3.setRow (w.heap.size + 1) cells ∧ Below w.heap.size w w' := by
  obtain ⟨bs, hbs⟩ : ∃ bs, bs = ba s := ⟨_, rfl⟩
  have HBW : Hid (Below w.heap.size w ((w.alloc (.cells #[.int .i64 6, .int .i64 lo, .int .i64 hi, .slice an nn cn, .slice (some ⟨g, o, none⟩) np cp, .slice ar nr cr] 26)).alloc (.cells #[.int .i64 0, .int .i64 0, .int .i64 0, .slice none 0 0, .slice none 0 0, .slice none 0 0] 26))) := hid_of ((bel_alloc w _).trans ((bel_alloc _ _).mono (by simp)))
  obtain ⟨q1, q2⟩ := two_new w (.cells #[.int .i64 6, .int .i64 lo, .int .i64 hi, .slice an nn cn, .slice (some ⟨g, o, none⟩) np cp, .slice ar nr cr] 26) (.cells #[.int .i64 0, .int .i64 0, .int .i64 0, .slice none 0 0, .slice none 0 0, .slice none 0 0] 26)
  have IX := hid_of (index_any ns s i an nn cn ((w.alloc (.cells #[.int .i64 6, .int .i64 lo, .int .i64 hi, .slice an nn cn, .slice (some ⟨g, o, none⟩) np cp, .slice ar nr cr] 26)).alloc (.cells #[.int .i64 0, .int .i64 0, .int .i64 0, .slice none 0 0, .slice none 0 0, .slice none 0 0] 26)) (R.at HBW.out) hat)
  rw [← hbs] at IX ⊢
  obtain ⟨c0, c1, c2, c3, c4, c5⟩ := hc ((w.alloc (.cells #[.int .i64 6, .int .i64 lo, .int .i64 hi, .slice an nn cn, .slice (some ⟨g, o, none⟩) np cp, .slice ar nr cr] 26)).alloc (.cells #[.int .i64 0, .int .i64 0, .int .i64 0, .slice none 0 0, .slice none 0 0, .slice none 0 0] 26)) HBW.out
  have CLL := hid_of (CL ((w.alloc (.cells #[.int .i64 6, .int .i64 lo, .int .i64 hi, .slice an nn cn, .slice (some ⟨g, o, none⟩) np cp, .slice ar nr cr] 26)).alloc (.cells #[.int .i64 0, .int .i64 0, .int .i64 0, .slice none 0 0, .slice none 0 0, .slice none 0 0] 26)) HBW.out (by simp))
  have HB2 : Hid (∀ w3, Below (((w.alloc (.cells #[.int .i64 6, .int .i64 lo, .int .i64 hi, .slice an nn cn, .slice (some ⟨g, o, none⟩) np cp, .slice ar nr cr] 26)).alloc (.cells #[.int .i64 0, .int .i64 0, .int .i64 0, .slice none 0 0, .slice none 0 0, .slice none 0 0] 26))).heap.size ((w.alloc (.cells #[.int .i64 6, .int .i64 lo, .int .i64 hi, .slice an nn cn, .slice (some ⟨g, o, none⟩) np cp, .slice ar nr cr] 26)).alloc (.cells #[.int .i64 0, .int .i64 0, .int .i64 0, .slice none 0 0, .slice none 0 0, .slice none 0 0] 26)) w3 → w3.heap[w.heap.size + 1]? = some (.cells #[.int .i64 0, .int .i64 0, .int .i64 0, .slice none 0 0, .slice none 0 0, .slice none 0 0] 26)) := hid_of (fun w3 h => (h.block _ (by simp)).trans q2)
  have d1 : decide ((i : Int) < 0) = false := decide_eq_false (by omega)
  have d2 : decide (np ≤ i) = false := decide_eq_false (by omega)
  have d3 : decide ((np : Int) ≤ (i : Int)) = false := decide_eq_false (by omega)
  have hi' : (i : Int) < (np : Int) := by omega
  clear hc CL R hat hbs q1 q2
  go_enter Try.func7, Try.ntmps7
  go_wp2_with (first
    | (go_at_call 20; ((with_reducible refine (IX.out).mono ?_); (rintro e w2 ⟨rfl, rfl⟩)))
    | (go_at_call 21; ((with_reducible refine (CLL.out).mono ?_); (rintro e w3 ⟨cells, rfl, hcs, h1, h2, hq⟩)); (have H3 := hid_of h2); (have HCS := hid_of hcs); (have H1 := hid_of h1); (have HQ := hid_of hq); clear hcs h1 h2 hq)
    | (refine wpList_store_row rfl 26 (.tmp 4) (.tmp 31) rfl (w.heap.size + 1) cells rfl rfl 26 _ (HB2.out w3 H3.out) (by rw [HCS.out]; exact infoLat) (by rw [HCS.out]; rfl) H1.out ?_))
  refine bodyPost_ret (res_ct (cs := cells) rfl (w.heap.size + 1) rfl (setRow_heap _ _ _ cells _ _ (HB2.out w3 H3.out)) Try.underlying26 rfl (by rw [HCS.out]; exact infoLat)) rfl ⟨cells, w3, rfl, HQ.out, rfl, ?_⟩
  exact below_setRow (HBW.out.trans (H3.out.mono (by simp; omega))) (by omega) cells
end Go.Proofs.Ytdmonbcinlmljaa

/- Plain mathematics of the wire encoding: groups of seven bits, the reading of a number, zigzag. No condition. -/
namespace Go.Proofs.Ytdmonbcinlmljaa.Wr
open Go.RowKit

/-- The encoding of a number without sign. -/
def enc (n : Nat) : List Int := if n < 128 then [(n : Int)] else ((n % 128 + 128 : Nat) : Int) :: enc (n / 128)
termination_by n
decreasing_by omega

theorem enc_lt {n : Nat} (h : n < 128) : enc n = [(n : Int)] := by rw [enc, if_pos h]
theorem enc_ge {n : Nat} (h : ¬ n < 128) : enc n = ((n % 128 + 128 : Nat) : Int) :: enc (n / 128) := by rw [enc, if_neg h]

theorem enc_length_pos (n : Nat) : 0 < (enc n).length := by
  rw [enc]; split <;> simp

theorem enc_length_le : ∀ (k n : Nat), n < 128 ^ (k + 1) → (enc n).length ≤ k + 1 := by
  intro k
  induction k with
  | zero => intro n h; rw [enc_lt (by simpa using h)]; simp
  | succ k ih =>
    intro n h
    by_cases h1 : n < 128
    · rw [enc_lt h1]; simp
    · rw [enc_ge h1]
      have := ih (n / 128) (by rw [Nat.div_lt_iff_lt_mul (by omega)]; rw [Nat.pow_succ] at h; exact h)
      simp; omega

theorem enc_length_10 (n : Nat) (h : n < 18446744073709551616) : (enc n).length ≤ 10 := enc_length_le 9 n (by omega)

theorem enc_bytes : ∀ (k n : Nat), n ≤ k → ∀ x ∈ enc n, 0 ≤ x ∧ x ≤ 255 := by
  intro k
  induction k with
  | zero => intro n h x hx; rw [enc_lt (by omega)] at hx; simp at hx; omega
  | succ k ih =>
    intro n h x hx
    by_cases h1 : n < 128
    · rw [enc_lt h1] at hx; simp at hx; omega
    · rw [enc_ge h1] at hx
      rcases List.mem_cons.1 hx with rfl | hx
      · omega
      · exact ih (n / 128) (by omega) x hx

theorem enc_byte (n : Nat) : ∀ x ∈ enc n, 0 ≤ x ∧ x ≤ 255 := enc_bytes n n (Nat.le_refl _)

/-- What the loop of Uint has written after k rounds, and what is left of the number. -/
def encTake : Nat → Nat → List Int
  | 0, _ => []
  | k + 1, n => ((n % 128 + 128 : Nat) : Int) :: encTake k (n / 128)
theorem encTake_length : ∀ k n, (encTake k n).length = k := by
  intro k; induction k with
  | zero => intro n; rfl
  | succ k ih => intro n; simp [encTake, ih]
theorem encTake_snoc : ∀ k n, encTake (k + 1) n = encTake k n ++ [((n / 128 ^ k % 128 + 128 : Nat) : Int)] := by
  intro k; induction k with
  | zero => intro n; simp [encTake]
  | succ k ih =>
    intro n
    rw [encTake, ih (n / 128)]
    simp only [encTake, List.cons_append]
    rw [Nat.div_div_eq_div_mul, Nat.pow_succ, Nat.mul_comm]

/-- While every rest so far was 128 or more: the encoding is what was written, and that of the rest. -/
theorem enc_take : ∀ k n, (∀ j, j < k → 128 ≤ n / 128 ^ j) → enc n = encTake k n ++ enc (n / 128 ^ k) := by
  intro k; induction k with
  | zero => intro n _; simp [encTake]
  | succ k ih =>
    intro n h
    have h0 := h 0 (by omega)
    rw [enc_ge (by simpa using h0), encTake, ih (n / 128)]
    · simp only [List.cons_append]
      rw [Nat.div_div_eq_div_mul, Nat.pow_succ, Nat.mul_comm]
    · intro j hj
      have := h (j + 1) (by omega)
      rw [Nat.pow_succ, Nat.mul_comm, ← Nat.div_div_eq_div_mul] at this
      exact this

end Go.Proofs.Ytdmonbcinlmljaa.Wr
