/- Texts in one: AppOwn, Row, PrRow, DsRow, DsMath, DsCom, DgMap, DgRef, DgRd, DgWr, DgSy. -/
import Derived.Deep.AppendSrc
import Derived.Deep.AppendLies
import Derived.WalkKit
import Derived.WalkSpells
import Derived.WalkLawsBesides
import Derived.Below
import Derived.Laws.CopyOwn
import Derived.Deep.RegionHeld3
import Derived.Deep.RegionLaw
import Derived.Deep.QuietTactic
import Derived.BigQuiet
import Derived.BigRegion
import Derived.RegionTactic
import Derived.StillTailTactics
import Derived.IntWalk
import Derived.Outline
import Derived.Lib.Hide
import Derived.OpenShut
import Derived.Deep.Draws
import Derived.Deep.CutRange
import Derived.Test.YtlffiebnieakjaaDoorProg
import Derived.Maps.OwnSet
import Derived.Shelf.SlMaps.Copy
import Derived.Deep.OwnRows
import Derived.Carry
set_option linter.unusedVariables false
set_option linter.unusedSimpArgs false
/- append of whatever source (a slice, a nil slice, a string) onto a slice that the call owns: the law for the walk. It asks that the sizes fit. -/
namespace Go.Proofs.YtlffiebnieakjaaDoor

section
variable {P : Program} (w : World)

theorem run_append_src_own (base : Nat) (t tx ty e : TypeId) (i : TypeInfo) (z : Value) (size bytes : Nat) (ht : P.underlying t = some (.slice e)) (hi : P.info? e = some i) (hz : i.zero = some z)
    (hsize : i.size = size) (hby : i.bytes = bytes) (hzs : z.cells.size = size) (hsz : 0 < size)
    (v : Value) (n : Nat) (xs : List Value) (hown : w.ownsRow base e size v n xs) (x : Value) (m : Nat) (news : List Value) (hs : Src P size tx x m news w)
    (h63 : n + m ≤ maxLen) (hbytes : (n + m) * bytes ≤ 140737488355328) (hbase : base ≤ w.heap.size) :
    ∃ v' w', (Builtin.append_ #[t, tx] ty #[v, x]).run P w = .ok v' w' ∧ w'.ownsRow base e size v' (n + m) (xs ++ news) ∧ w.grownBy w' v.ownBlock ∧
      (v' = .slice none 0 0 ↔ v = .slice none 0 0 ∧ m = 0) ∧ (v'.ownBlock = v.ownBlock ∨ v'.ownBlock = some w.heap.size) := by
  subst hsize
  subst hby
  have hl := hs.newsLen
  have hsmall : n + m ≤ 9223372036854775807 := by simp only [maxLen] at h63; omega
  have hlen : (xs ++ news).length = (n + m) * i.size := by rw [List.length_append, hown.1, hl, Nat.add_mul]
  have grown : ∀ (old : Nat), old < n + m → ∀ (row : Option Nat),
      (w.drew.alloc (.cells ((xs ++ news).toArray ++ Builtin.zeroCells z.cells (grownCap w (n + m) old e - (n + m))) e)).ownsRow base e i.size
        (.slice (some ⟨w.heap.size, 0, none⟩) (n + m) (grownCap w (n + m) old e)) (n + m) (xs ++ news) ∧
      w.grownBy (w.drew.alloc (.cells ((xs ++ news).toArray ++ Builtin.zeroCells z.cells (grownCap w (n + m) old e - (n + m))) e)) row := by
    intro old ho row
    have hge := grownCap_ge w (n + m) old e
    have hcm : grownCap w (n + m) old e ≤ maxLen := grownCap_le_maxLen w (n + m) old e h63
    refine ⟨⟨hlen, .inr ⟨w.heap.size, _, _, rfl, hbase, heap_alloc_new w.drew _, hge, hcm, ?_, ?_⟩⟩, ⟨rfl, rfl, rfl, by simp, fun k hk _ => Go.RowKit.Below.heap_alloc w.drew _ k hk⟩⟩
    · rw [Array.size_append, List.size_toArray, size_zeroCells, hzs, hlen, ← Nat.add_mul]
      congr 1
      omega
    · rw [Array.toList_append, ← hlen]
      exact List.take_left
  rcases hown.2 with ⟨rfl, rfl⟩ | ⟨g, cap, cur, rfl, hbg, hg, hnc, hcm, hcs, htake⟩
  · have hx : xs = [] := List.eq_nil_of_length_eq_zero (by simpa using hown.1)
    subst hx
    by_cases hm : m = 0
    · subst hm
      have hn : news = [] := List.eq_nil_of_length_eq_zero (by simpa using hl)
      subst hn
      refine ⟨.slice none 0 0, w, ?_, World.ownsRow_nil w base e i.size, ⟨rfl, rfl, rfl, Nat.le_refl _, fun _ _ _ => rfl⟩, by simp, Or.inl rfl⟩
      rcases hs.kind with ⟨e', hk⟩ | hk <;> simp [Builtin.append_, run_underlying ht, run_underlying hk, sizeOf, typeInfo, hi, hs.len, hs.cells]
    · have hr := run_append_grow_src (P := P) w t tx ty e i z ht hi hz none 0 0 [] (by simp [Builtin.firstCells]) x m news hs (by omega) (by omega) (growslice_fits (by omega) hbytes)
      have hgr := grown 0 (by omega) (Value.ownBlock (.slice none 0 0))
      exact ⟨_, _, hr, hgr.1, hgr.2, by simp [hm], Or.inr rfl⟩
  · by_cases hroom : n + m ≤ cap
    · have hfit : n * i.size + news.length ≤ cur.size := by rw [hl, hcs, ← Nat.add_mul]; exact Nat.mul_le_mul_right _ hroom
      have hst := run_storeCells_at P g (n * i.size) e news 0 cur w hg (by simpa using hfit) hs.one
      simp only [Nat.add_zero] at hst
      have hr : (Builtin.append_ #[t, tx] ty #[.slice (some ⟨g, 0, none⟩) n cap, x]).run P w =
          .ok (.slice (some ⟨g, 0, none⟩) (n + m) cap) (w.setRow g (cur.toList.take (n * i.size) ++ news ++ cur.toList.drop (n * i.size + news.length)).toArray) := by
        rcases hs.kind with ⟨e', hk⟩ | hk <;> simp [Builtin.append_, run_underlying ht, run_underlying hk, sizeOf, typeInfo, hi, hs.len, hroom, hs.cells, Addr.add_lit, hst]
      refine ⟨_, _, hr, ⟨hlen, .inr ⟨g, cap, _, rfl, hbg, setRow_heap w g cur _ e _ hg, hroom, hcm, ?_, ?_⟩⟩, ⟨rfl, rfl, rfl, by simp, fun k _ hk => setRow_other w g k _ (fun e => hk (by simp [Value.ownBlock, e]))⟩, by simp, Or.inl rfl⟩
      · simp only [List.size_toArray, List.length_append, List.length_take, List.length_drop, Array.length_toList]
        omega
      · rw [htake, ← hlen]
        exact List.take_left
    · have holds : ∀ j u, xs[j]? = some u → w.drew.cell? ((⟨g, 0, none⟩ : Addr).add j) = some u := by simpa using hown.cells (g := g) rfl
      have hr := run_append_grow_src (P := P) w t tx ty e i z ht hi hz (some ⟨g, 0, none⟩) n cap xs (run_firstCells_some w.drew i.size n ⟨g, 0, none⟩ n cap xs hown.1 holds) x m news hs (by omega) (by omega) (growslice_fits (by omega) hbytes)
      have hgr := grown cap (by omega) (Value.ownBlock (.slice (some ⟨g, 0, none⟩) n cap))
      exact ⟨_, _, hr, hgr.1, hgr.2, by simp, Or.inr rfl⟩

theorem wp_append_src {o : Oper} {a : Act} {K : Act → World → Prop} {Q : Exit → Act → World → Prop} (s x : Operand) (t tx : TypeId)
    (ho : o.op = .call { callee := .builtin .append, args := #[s, x], argTypes := #[t, tx] })
    (base : Nat) (e : TypeId) (i : TypeInfo) (z : Value) (size bytes : Nat) (ht : P.underlying t = some (.slice e)) (hi : P.info? e = some i) (hz : i.zero = some z)
    (hsize : i.size = size) (hby : i.bytes = bytes) (hzs : z.cells.size = size) (hsz : 0 < size)
    (v : Value) (n : Nat) (xs : List Value) (he : a.eval s = v) (hown : w.ownsRow base e size v n xs) (y : Value) (m : Nat) (news : List Value) (hx : a.eval x = y) (hs : Src P size tx y m news w)
    (h63 : n + m ≤ maxLen) (hbytes : (n + m) * bytes ≤ 140737488355328) (hbase : base ≤ w.heap.size)
    (h : ∀ v' w', w'.ownsRow base e size v' (n + m) (xs ++ news) → w.grownBy w' v.ownBlock → (v' = .slice none 0 0 ↔ v = .slice none 0 0 ∧ m = 0) → (v'.ownBlock = v.ownBlock ∨ v'.ownBlock = some w.heap.size) → K (a.put o.dst v') w') :
    Oper.wp P o a w K Q := by
  obtain ⟨v', w', hr, h2, h3, h4, h5⟩ := run_append_src_own (P := P) w base t tx o.type e i z size bytes ht hi hz hsize hby hzs hsz v n xs hown y m news hs h63 hbytes hbase
  unfold Oper.wp execOp
  simp only [ho, resolve, invoke, builtin, Sem.run_bind, Sem.run_pure, Result.andThen_ok, List.map_toArray, List.map_cons, List.map_nil, he, hx, hr]
  exact h v' w' h2 h3 h4 h5

theorem wpList_append_src {ops : Array Oper} {rest : List Oper} {o : Oper} {a : Act} {Q : Exit → Act → World → Prop} (hgd : o.guard = none) (s x : Operand) (t tx : TypeId)
    (ho : o.op = .call { callee := .builtin .append, args := #[s, x], argTypes := #[t, tx] })
    (base : Nat) (e : TypeId) (i : TypeInfo) (z : Value) (size bytes : Nat) (ht : P.underlying t = some (.slice e)) (hi : P.info? e = some i) (hz : i.zero = some z)
    (hsize : i.size = size) (hby : i.bytes = bytes) (hzs : z.cells.size = size) (hsz : 0 < size)
    (v : Value) (n : Nat) (xs : List Value) (he : a.eval s = v) (hown : w.ownsRow base e size v n xs) (y : Value) (m : Nat) (news : List Value) (hx : a.eval x = y) (hs : Src P size tx y m news w)
    (h63 : n + m ≤ maxLen) (hbytes : (n + m) * bytes ≤ 140737488355328) (hbase : base ≤ w.heap.size)
    (h : ∀ v' w', w'.ownsRow base e size v' (n + m) (xs ++ news) → w.grownBy w' v.ownBlock → (v' = .slice none 0 0 ↔ v = .slice none 0 0 ∧ m = 0) → (v'.ownBlock = v.ownBlock ∨ v'.ownBlock = some w.heap.size) → wpList P ops Q rest (a.put o.dst v') w') :
    wpList P ops Q (o :: rest) a w :=
  wpList_plain hgd fun _ hK => wp_append_src w s x t tx ho base e i z size bytes ht hi hz hsize hby hzs hsz v n xs he hown y m news hx hs h63 hbytes hbase fun v' w' h2 h3 h4 h5 => hK _ _ (h v' w' h2 h3 h4 h5)

theorem step_append_src {ops : Array Oper} {o : Oper} {a : Act} {K : Act → World → Prop} {Q : Exit → Act → World → Prop} {E : Prop} (hgd : o.guard = none) (s x : Operand) (t tx : TypeId)
    (ho : o.op = .call { callee := .builtin .append, args := #[s, x], argTypes := #[t, tx] })
    (base : Nat) (e : TypeId) (i : TypeInfo) (z : Value) (size bytes : Nat) (ht : P.underlying t = some (.slice e)) (hi : P.info? e = some i) (hz : i.zero = some z)
    (hsize : i.size = size) (hby : i.bytes = bytes) (hzs : z.cells.size = size) (hsz : 0 < size)
    (v : Value) (n : Nat) (xs : List Value) (he : a.eval s = v) (hown : w.ownsRow base e size v n xs) (y : Value) (m : Nat) (news : List Value) (hx : a.eval x = y) (hs : Src P size tx y m news w)
    (h63 : n + m ≤ maxLen) (hbytes : (n + m) * bytes ≤ 140737488355328) (hbase : base ≤ w.heap.size)
    (h : ∀ v' w', w'.ownsRow base e size v' (n + m) (xs ++ news) → w.grownBy w' v.ownBlock → (v' = .slice none 0 0 ↔ v = .slice none 0 0 ∧ m = 0) → (v'.ownBlock = v.ownBlock ∨ v'.ownBlock = some w.heap.size) → K (a.put o.dst v') w') :
    if Region.wanted o (yielded ops a.tmps) = true then Oper.wp P o a w K Q else E := by
  have hw : Region.wanted o (yielded ops a.tmps) = true := by simp [Region.wanted, hgd]
  rw [if_pos hw]
  exact wp_append_src w s x t tx ho base e i z size bytes ht hi hz hsize hby hzs hsz v n xs he hown y m news hx hs h63 hbytes hbase h

end
end Go.Proofs.YtlffiebnieakjaaDoor

/- Slices of elements of one cell: what a slice reads as, a slice of the call's own, append of the one onto the other. Bounds on sizes alone. -/
namespace Go.Proofs.YtlffiebnieakjaaDoor
open Go.RowKit

theorem hid_of {p : Prop} (h : p) : Hid p := h
theorem bel_alloc (w : World) (o : Obj) : Below w.heap.size w (w.alloc o) := (Below.refl _ _).alloc (Nat.le_refl _) o
theorem bel_fst {w w' : World} {o : Obj} (h : Below (w.alloc o).heap.size (w.alloc o) w') : Below w.heap.size w w' :=
  (bel_alloc w o).trans (h.mono (by simp))

theorem bel_drewN {B : Nat} {w w' : World} (h : Below B w w') (n : Nat) : Below B w (w'.drewN n) := ⟨h.os, h.tape, h.output, h.size, h.block⟩
/-- A slice type S over an element type E of one cell. -/
structure Elem (P : Program) (S E : TypeId) (z : Value) (eb : Nat) : Prop where
  und : P.underlying S = some (.slice E)
  info : (P.info? E).map (fun i => (i.zero, i.size, i.bytes)) = some (some z, 1, eb)
  one : z.cells.size = 1

/-- The slice v reads as the cells xs. -/
def Rd (w : World) (v : Value) (xs : List Value) : Prop :=
  ∃ ao cap, v = .slice ao xs.length cap ∧ xs.length ≤ cap ∧ cap ≤ 9223372036854775807 ∧ (0 < xs.length → ∃ g o, ao = some ⟨g, o, none⟩ ∧ g < w.heap.size ∧ ∀ j u, xs[j]? = some u → w.cell? ⟨g, o + j, none⟩ = some u)
theorem Rd.later {w w' : World} {v : Value} {l : List Value} {B : Nat} (h : Rd w v l) (hb : Below B w w') (hB : w.heap.size ≤ B) : Rd w' v l := by
  obtain ⟨ao, cap, h1, h2, h3, h4⟩ := h
  refine ⟨ao, cap, h1, h2, h3, fun h0 => ?_⟩
  obtain ⟨g, o, q1, q2, q3⟩ := h4 h0
  exact ⟨g, o, q1, Nat.lt_of_lt_of_le q2 hb.size, fun j u hu => (hb.cell (p := ⟨g, o + j, none⟩) (by show g < B; omega)).trans (q3 j u hu)⟩
theorem Rd.at {w w' : World} {v : Value} {l : List Value} (h : Rd w v l) (hb : Below w.heap.size w w') : Rd w' v l := h.later hb (Nat.le_refl _)

theorem spot_none {w : World} {x : Addr} {u : Value} (h : w.cell? x = some u) : x = ⟨x.block, x.off, none⟩ := by
  obtain ⟨b, o, s⟩ := x
  cases s with
  | none => rfl
  | some s =>
    exfalso
    unfold World.cell? at h
    split at h <;> simp at h

/-- What the walk is told of a slice of integers that came in. -/
def IsRow (k : IntKind) (w : World) (a : Option Addr) (len cap : Nat) (zs : List Int) : Prop :=
  (a = none ∧ len = 0 ∧ cap = 0 ∧ zs = []) ∨
  ∃ x, a = some x ∧ len ≤ cap ∧ cap ≤ maxLen ∧ zs.length = cap ∧ (∀ i, i < zs.length → w.cell? (x.add i) = some (.int k (zs.getD i 0))) ∧ ∀ n ∈ zs, (Lit.int k n).wf = true

/-- A row of integers that came in, as a list. -/
theorem IsRow.rd {k : IntKind} {w : World} {a : Option Addr} {len cap : Nat} {zs : List Int} (h : IsRow k w a len cap zs) :
    ∃ l : List Int, l.length = len ∧ (∀ y ∈ l, (Lit.int k y).wf = true) ∧ Rd w (.slice a len cap) (l.map (Value.int k)) := by
  rcases h with ⟨rfl, rfl, rfl, rfl⟩ | ⟨x, rfl, h1, h2, h3, h4, h5⟩
  · exact ⟨[], rfl, by simp, none, 0, rfl, by simp, by omega, fun h => by simp at h⟩
  · unfold maxLen at h2
    have htl : (zs.take len).length = len := by rw [List.length_take]; omega
    refine ⟨zs.take len, htl, fun y hy => h5 y (List.mem_of_mem_take hy), some x, cap, by rw [List.length_map, htl], by rw [List.length_map]; omega, by omega, fun h0 => ?_⟩
    rw [List.length_map, htl] at h0
    have h6 := h4 0 (by omega)
    rw [show x.add 0 = x by rfl] at h6
    have hx := spot_none h6
    refine ⟨x.block, x.off, by rw [← hx], World.block_lt_of_cell? w _ h6, fun j u hu => ?_⟩
    have hj : j < len := by
      have := (List.getElem?_eq_some_iff.1 hu).1
      simp at this; omega
    have h7 := h4 j (by omega)
    rw [hx, Addr.add_mid] at h7
    rw [h7]
    simp only [List.getElem?_map, List.getElem?_take, hj, if_true] at hu
    rw [List.getElem?_eq_getElem (by omega)] at hu
    simp only [Option.map_some, Option.some.injEq] at hu
    rw [← hu]
    simp [List.getD, show j < zs.length by omega]

theorem Rd.srcs {P : Program} {S E : TypeId} {z : Value} {eb : Nat} (T : Elem P S E z eb) {w : World} {v : Value} {l : List Value} (h : Rd w v l) (h1 : ∀ u ∈ l, u.oneCell' = true) : Src P 1 S v l.length l w := by
  obtain ⟨ao, cap, rfl, h2, h3, h4⟩ := h
  cases ao with
  | none =>
    cases l with
    | nil => exact Src.ofNil _ T.und cap
    | cons x r => obtain ⟨g, o, q, _⟩ := h4 (by simp); cases q
  | some a =>
    refine Src.ofSlice _ T.und a l.length cap l (by simp) (fun j u hu => ?_) h1
    have h0 : 0 < l.length := by
      have := (List.getElem?_eq_some_iff.1 hu).1
      omega
    obtain ⟨g, o, q1, q2, q3⟩ := h4 h0
    cases q1
    rw [Addr.add_mid]; exact q3 j u hu

theorem own_shape {w : World} {base e size n : Nat} {v : Value} {xs : List Value} (h : w.ownsRow base e size v n xs) : ∃ ao cap, v = .slice ao n cap := by
  rcases h.2 with ⟨h1, h2⟩ | ⟨g, cap, cur, h1, _⟩
  · exact ⟨none, 0, by rw [h1, h2]⟩
  · exact ⟨_, cap, h1⟩

/-- A slice of the call's own that holds l; below B the world is as w0 was. -/
def Ow (E : TypeId) (B : Nat) (w0 w : World) (v : Value) (l : List Value) : Prop := B ≤ w0.heap.size ∧ Below B w0 w ∧ w.ownsRow B E 1 v l.length l
section
variable {E : TypeId} {B : Nat} {w0 w w' : World} {v : Value} {l : List Value}
theorem Ow.size (h : Ow E B w0 w v l) : B ≤ w.heap.size := Nat.le_trans h.1 h.2.1.size
theorem Ow.own (h : Ow E B w0 w v l) : w.ownsRow B E 1 v l.length l := h.2.2
theorem Ow.bel (h : Ow E B w0 w v l) : Below B w0 w := h.2.1
theorem Ow.alloc (h : Ow E B w0 w v l) (o : Obj) : Ow E B w0 (w.alloc o) v l := ⟨h.1, h.2.1.alloc h.size _, h.2.2.alloc o⟩
theorem Ow.drew (h : Ow E B w0 w v l) : Ow E B w0 w.drew v l := ⟨h.1, h.2.1.drew, h.2.2.drew⟩
theorem Ow.app {n : Nat} {v' : Value} {m : List Value} (h : Ow E B w0 w v l) (hown : w'.ownsRow B E 1 v' n (l ++ m)) (hn : n = l.length + m.length) (hg : w.grownBy w' v.ownBlock) : Ow E B w0 w' v' (l ++ m) := by
  subst hn
  refine ⟨h.1, h.2.1.grown hg h.size (fun k hk => (h.own.lt k hk).1), ?_⟩
  rw [List.length_append]
  exact hown
/-- What is owned stays owned where the row's block is as it was. -/
theorem own_same {w w' : World} {base e size n : Nat} {v : Value} {xs : List Value} (h : w.ownsRow base e size v n xs) (hs : ∀ k, v.ownBlock = some k → w'.heap[k]? = w.heap[k]?) : w'.ownsRow base e size v n xs := by
  obtain ⟨h1, h2⟩ := h
  refine ⟨h1, ?_⟩
  rcases h2 with h2 | ⟨g, cap, cur, hv, hb, hg, r⟩
  · exact .inl h2
  · exact .inr ⟨g, cap, cur, hv, hb, (hs g (by rw [hv]; rfl)).trans hg, r⟩
theorem Ow.later (h : Ow E B w0 w v l) (hb : Below w.heap.size w w') : Ow E B w0 w' v l :=
  ⟨h.1, h.2.1.trans (hb.mono h.size), own_same h.own fun k hk => hb.block k (h.own.lt k hk).2⟩
theorem ow_made {n g : Nat} (hown : w'.ownsRow w.heap.size E 1 (.slice (some ⟨g, 0, none⟩) 0 n) 0 []) (hgrow : w.grownBy w' none) : Ow E w.heap.size w w' (.slice (some ⟨g, 0, none⟩) 0 n) [] :=
  ⟨Nat.le_refl _, (Below.refl _ _).grown hgrow (Nat.le_refl _) (fun k h => by cases h), hown⟩
theorem ow_empty (E : TypeId) (w : World) : Ow E w.heap.size w (w.alloc (.cells #[] E)) (.slice (some ⟨w.heap.size, 0, none⟩) 0 0) [] :=
  ⟨Nat.le_refl _, bel_alloc w _, rfl, .inr ⟨w.heap.size, 0, #[], rfl, Nat.le_refl _, heap_alloc_new w _, Nat.le_refl _, by unfold maxLen; omega, rfl, rfl⟩⟩
theorem ow_nil (E : TypeId) (w : World) : Ow E w.heap.size w w (.slice none 0 0) [] := ⟨Nat.le_refl _, Below.refl _ _, World.ownsRow_nil _ _ _ _⟩
theorem Ow.start (h : Ow E B w0 w v l) {B2 : Nat} {w2 : World} (hB : B2 ≤ w2.heap.size) (hb : Below B2 w2 w0) (hle : B2 ≤ B) : Ow E B2 w2 w v l := by
  refine ⟨hB, hb.trans (h.bel.mono hle), h.own.1, ?_⟩
  rcases h.own.2 with h2 | ⟨g, cap, cur, hv, hb2, hg, r⟩
  · exact .inl h2
  · exact .inr ⟨g, cap, cur, hv, Nat.le_trans hle hb2, hg, r⟩
theorem Ow.rd (h : Ow E B w0 w v l) (_hl : l.length ≤ 140737488355328) : Rd w v l := by
  rcases h.own.2 with ⟨h1, h2⟩ | ⟨g, c, cur, h1, _, hg, hnc, hcm, _, ht⟩
  · exact ⟨none, 0, by rw [h1, h2], by omega, by omega, fun h => by omega⟩
  · unfold maxLen at hcm
    refine ⟨_, _, h1, hnc, by omega, fun h0 => ⟨g, 0, rfl, lt_of_block hg, fun j u hu => ?_⟩⟩
    have := World.news_of_block hg j u (by
      rw [← ht, List.getElem?_take] at hu
      split at hu
      · exact hu
      · cases hu)
    rw [Addr.add_mid] at this
    exact this
end

/-- A slice over a block that was made last. -/
theorem rd_new {w : World} {l : List Value} {n : Nat} {cs : Array Value} {E : TypeId} {m : Nat × Nat} (hn : n = l.length) (hc : cs = l.toArray) (h : l.length ≤ 9223372036854775807) : Rd (w.alloc (.cells cs E m)) (.slice (some ⟨w.heap.size, 0, none⟩) n n) l := by
  subst hn hc
  refine ⟨_, _, rfl, Nat.le_refl _, h, fun _ => ⟨_, _, rfl, by simp, fun j u hu => ?_⟩⟩
  have := World.news_of_block (heap_alloc_new w (.cells l.toArray E m)) j u (by simpa using hu)
  rw [Addr.add_mid] at this
  exact this

/-- append of a row. -/
theorem wpList_app {P : Program} {S E : TypeId} {z : Value} {eb : Nat} (T : Elem P S E z eb) {ops : Array Oper} {rest : List Oper} {o : Oper} {a : Act} {w : World} {Q : Exit → Act → World → Prop} (hgd : o.guard = none) (s x : Operand)
    (ho : o.op = .call { callee := .builtin .append, args := #[s, x], argTypes := #[S, S] })
    {B : Nat} {w0 : World} {v : Value} {l : List Value} (hv : a.eval s = v) (H : Ow E B w0 w v l) {vx : Value} {m : List Value} (hx : a.eval x = vx) (L : Rd w vx m) (h1 : ∀ u ∈ m, u.oneCell' = true) (hl : (l.length + m.length) * eb ≤ 140737488355328) (hl2 : l.length + m.length ≤ 140737488355328)
    (h : ∀ (ao : Option Addr) (n cap : Nat) (w' : World), n = l.length + m.length → Ow E B w0 w' (.slice ao n cap) (l ++ m) → wpList P ops Q rest (a.put o.dst (.slice ao n cap)) w') :
    wpList P ops Q (o :: rest) a w := by
  obtain ⟨i0, hi, hz0, hz1, hz2⟩ := info_parts T.info
  refine wpList_append_src _ hgd s x S S ho B E i0 z 1 eb T.und hi hz0 hz1 hz2 T.one (by decide) v l.length l hv H.own vx m.length m hx (L.srcs T h1) (by unfold maxLen; omega) (by omega) H.size ?_
  intro v2 w2 hown hg _ _
  have H2 := H.app hown rfl hg
  obtain ⟨ao, cap, rfl⟩ := own_shape hown
  exact h ao _ cap w2 rfl H2

/-- Between w and w' nothing has turned but the blocks of S and new ones. -/
structure Kept (S : Nat → Prop) (w w' : World) : Prop where
  os : w'.os = w.os
  tape : w'.tape = w.tape
  output : w'.output = w.output
  size : w.heap.size ≤ w'.heap.size
  block : ∀ k, k < w.heap.size → ¬ S k → w'.heap[k]? = w.heap[k]?
theorem Kept.below {S : Nat → Prop} {w w' : World} {B : Nat} (h : Kept S w w') (hB : B ≤ w.heap.size) (hS : ∀ k, S k → B ≤ k) : Below B w w' :=
  ⟨h.os, h.tape, h.output, h.size, fun k hk => h.block k (by omega) (fun hs => by have := hS k hs; omega)⟩
theorem Kept.drew {S : Nat → Prop} {w w' : World} (h : Kept S w w') : Kept S w w'.drew := ⟨h.os, h.tape, h.output, h.size, h.block⟩
theorem Kept.drewN {S : Nat → Prop} {w w' : World} (h : Kept S w w') (n : Nat) : Kept S w (w'.drewN n) := ⟨h.os, h.tape, h.output, h.size, h.block⟩
theorem Kept.refl (S : Nat → Prop) (w : World) : Kept S w w := ⟨rfl, rfl, rfl, Nat.le_refl _, fun _ _ _ => rfl⟩
theorem Kept.trans {S : Nat → Prop} {w w1 w2 : World} (h : Kept S w w1) (h2 : Kept S w1 w2) : Kept S w w2 :=
  ⟨h2.os.trans h.os, h2.tape.trans h.tape, h2.output.trans h.output, Nat.le_trans h.size h2.size, fun k h1 hs => (h2.block k (Nat.lt_of_lt_of_le h1 h.size) hs).trans (h.block k h1 hs)⟩
theorem Kept.ofBelow {S : Nat → Prop} {w w' : World} (h : Below w.heap.size w w') : Kept S w w' := ⟨h.os, h.tape, h.output, h.size, fun k h1 _ => h.block k h1⟩
theorem Kept.set (w : World) (b o : Nat) (v : Value) : Kept (fun k => k = b) w (w.setCell ⟨b, o, none⟩ v) :=
  ⟨rfl, rfl, rfl, by simp, fun k _ hk => Below.heap_setCell _ _ _ _ hk⟩

theorem blk_setCell {w : World} {g k t : Nat} {cur : List Value} {u : Value} (h : w.heap[g]? = some (.cells cur.toArray t (0, 0))) :
    (w.setCell ⟨g, k, none⟩ u).heap[g]? = some (.cells (cur.set k u).toArray t (0, 0)) := by
  have hlt := lt_of_block h
  have h' : w.heap[g] = .cells cur.toArray t (0, 0) := by simpa [Array.getElem?_eq_getElem hlt] using h
  show (w.heap.modify g _)[g]? = _
  rw [Array.getElem?_eq_getElem (by simpa using hlt), Array.getElem_modify_self, h']
  simp

/-- What make has laid, as a whole block. -/
theorem made_row {w : World} {B g e n : Nat} {z : Value} {xs : List Value} (h : w.ownsRow B e 1 (.slice (some ⟨g, 0, none⟩) n n) n xs) (hx : xs = (madeCells #[z] n).toList := by (first | rfl | simp)) :
    w.heap[g]? = some (.cells (List.replicate n z).toArray e (0, 0)) := by
  obtain ⟨hn0, hn1⟩ := h
  rcases hn1 with ⟨h, _⟩ | ⟨g, cap', cur, h, _, hg, _, _, hsz, ht⟩
  · cases h
  · cases h
    rw [hg]
    have e : cur.toList = (madeCells #[z] n).toList := by
      rw [← hx, ← ht, List.take_of_length_le (by simp [hsz])]
    rw [toList_madeCells_one] at e
    rw [← e]
end Go.Proofs.YtlffiebnieakjaaDoor

/- Rows of structs of two cells: what a slice reads as, a slice of the call's own, append. Bounds on sizes alone. -/
namespace Go.Proofs.YtlffiebnieakjaaDoor
open Go.RowKit

abbrev PV := Value × Value
/-- The cells of a list of pairs. -/
def prs (l : List PV) : List Value := l.flatMap fun t => [t.1, t.2]
theorem prs_length (l : List PV) : (prs l).length = l.length * 2 := by
  induction l with
  | nil => rfl
  | cons t r ih => simp only [prs, List.flatMap_cons, List.length_append, List.length_cons, List.length_nil] at ih ⊢; omega
theorem prs_append (a b : List PV) : prs (a ++ b) = prs a ++ prs b := by simp [prs]
theorem prs_get : ∀ (l : List PV) (i : Nat) (t : PV), l[i]? = some t → (prs l)[i * 2]? = some t.1 ∧ (prs l)[i * 2 + 1]? = some t.2 := by
  intro l
  induction l with
  | nil => intro i t h; simp at h
  | cons s r ih =>
    intro i t h
    cases i with
    | zero => simp at h; subst h; exact ⟨rfl, rfl⟩
    | succ i =>
      have h1 := ih i t (by simpa using h)
      have e : prs (s :: r) = s.1 :: s.2 :: prs r := rfl
      rw [e, show (i + 1) * 2 = i * 2 + 1 + 1 by omega]
      exact h1
/-- The slice v reads as the pairs l. -/
def PRd (w : World) (v : Value) (l : List PV) : Prop :=
  ∃ ao cap, v = .slice ao l.length cap ∧ l.length ≤ cap ∧ cap ≤ 9223372036854775807 ∧ (0 < l.length → ∃ g o, ao = some ⟨g, o, none⟩ ∧ g < w.heap.size ∧ ∀ i t, l[i]? = some t → w.cell? ⟨g, o + i * 2, none⟩ = some t.1 ∧ w.cell? ⟨g, o + i * 2 + 1, none⟩ = some t.2)
theorem PRd.later {w w' : World} {v : Value} {l : List PV} {B : Nat} (h : PRd w v l) (hb : Below B w w') (hB : w.heap.size ≤ B) : PRd w' v l := by
  obtain ⟨ao, cap, h1, h2, h3, h4⟩ := h
  refine ⟨ao, cap, h1, h2, h3, fun h0 => ?_⟩
  obtain ⟨g, o, q1, q2, q3⟩ := h4 h0
  refine ⟨g, o, q1, Nat.lt_of_lt_of_le q2 hb.size, fun i t ht => ?_⟩
  obtain ⟨r1, r2⟩ := q3 i t ht
  exact ⟨(hb.cell (p := ⟨g, o + i * 2, none⟩) (by show g < B; omega)).trans r1, (hb.cell (p := ⟨g, o + i * 2 + 1, none⟩) (by show g < B; omega)).trans r2⟩
theorem PRd.at {w w' : World} {v : Value} {l : List PV} (h : PRd w v l) (hb : Below w.heap.size w w') : PRd w' v l := h.later hb (Nat.le_refl _)
theorem prd_nil (w : World) : PRd w (.slice none 0 0) [] := ⟨none, 0, rfl, Nat.le_refl _, by omega, fun h => by simp at h⟩
theorem PRd.cut {w : World} {ao : Option Addr} {n cap : Nat} {l : List PV} (h : PRd w (.slice ao n cap) l) : n = l.length ∧ n ≤ cap ∧ cap ≤ 9223372036854775807 := by
  obtain ⟨_, _, e, h2, h3, _⟩ := h
  simp only [Value.slice.injEq] at e
  omega
theorem PRd.get {w : World} {ao : Option Addr} {n cap : Nat} {l : List PV} (h : PRd w (.slice ao n cap) l) {i : Nat} {t : PV} (hi : l[i]? = some t) : ∃ g o, ao = some ⟨g, o, none⟩ ∧ w.cell? ⟨g, o + i * 2, none⟩ = some t.1 ∧ w.cell? ⟨g, o + i * 2 + 1, none⟩ = some t.2 := by
  obtain ⟨_, _, e, h2, h3, h4⟩ := h
  simp only [Value.slice.injEq] at e
  obtain ⟨rfl, _, rfl⟩ := e
  obtain ⟨g, o, q1, _, q3⟩ := h4 (by have := (List.getElem?_eq_some_iff.1 hi).1; omega)
  exact ⟨g, o, q1, q3 i t hi⟩

/-- A slice of the call's own that holds l; below B the world is as w0 was. -/
def OP (E : TypeId) (B : Nat) (w0 w : World) (v : Value) (l : List PV) : Prop := B ≤ w0.heap.size ∧ Below B w0 w ∧ w.ownsRow B E 2 v l.length (prs l)
section
variable {E : TypeId} {B : Nat} {w0 w w' : World} {v : Value} {l : List PV}
theorem OP.size (h : OP E B w0 w v l) : B ≤ w.heap.size := Nat.le_trans h.1 h.2.1.size
theorem OP.own (h : OP E B w0 w v l) : w.ownsRow B E 2 v l.length (prs l) := h.2.2
theorem OP.bel (h : OP E B w0 w v l) : Below B w0 w := h.2.1
theorem OP.app {n : Nat} {v' : Value} {m : List PV} (h : OP E B w0 w v l) (hown : w'.ownsRow B E 2 v' n (prs l ++ prs m)) (hn : n = l.length + m.length) (hg : w.grownBy w' v.ownBlock) : OP E B w0 w' v' (l ++ m) := by
  subst hn
  refine ⟨h.1, h.2.1.grown hg h.size (fun k hk => (h.own.lt k hk).1), ?_⟩
  rw [List.length_append, prs_append]
  exact hown
theorem own_same2 {w w' : World} {base e size n : Nat} {v : Value} {xs : List Value} (h : w.ownsRow base e size v n xs) (hs : ∀ k, v.ownBlock = some k → w'.heap[k]? = w.heap[k]?) : w'.ownsRow base e size v n xs := by
  obtain ⟨h1, h2⟩ := h
  refine ⟨h1, ?_⟩
  rcases h2 with h2 | ⟨g, cap, cur, hv, hb, hg, r⟩
  · exact .inl h2
  · exact .inr ⟨g, cap, cur, hv, hb, (hs g (by rw [hv]; rfl)).trans hg, r⟩
theorem OP.later (h : OP E B w0 w v l) (hb : Below w.heap.size w w') : OP E B w0 w' v l :=
  ⟨h.1, h.2.1.trans (hb.mono h.size), own_same2 h.own fun k hk => hb.block k (h.own.lt k hk).2⟩
theorem op_made {n g : Nat} (hown : w'.ownsRow w.heap.size E 2 (.slice (some ⟨g, 0, none⟩) 0 n) 0 []) (hgrow : w.grownBy w' none) : OP E w.heap.size w w' (.slice (some ⟨g, 0, none⟩) 0 n) [] :=
  ⟨Nat.le_refl _, (Below.refl _ _).grown hgrow (Nat.le_refl _) (fun k h => by cases h), hown⟩
theorem op_nil (E : TypeId) (w : World) : OP E w.heap.size w w (.slice none 0 0) [] := ⟨Nat.le_refl _, Below.refl _ _, ⟨by simp [prs], .inl ⟨rfl, rfl⟩⟩⟩
theorem op_empty (E : TypeId) (w : World) : OP E w.heap.size w (w.alloc (.cells #[] E)) (.slice (some ⟨w.heap.size, 0, none⟩) 0 0) [] :=
  ⟨Nat.le_refl _, bel_alloc w _, by simp [prs], .inr ⟨w.heap.size, 0, #[], rfl, Nat.le_refl _, heap_alloc_new w _, Nat.le_refl _, by unfold maxLen; omega, rfl, rfl⟩⟩
theorem OP.start (h : OP E B w0 w v l) {B2 : Nat} {w2 : World} (hB : B2 ≤ w2.heap.size) (hb : Below B2 w2 w0) (hle : B2 ≤ B) : OP E B2 w2 w v l := by
  refine ⟨hB, hb.trans (h.bel.mono hle), h.own.1, ?_⟩
  rcases h.own.2 with h2 | ⟨g, cap, cur, hv, hb2, hg, r⟩
  · exact .inl h2
  · exact .inr ⟨g, cap, cur, hv, Nat.le_trans hle hb2, hg, r⟩
theorem OP.prd (h : OP E B w0 w v l) : PRd w v l := by
  rcases h.own.2 with ⟨h1, h2⟩ | ⟨g, c, cur, h1, _, hg, hnc, hcm, _, ht⟩
  · exact ⟨none, 0, by rw [h1, h2], by omega, by omega, fun h => by omega⟩
  · unfold maxLen at hcm
    refine ⟨_, _, h1, hnc, by omega, fun h0 => ⟨g, 0, rfl, lt_of_block hg, fun i t hi => ?_⟩⟩
    have hil := (List.getElem?_eq_some_iff.1 hi).1
    obtain ⟨g1, g2⟩ := prs_get l i t hi
    have q : ∀ j u, (prs l)[j]? = some u → w.cell? ⟨g, 0 + j, none⟩ = some u := fun j u hu => by
      have := World.news_of_block hg j u (by
        rw [← ht, List.getElem?_take] at hu
        split at hu
        · exact hu
        · cases hu)
      rw [Addr.add_mid] at this
      exact this
    exact ⟨q _ _ g1, q _ _ g2⟩
end
theorem own_shapeP {w : World} {base e size n : Nat} {v : Value} {xs : List Value} (h : w.ownsRow base e size v n xs) : ∃ ao cap, v = .slice ao n cap := by
  rcases h.2 with ⟨h1, h2⟩ | ⟨g, cap, cur, h1, _⟩
  · exact ⟨none, 0, by rw [h1, h2]⟩
  · exact ⟨_, cap, h1⟩
/-- A slice type S over a struct type E of two cells. -/
structure Elem2 (P : Program) (S E : TypeId) (z : Value) (eb : Nat) : Prop where
  und : P.underlying S = some (.slice E)
  info : (P.info? E).map (fun i => (i.zero, i.size, i.bytes)) = some (some z, 2, eb)
  two : z.cells.size = 2
theorem PRd.src {P : Program} {S E : TypeId} {z : Value} {eb : Nat} (T : Elem2 P S E z eb) {w : World} {v : Value} {l : List PV} (h : PRd w v l) (h1 : ∀ u ∈ prs l, u.oneCell' = true) : Src P 2 S v l.length (prs l) w := by
  obtain ⟨ao, cap, rfl, h2, h3, h4⟩ := h
  by_cases h0 : 0 < l.length
  · obtain ⟨g, o, rfl, hg, hc⟩ := h4 h0
    refine Src.ofSlice _ T.und _ _ _ (prs l) (prs_length l) (fun j u hu => ?_) h1
    have hj : j < l.length * 2 := by rw [← prs_length]; exact (List.getElem?_eq_some_iff.1 hu).1
    obtain ⟨t, ht⟩ : ∃ t, l[j / 2]? = some t := ⟨_, List.getElem?_eq_getElem (by omega)⟩
    obtain ⟨c1, c2⟩ := hc _ t ht
    obtain ⟨g1, g2⟩ := prs_get l _ t ht
    rw [Addr.add_mid]
    rcases Nat.mod_two_eq_zero_or_one j with hm | hm
    · rw [show j / 2 * 2 = j by omega] at c1 g1
      rw [c1]; exact g1.symm.trans hu
    · rw [show o + j / 2 * 2 + 1 = o + j by omega] at c2
      rw [show j / 2 * 2 + 1 = j by omega] at g2
      rw [c2]; exact g2.symm.trans hu
  · obtain rfl : l = [] := by cases l with
      | nil => rfl
      | cons a r => simp at h0
    cases ao with
    | none => exact Src.ofNil _ T.und _
    | some a => exact Src.ofSlice _ T.und a _ _ [] rfl (fun j u hu => by simp at hu) (by simp)
/-- append of one pair that has just been laid. -/
theorem wpList_pr {P : Program} {S E : TypeId} {z : Value} {eb : Nat} (T : Elem2 P S E z eb) {ops : Array Oper} {rest : List Oper} {o : Oper} {a : Act} {w : World} {Q : Exit → Act → World → Prop} (hgd : o.guard = none) (s x : Operand)
    (ho : o.op = .call { callee := .builtin .append, args := #[s, x], argTypes := #[S, S] })
    {B : Nat} {w0 : World} {v : Value} {l : List PV} (hv : a.eval s = v) (H : OP E B w0 w v l) {vx : Value} {m : List PV} (hx : a.eval x = vx) (L : PRd w vx m) (h1 : ∀ u ∈ prs m, u.oneCell' = true) (hl : (l.length + m.length) * eb ≤ 140737488355328) (hl2 : l.length + m.length ≤ 140737488355328)
    (h : ∀ (ao : Option Addr) (n cap : Nat) (w' : World), n = l.length + m.length → OP E B w0 w' (.slice ao n cap) (l ++ m) → w.grownBy w' v.ownBlock → wpList P ops Q rest (a.put o.dst (.slice ao n cap)) w') :
    wpList P ops Q (o :: rest) a w := by
  obtain ⟨i0, hi, hz0, hz1, hz2⟩ := info_parts T.info
  refine wpList_append_src _ hgd s x S S ho B E i0 z 2 eb T.und hi hz0 hz1 hz2 T.two (by decide) v l.length (prs l) hv H.own vx m.length (prs m) hx (L.src T h1) (by unfold maxLen; omega) (by omega) H.size ?_
  intro v2 w2 hown hg _ _
  have H2 := H.app (m := m) hown rfl hg
  obtain ⟨ao, cap, rfl⟩ := own_shapeP hown
  exact h ao _ cap w2 rfl H2 hg
theorem prd_new {w : World} {u v : Value} {E : TypeId} {m : Nat × Nat} : PRd (w.alloc (.cells #[u, v] E m)) (.slice (some ⟨w.heap.size, 0, none⟩) 1 1) [(u, v)] := by
  refine ⟨_, _, rfl, Nat.le_refl _, by simp, fun _ => ⟨_, _, rfl, by simp, fun i t hi => ?_⟩⟩
  have : i = 0 := by have := (List.getElem?_eq_some_iff.1 hi).1; simp at this; omega
  subst this
  simp only [List.getElem?_cons_zero, Option.some.injEq] at hi
  subst hi
  have hb := heap_alloc_new w (.cells #[u, v] E m)
  have c0 := World.news_of_block hb 0 u rfl
  have c1 := World.news_of_block hb 1 v rfl
  rw [Addr.add_mid] at c0 c1
  exact ⟨c0, c1⟩
end Go.Proofs.YtlffiebnieakjaaDoor

/- Rows that lie in the blocks of a set; rows that grow. Bounds on sizes alone. -/
namespace Go.Proofs.YtlffiebnieakjaaDoor
open Go.RowKit

theorem set_blk {w : World} {b k a : Nat} {v : Value} (hne : a ≠ b) : (w.setCell ⟨a, k, none⟩ v).heap[b]? = w.heap[b]? := Below.heap_setCell w ⟨a, k, none⟩ v b (fun h => hne h.symm)
theorem cell_blk {w : World} {b j : Nat} {cs : List Value} {E : TypeId} {m : Nat × Nat} {v : Value} (hb : w.heap[b]? = some (.cells cs.toArray E m)) (h : cs[j]? = some v) : w.cell? ⟨b, j, none⟩ = some v := by
  have := World.news_of_block hb j v (by simpa using h)
  rw [Addr.add_mid, Nat.zero_add] at this
  exact this
theorem fr_blk {w : World} {b : Nat} {cs : List Value} {E : TypeId} (hb : w.heap[b]? = some (.cells cs.toArray E (0, 0))) (j : Nat) : w.frozen? ⟨b, j, none⟩ = false := by
  simp [World.frozen?, hb]
/-- The row of a slice lies in a block of S. -/
def In (S : Nat → Prop) (v : Value) : Prop := ∀ (a : Addr) (n c : Nat), v = .slice (some a) n c → S a.block
theorem In.mono {S T : Nat → Prop} {v : Value} (h : In S v) (hs : ∀ k, S k → T k) : In T v := fun a n c e => hs _ (h a n c e)
theorem in_nil (S : Nat → Prop) : In S (.slice none 0 0) := fun a n c e => by cases e
theorem Rd.keepS {S : Nat → Prop} {w w' : World} {v : Value} {l : List Value} (h : Rd w v l) (hB : In S v) (hs : w.heap.size ≤ w'.heap.size) (hk : ∀ k, S k → k < w.heap.size → w'.heap[k]? = w.heap[k]?) : Rd w' v l := by
  obtain ⟨ao, cap, e, h2, h3, h4⟩ := h
  refine ⟨ao, cap, e, h2, h3, fun h0 => ?_⟩
  obtain ⟨g, o, rfl, hg, hc⟩ := h4 h0
  have hb := hk g (hB _ _ _ e) hg
  exact ⟨g, o, rfl, by omega, fun i t ht => (World.cell?_of_block (w := w) hb).trans (hc i t ht)⟩
theorem PRd.keepS {S : Nat → Prop} {w w' : World} {v : Value} {l : List PV} (h : PRd w v l) (hB : In S v) (hs : w.heap.size ≤ w'.heap.size) (hk : ∀ k, S k → k < w.heap.size → w'.heap[k]? = w.heap[k]?) : PRd w' v l := by
  obtain ⟨ao, cap, e, h2, h3, h4⟩ := h
  refine ⟨ao, cap, e, h2, h3, fun h0 => ?_⟩
  obtain ⟨g, o, rfl, hg, hc⟩ := h4 h0
  have hb := hk g (hB _ _ _ e) hg
  refine ⟨g, o, rfl, by omega, fun i t ht => ?_⟩
  obtain ⟨c0, c1⟩ := hc i t ht
  exact ⟨(World.cell?_of_block (w := w) hb).trans c0, (World.cell?_of_block (w := w) hb).trans c1⟩
theorem Rd.keepN {S : Nat → Prop} {w w' : World} {v : Value} {l : List Value} (h : Rd w v l) (hB : 0 < l.length → In S v) (hs : w.heap.size ≤ w'.heap.size) (hk : ∀ k, S k → k < w.heap.size → w'.heap[k]? = w.heap[k]?) : Rd w' v l := by
  obtain ⟨ao, cap, e, h2, h3, h4⟩ := h
  refine ⟨ao, cap, e, h2, h3, fun h0 => ?_⟩
  obtain ⟨g, o, rfl, hg, hc⟩ := h4 h0
  have hb := hk g (hB h0 _ _ _ e) hg
  exact ⟨g, o, rfl, by omega, fun i t ht => (World.cell?_of_block (w := w) hb).trans (hc i t ht)⟩
theorem Rd.inlt {w : World} {v : Value} {l : List Value} (h : Rd w v l) (h0 : 0 < l.length) : In (fun k => k < w.heap.size) v := by
  obtain ⟨ao, cap, rfl, h2, h3, h4⟩ := h
  obtain ⟨g, o, rfl, hg, hc⟩ := h4 h0
  intro a n c e
  simp only [Value.slice.injEq, Option.some.injEq] at e
  rw [← e.1]
  exact hg
def Keeps (S : Nat → Prop) (w w' : World) : Prop := w.heap.size ≤ w'.heap.size ∧ ∀ k, S k → k < w.heap.size → w'.heap[k]? = w.heap[k]?
theorem keeps_bel {S : Nat → Prop} {B : Nat} {w w' : World} (h : Below B w w') (hs : ∀ k, S k → k < B) : Keeps S w w' := ⟨h.size, fun k hk _ => h.block k (hs k hk)⟩
theorem keeps_belw {S : Nat → Prop} {w w' : World} (h : Below w.heap.size w w') : Keeps S w w' := ⟨h.size, fun k _ hl => h.block k hl⟩
theorem keeps_alloc (S : Nat → Prop) (w : World) (o : Obj) : Keeps S w (w.alloc o) := ⟨(bel_alloc w o).size, fun k _ hk => (bel_alloc w o).block k hk⟩
theorem keeps_set {S : Nat → Prop} (w : World) (p j : Nat) (v : Value) (hs : ¬ S p) : Keeps S w (w.setCell ⟨p, j, none⟩ v) := ⟨by simp, fun k hk _ => Below.heap_setCell _ _ _ _ (fun e => hs ((show k = p from e) ▸ hk))⟩
theorem keeps_kept {S T : Nat → Prop} {w w' : World} (h : Kept T w w') (hs : ∀ k, S k → ¬ T k) : Keeps S w w' := ⟨h.size, fun k hk hl => h.block k hl (hs k hk)⟩
theorem keeps_grown {S : Nat → Prop} {w w' : World} {row : Option Nat} (h : w.grownBy w' row) (hs : ∀ k, S k → row ≠ some k) : Keeps S w w' := ⟨h.size, fun k hk hlt => h.block k hlt (fun e => hs k hk e.symm)⟩
theorem Keeps.trans {S : Nat → Prop} {w w1 w2 : World} (h : Keeps S w w1) (k : Keeps S w1 w2) : Keeps S w w2 := ⟨Nat.le_trans h.1 k.1, fun x hx hl => (k.2 x hx (Nat.lt_of_lt_of_le hl h.1)).trans (h.2 x hx hl)⟩
theorem Kept.mono {S T : Nat → Prop} {w w' : World} (h : Kept S w w') (hs : ∀ k, S k → T k) : Kept T w w' := ⟨h.os, h.tape, h.output, h.size, fun k hk hn => h.block k hk (fun e => hn (hs k e))⟩
theorem Kept.grown {S : Nat → Prop} {w w1 w2 : World} {row : Option Nat} (h : Kept S w w1) (g : w1.grownBy w2 row) (hr : ∀ k, row = some k → S k ∨ w.heap.size ≤ k) : Kept S w w2 :=
  ⟨g.os.trans h.os, g.tape.trans h.tape, g.output.trans h.output, Nat.le_trans h.size g.size, fun k hk hn => (g.block k (Nat.lt_of_lt_of_le hk h.size) (fun e => by rcases hr k e.symm with h1 | h1; exact hn h1; omega)).trans (h.block k hk hn)⟩
theorem Kept.alloc {S : Nat → Prop} {w w1 : World} (h : Kept S w w1) (o : Obj) : Kept S w (w1.alloc o) := h.trans (Kept.ofBelow (bel_alloc w1 o))
theorem Kept.setCell {S : Nat → Prop} {w w1 : World} (h : Kept S w w1) (p j : Nat) (v : Value) (hp : S p ∨ w.heap.size ≤ p) : Kept S w (w1.setCell ⟨p, j, none⟩ v) :=
  ⟨h.os, h.tape, h.output, by simpa using h.size, fun k hk hn => (set_blk (fun e => by subst e; rcases hp with h1 | h1; exact hn h1; omega)).trans (h.block k hk hn)⟩
theorem own_blkL {W : World} {B e s n k : Nat} {v : Value} {xs : List Value} (ho : W.ownsRow B e s v n xs) (hk : v.ownBlock = some k) : ∃ cur, W.heap[k]? = some (.cells cur e (0, 0)) := by
  rcases ho.2 with ⟨e, _⟩ | ⟨q, cap, cur, e, _, h2, _⟩
  · rw [e] at hk; cases hk
  · rw [e] at hk
    simp only [Value.ownBlock, Option.some.injEq] at hk
    subst hk
    exact ⟨_, h2⟩
/-- A row has grown, in its block or in a new one. -/
structure GA (B : Nat) (E : TypeId) (sz : Nat) (W w4 : World) (v v' : Value) (n : Nat) (xs : List Value) : Prop where
  own : w4.ownsRow B E sz v' n xs
  gr : W.grownBy w4 v.ownBlock
  fr : v'.ownBlock = v.ownBlock ∨ v'.ownBlock = some W.heap.size
theorem step_gen {P : Program} {ops : Array Oper} {o : Oper} {a : Act} {w : World} {K : Act → World → Prop} {Q : Exit → Act → World → Prop} {F : Prop} (S E : TypeId) (z : Value) (eb sz : Nat) (hu : P.underlying S = some (.slice E)) (hi : (P.info? E).map (fun i => (i.zero, i.size, i.bytes)) = some (some z, sz, eb)) (hz : z.cells.size = sz) (hp : 0 < sz) (hgd : o.guard = none) (s x : Operand)
    (ho : o.op = .call { callee := .builtin .append, args := #[s, x], argTypes := #[S, S] })
    {B : Nat} {v : Value} {n : Nat} {l : List Value} (hv : a.eval s = v) (H : w.ownsRow B E sz v n l) (hB : B ≤ w.heap.size) {vx : Value} {m : Nat} {news : List Value} (hx : a.eval x = vx) (L : Src P sz S vx m news w) (hl : (n + m) * eb ≤ 140737488355328) (hl2 : n + m ≤ 140737488355328)
    (h : ∀ (ao : Option Addr) (cap : Nat) (w' : World), GA B E sz w w' v (.slice ao (n + m) cap) (n + m) (l ++ news) → K (a.put o.dst (.slice ao (n + m) cap)) w') :
    if Region.wanted o (yielded ops a.tmps) = true then Oper.wp P o a w K Q else F := by
  obtain ⟨i0, hi, hz0, hz1, hz2⟩ := info_parts hi
  refine step_append_src _ hgd s x S S ho B E i0 z sz eb hu hi hz0 hz1 hz2 hz hp v n l hv H vx m news hx L (by unfold maxLen; omega) (by omega) hB ?_
  intro v2 w2 hown hg _ hf
  obtain ⟨ao, cap, rfl⟩ := own_shape hown
  exact h ao cap w2 ⟨hown, hg, hf⟩
theorem wpList_gen {P : Program} {ops : Array Oper} {rest : List Oper} {o : Oper} {a : Act} {w : World} {Q : Exit → Act → World → Prop} (S E : TypeId) (z : Value) (eb sz : Nat) (hu : P.underlying S = some (.slice E)) (hi : (P.info? E).map (fun i => (i.zero, i.size, i.bytes)) = some (some z, sz, eb)) (hz : z.cells.size = sz) (hp : 0 < sz) (hgd : o.guard = none) (s x : Operand)
    (ho : o.op = .call { callee := .builtin .append, args := #[s, x], argTypes := #[S, S] })
    {B : Nat} {v : Value} {n : Nat} {l : List Value} (hv : a.eval s = v) (H : w.ownsRow B E sz v n l) (hB : B ≤ w.heap.size) {vx : Value} {m : Nat} {news : List Value} (hx : a.eval x = vx) (L : Src P sz S vx m news w) (hl : (n + m) * eb ≤ 140737488355328) (hl2 : n + m ≤ 140737488355328)
    (h : ∀ (ao : Option Addr) (cap : Nat) (w' : World), GA B E sz w w' v (.slice ao (n + m) cap) (n + m) (l ++ news) → wpList P ops Q rest (a.put o.dst (.slice ao (n + m) cap)) w') :
    wpList P ops Q (o :: rest) a w := by
  obtain ⟨i0, hi, hz0, hz1, hz2⟩ := info_parts hi
  refine wpList_append_src _ hgd s x S S ho B E i0 z sz eb hu hi hz0 hz1 hz2 hz hp v n l hv H vx m news hx L (by unfold maxLen; omega) (by omega) hB ?_
  intro v2 w2 hown hg _ hf
  obtain ⟨ao, cap, rfl⟩ := own_shape hown
  exact h ao cap w2 ⟨hown, hg, hf⟩
theorem ga_bel {B E sz n : Nat} {W w4 : World} {v v' : Value} {xs l : List Value} {n0 : Nat} (h : GA B E sz W w4 v v' n xs) (h0 : W.ownsRow B E sz v n0 l) (hB : B ≤ W.heap.size) : Below B W w4 :=
  ⟨h.gr.os, h.gr.tape, h.gr.output, h.gr.size, fun k hk => h.gr.block k (by omega) (fun e => by have := (h0.lt k e.symm).1; omega)⟩
/-- A row of another type stays. -/
theorem ga_own {B B2 E e2 sz s2 n n0 m : Nat} {W w4 : World} {v v' v2 : Value} {xs l xs2 : List Value} (h : GA B E sz W w4 v v' n xs) (h0 : W.ownsRow B E sz v n0 l) (h2 : W.ownsRow B2 e2 s2 v2 m xs2) (he : e2 ≠ E) : w4.ownsRow B2 e2 s2 v2 m xs2 :=
  own_same h2 fun k hk => h.gr.block k (h2.lt k hk).2 (fun e => by
    obtain ⟨c1, h1⟩ := own_blkL h2 hk
    obtain ⟨c2, h3⟩ := own_blkL h0 e.symm
    rw [h1] at h3
    simp only [Option.some.injEq, Obj.cells.injEq] at h3
    exact he h3.2.1)
end Go.Proofs.YtlffiebnieakjaaDoor

/- Disks, as mathematics: what each operation gives. -/
namespace Go.Proofs.YtlffiebnieakjaaDoor

/-- A disk: the bytes of a sector, the durable contents, the writes in the cache, the power, the countdown (-1: none). -/
structure DM where
  sz : Nat
  secs : List (List Int)
  cache : List (Nat × List Int)
  off : Bool
  cnt : Int
/-- The content that the first k writes give a sector, if there is one. -/
def lookF (c : List (Nat × List Int)) (s : Nat) : Nat → Option (List Int)
  | 0 => none
  | k + 1 => match c[k]? with
    | some p => if p.1 = s then some p.2 else lookF c s k
    | none => lookF c s k
def DM.content (M : DM) (s : Nat) : List Int := (lookF M.cache s M.cache.length).getD (M.secs.getD s [])
def stepF (M : DM) : Bool × DM := if M.off = true ∨ M.cnt = 0 then (false, { M with off := true }) else (true, { M with cnt := if 0 < M.cnt then M.cnt - 1 else M.cnt })
def DM.fits (M : DM) (s : Int) : Bool := decide (0 ≤ s ∧ s < M.secs.length)
def writeF (M : DM) (s : Int) (l : List Int) : Int × DM :=
  if M.fits s = false ∨ l.length ≠ M.sz then (1, M)
  else if (stepF M).1 = false then (8, (stepF M).2)
  else (0, { (stepF M).2 with cache := M.cache ++ [(s.toNat, l)] })
def putF (S : List (List Int)) (c : List (Nat × List Int)) : List (List Int) := c.foldl (fun S p => S.set p.1 p.2) S
def syncF (M : DM) : Int × DM := if (stepF M).1 = false then (8, (stepF M).2) else (0, { (stepF M).2 with secs := putF M.secs M.cache, cache := [] })
def failF (M : DM) (n : Int) : DM := if M.off = true then M else { M with cnt := max n 0 }
/-- The contents behind a crash: of the first k writes those that keep names have become durable. -/
def keepF (S : List (List Int)) (c : List (Nat × List Int)) (keep : List Bool) : Nat → List (List Int)
  | 0 => S
  | k + 1 => match c[k]?, keep[k]? with
    | some p, some true => (keepF S c keep k).set p.1 p.2
    | _, _ => keepF S c keep k
def crashF (M : DM) (keep : List Bool) : DM := { sz := M.sz, secs := keepF M.secs M.cache keep (min M.cache.length keep.length), cache := [], off := false, cnt := -1 }
def readF (M : DM) (s : Int) : List Int × Int := if M.fits s = false then ([], 1) else if M.off = true then ([], 8) else (M.content s.toNat, 0)
def newF (n sz : Nat) : DM := { sz := sz, secs := List.replicate n (List.replicate sz 0), cache := [], off := false, cnt := -1 }
/-- What every disk keeps. -/
structure DM.Ok (M : DM) : Prop where
  sz : M.sz ≤ 4096
  secs : M.secs.length ≤ 65536
  con : ∀ l ∈ M.secs, l.length = M.sz
  ent : ∀ p ∈ M.cache, p.1 < M.secs.length ∧ p.2.length = M.sz
  cnt : -1 ≤ M.cnt ∧ M.cnt ≤ 9223372036854775807
theorem putF_len (S : List (List Int)) (c : List (Nat × List Int)) : (putF S c).length = S.length := by
  unfold putF
  induction c generalizing S with
  | nil => rfl
  | cons p r ih => rw [List.foldl_cons, ih, List.length_set]
theorem putF_snoc (S : List (List Int)) (c : List (Nat × List Int)) (p : Nat × List Int) : putF S (c ++ [p]) = (putF S c).set p.1 p.2 := by
  unfold putF
  rw [List.foldl_append]
  rfl
theorem take_snocD {α : Type} {l : List α} {j : Nat} {x : α} (h : l[j]? = some x) : l.take (j + 1) = l.take j ++ [x] := by
  rw [List.take_add_one, h]
  rfl
theorem putF_take (S : List (List Int)) (c : List (Nat × List Int)) (j : Nat) (p : Nat × List Int) (h : c[j]? = some p) : putF S (c.take (j + 1)) = (putF S (c.take j)).set p.1 p.2 := by
  rw [take_snocD h, putF_snoc]
theorem keepF_len (S : List (List Int)) (c : List (Nat × List Int)) (keep : List Bool) : ∀ k, (keepF S c keep k).length = S.length
  | 0 => rfl
  | k + 1 => by
    rw [keepF]
    split
    · rw [List.length_set, keepF_len S c keep k]
    · exact keepF_len S c keep k
theorem mem_set_of {S : List (List Int)} {s : Nat} {l x : List Int} (h : x ∈ S.set s l) : x ∈ S ∨ x = l := List.mem_or_eq_of_mem_set h
theorem putF_con (sz : Nat) : ∀ (c : List (Nat × List Int)) (S : List (List Int)), (∀ l ∈ S, l.length = sz) → (∀ p ∈ c, p.2.length = sz) → ∀ l ∈ putF S c, l.length = sz
  | [], S, h, _, l, hl => h l hl
  | p :: r, S, h, hc, l, hl => putF_con sz r (S.set p.1 p.2) (fun x hx => by rcases mem_set_of hx with h1 | h1; exact h x h1; rw [h1]; exact hc p (by simp)) (fun q hq => hc q (by simp [hq])) l hl
theorem keepF_con (sz : Nat) (S : List (List Int)) (c : List (Nat × List Int)) (keep : List Bool) (h : ∀ l ∈ S, l.length = sz) (hc : ∀ p ∈ c, p.2.length = sz) : ∀ k, ∀ l ∈ keepF S c keep k, l.length = sz
  | 0, l, hl => h l hl
  | k + 1, l, hl => by
    rw [keepF] at hl
    split at hl
    · rename_i p e _
      rcases mem_set_of hl with h1 | h1
      · exact keepF_con sz S c keep h hc k l h1
      · rw [h1]; exact hc p (List.mem_of_getElem? e)
    · exact keepF_con sz S c keep h hc k l hl
theorem DM.Ok.step {M : DM} (h : M.Ok) : (stepF M).2.Ok := by
  unfold stepF
  split
  · exact ⟨h.sz, h.secs, h.con, h.ent, h.cnt⟩
  · refine ⟨h.sz, h.secs, h.con, h.ent, ?_⟩
    have := h.cnt
    show -1 ≤ (if 0 < M.cnt then M.cnt - 1 else M.cnt) ∧ _
    split <;> constructor <;> (try simp only []) <;> first | omega | (split <;> omega)
theorem stepF_same (M : DM) : (stepF M).2.sz = M.sz ∧ (stepF M).2.secs = M.secs ∧ (stepF M).2.cache = M.cache := by
  unfold stepF
  split <;> exact ⟨rfl, rfl, rfl⟩
theorem DM.Ok.write {M : DM} (h : M.Ok) (s : Int) (l : List Int) : (writeF M s l).2.Ok := by
  unfold writeF
  split
  · exact h
  · rename_i hn
    simp only [not_or, Bool.not_eq_false] at hn
    obtain ⟨hf, hl⟩ := hn
    split
    · exact h.step
    · have k := h.step
      obtain ⟨e1, e2, e3⟩ := stepF_same M
      refine ⟨k.sz, k.secs, k.con, fun p hp => ?_, k.cnt⟩
      show p.1 < (stepF M).2.secs.length ∧ p.2.length = (stepF M).2.sz
      rw [e1, e2]
      rcases List.mem_append.1 hp with h1 | h1
      · exact h.ent p h1
      · rw [List.mem_singleton.1 h1]
        simp only [DM.fits, decide_eq_true_eq] at hf
        exact ⟨by simp only; omega, by simpa using hl⟩
theorem DM.Ok.sync {M : DM} (h : M.Ok) : (syncF M).2.Ok := by
  unfold syncF
  split
  · exact h.step
  · have k := h.step
    obtain ⟨e1, e2, e3⟩ := stepF_same M
    refine ⟨k.sz, ?_, ?_, fun p hp => by simp at hp, k.cnt⟩
    · show (putF M.secs M.cache).length ≤ 65536
      rw [putF_len]; exact h.secs
    · show ∀ l ∈ putF M.secs M.cache, l.length = (stepF M).2.sz
      rw [e1]
      exact putF_con _ _ _ h.con fun p hp => (h.ent p hp).2
theorem DM.Ok.fail {M : DM} (h : M.Ok) (n : Int) (hn : n ≤ 9223372036854775807) : (failF M n).Ok := by
  unfold failF
  split
  · exact h
  · exact ⟨h.sz, h.secs, h.con, h.ent, by show -1 ≤ max n 0 ∧ max n 0 ≤ _; omega⟩
theorem DM.Ok.crash {M : DM} (h : M.Ok) (keep : List Bool) : (crashF M keep).Ok :=
  ⟨h.sz, by show (keepF _ _ _ _).length ≤ _; rw [keepF_len]; exact h.secs, keepF_con _ _ _ _ h.con (fun p hp => (h.ent p hp).2) _, fun p hp => by simp [crashF] at hp, by show (-1 : Int) ≤ -1 ∧ (-1 : Int) ≤ _; omega⟩
theorem newF_ok (n sz : Nat) (hn : n ≤ 65536) (hz : sz ≤ 4096) : (newF n sz).Ok :=
  ⟨hz, by simp [newF]; omega, fun l hl => by simp only [newF, List.mem_replicate] at hl; rw [hl.2]; simp [newF], fun p hp => by simp [newF] at hp, by show (-1 : Int) ≤ -1 ∧ (-1 : Int) ≤ _; omega⟩
end Go.Proofs.YtlffiebnieakjaaDoor

/- What the texts on disks share: contents in rows, elements, bounds. Bounds on sizes alone. -/
namespace Go.Proofs.YtlffiebnieakjaaDoor
open Go.RowKit
set_option maxRecDepth 100000
set_option maxHeartbeats 1600000

abbrev R64 (n : Int) : Prop := -9223372036854775808 ≤ n ∧ n ≤ 9223372036854775807
def by8 (l : List Int) : List Value := l.map (Value.int .u8)
theorem by8_length (l : List Int) : (by8 l).length = l.length := List.length_map _
/-- A content: bytes in a row of S. -/
def CR (S : Nat → Prop) (w : World) (v : Value) (l : List Int) : Prop := Rd w v (by8 l) ∧ (0 < l.length → In S v)
theorem CR.keep {S : Nat → Prop} {w w' : World} {v : Value} {l : List Int} (h : CR S w v l) (k : Keeps S w w') : CR S w' v l := ⟨h.1.keepN (fun h0 => h.2 (by rwa [by8_length] at h0)) k.1 k.2, h.2⟩
theorem CR.mono {S T : Nat → Prop} {w : World} {v : Value} {l : List Int} (h : CR S w v l) (hs : ∀ k, S k → T k) : CR T w v l := ⟨h.1, fun h0 => (h.2 h0).mono hs⟩
theorem CR.lt {S : Nat → Prop} {w : World} {v : Value} {l : List Int} (h : CR S w v l) : CR (fun k => S k ∧ k < w.heap.size) w v l := ⟨h.1, fun h0 a n c e => ⟨h.2 h0 a n c e, h.1.inlt (by rwa [by8_length]) a n c e⟩⟩
/-- The blocks of a disk but for those that its operations change. -/
abbrev Qt (S : Nat → Prop) (b : Nat) (vs vc : Value) : Nat → Prop := fun k => S k ∧ k ≠ b ∧ vs.ownBlock ≠ some k ∧ vc.ownBlock ≠ some k
theorem u8E : Elem Tryd.prog 32 5 (.int .u8 0) 1 := ⟨Tryd.underlying32, by kernel_rfl, rfl⟩
def bls (l : List Bool) : List Value := l.map Value.bool
theorem bls_length (l : List Bool) : (bls l).length = l.length := List.length_map _
theorem by8_cells (l : List Int) : ∀ u ∈ by8 l, u.oneCell' = true := by
  intro u hu
  obtain ⟨y, _, rfl⟩ := List.mem_map.1 hu
  rfl
theorem rd_cut {w : World} {ao : Option Addr} {n cap : Nat} {l : List Value} (h : Rd w (.slice ao n cap) l) : n = l.length ∧ n ≤ cap ∧ cap ≤ 9223372036854775807 := by
  obtain ⟨_, _, e, h2, h3, _⟩ := h
  simp only [Value.slice.injEq] at e
  omega
theorem rd_at {w : World} {ao : Option Addr} {n cap : Nat} {l : List Value} (h : Rd w (.slice ao n cap) l) {i : Nat} {t : Value} (hi : l[i]? = some t) : ∃ g o, ao = some ⟨g, o, none⟩ ∧ w.cell? ⟨g, o + i, none⟩ = some t := by
  obtain ⟨_, _, e, h2, h3, h4⟩ := h
  simp only [Value.slice.injEq] at e
  obtain ⟨rfl, _, rfl⟩ := e
  obtain ⟨g, o, q1, _, q3⟩ := h4 (by have := (List.getElem?_eq_some_iff.1 hi).1; omega)
  exact ⟨g, o, q1, q3 i t hi⟩
theorem own_set {w : World} {B E n j : Nat} {cap : Nat} {g : Nat} {xs : List Value} (h : w.ownsRow B E 1 (.slice (some ⟨g, 0, none⟩) n cap) n xs) (u : Value) :
    (w.setCell ⟨g, j, none⟩ u).ownsRow B E 1 (.slice (some ⟨g, 0, none⟩) n cap) n (xs.set j u) := by
  obtain ⟨h1, h2⟩ := h
  refine ⟨by rw [List.length_set]; exact h1, ?_⟩
  rcases h2 with ⟨h2, _⟩ | ⟨g2, cap2, cur, hv, hb, hg, hnc, hcm, hsz, ht⟩
  · cases h2
  · simp only [Value.slice.injEq, Option.some.injEq, Addr.mk.injEq] at hv
    obtain ⟨⟨rfl, _⟩, _, rfl⟩ := hv
    have hg' : w.heap[g]? = some (.cells (cur.toList).toArray E (0, 0)) := by simpa using hg
    have h3 := blk_setCell (k := j) (u := u) hg'
    refine .inr ⟨g, cap, (cur.toList.set j u).toArray, rfl, hb, h3, hnc, hcm, by simpa using hsz, ?_⟩
    rw [List.take_set, ht]
theorem own_addr {w : World} {B E s n : Nat} {ao : Option Addr} {cap : Nat} {xs : List Value} (h : w.ownsRow B E s (.slice ao n cap) n xs) (h0 : 0 < n) : ∃ g, ao = some ⟨g, 0, none⟩ ∧ g < w.heap.size ∧ ∀ j, w.frozen? ⟨g, j, none⟩ = false := by
  rcases h.2 with ⟨h1, h2⟩ | ⟨g, c, cur, h1, hb, hg, hnc, hcm, _, ht⟩
  · omega
  · simp only [Value.slice.injEq] at h1
    exact ⟨g, h1.1, lt_of_block hg, fun j => by simp [World.frozen?, hg]⟩
/-- Rows of two types have no block in common. -/
theorem own_ne {W : World} {B B2 E e2 s s2 n n2 : Nat} {v v2 : Value} {xs xs2 : List Value} (h : W.ownsRow B E s v n xs) (h2 : W.ownsRow B2 e2 s2 v2 n2 xs2) (he : E ≠ e2) {k : Nat} (hk : v.ownBlock = some k) : v2.ownBlock ≠ some k := fun e => by
  obtain ⟨c1, h1⟩ := own_blkL h hk
  obtain ⟨c2, h3⟩ := own_blkL h2 e
  rw [h1] at h3
  simp only [Option.some.injEq, Obj.cells.injEq] at h3
  exact he h3.2.1
theorem lookF_len {c : List (Nat × List Int)} {sz s : Nat} (hc : ∀ p ∈ c, p.2.length = sz) : ∀ k l, lookF c s k = some l → l.length = sz
  | 0, l, h => by cases h
  | k + 1, l, h => by
    rw [lookF] at h
    split at h
    · rename_i p hp
      split at h
      · cases h; exact hc p (List.mem_of_getElem? hp)
      · exact lookF_len hc k l h
    · exact lookF_len hc k l h
theorem DM.Ok.content_len {M : DM} (h : M.Ok) {s : Nat} (hs : s < M.secs.length) : (M.content s).length = M.sz := by
  unfold DM.content
  cases e : lookF M.cache s M.cache.length with
  | some l => exact lookF_len (fun p hp => (h.ent p hp).2) _ l e
  | none =>
    show (M.secs.getD s []).length = M.sz
    rw [List.getD_eq_getElem?_getD, List.getElem?_eq_getElem hs]
    exact h.con _ (List.getElem_mem hs)
theorem fits_at {M : DM} {s : Int} (h : M.fits s = true) : ∃ n : Nat, s = n ∧ n < M.secs.length ∧ s.toNat = n := by
  simp only [DM.fits, decide_eq_true_eq] at h
  exact ⟨s.toNat, by omega, by omega, rfl⟩
theorem fits_no {M : DM} {s : Int} (h : M.fits s = false) : s < 0 ∨ (M.secs.length : Int) ≤ s := by
  simp only [DM.fits, decide_eq_false_iff_not] at h
  omega
/-- What is new between two worlds, and S. -/
abbrev Nw (S : Nat → Prop) (w w' : World) : Nat → Prop := fun k => S k ∨ (w.heap.size ≤ k ∧ k < w'.heap.size)
/-- What Read gives. -/
def RdQ (l : List Int) (err : Int) (w : World) (e : Ending) (w' : World) : Prop := ∃ x n c, e = .returned (.tuple #[.slice x n c, .int .i64 err]) ∧ Rd w' (.slice x n c) (by8 l) ∧ Below w.heap.size w w'
theorem src_by8 {W : World} {v : Value} {l : List Int} (h : Rd W v (by8 l)) : Src Tryd.prog 1 32 v l.length (by8 l) W := by
  have h1 := h.srcs u8E (by8_cells l)
  rwa [by8_length] at h1
end Go.Proofs.YtlffiebnieakjaaDoor

/- Maps from sectors to contents: what a map of the program's disk holds. maps.Copy laid at this program. Bounds on sizes alone. -/
namespace Go.Proofs.YtlffiebnieakjaaDoor
open Go.RowKit Go.Maps Go.Shelf
set_option maxRecDepth 100000
set_option maxHeartbeats 1600000

def copy_ren : Go.Shelf.Ren := ⟨fun | 5 => 53 | n => n, fun | 23 => 64 | 24 => 64 | 26 => 3 | 27 => 32 | 0 => 0 | 4 => 4 | n => n, fun n => n⟩
theorem copy_lay : SlLaysX.n5 Tryd.prog copy_ren where
  mixed := by kernel_rfl
  f5 := ⟨"maps.Copy[map[int][]byte,map[int][]byte,int,[]byte]", by decide, Tryd.func53.trans (congrArg some (by kernel_rfl))⟩
  t0 := Tryd.underlying0
  a0 := Tryd.isAgg0
  z0 := Tryd.sizeOf0
  v0 := Tryd.zeroValue0
  t4 := Tryd.underlying4
  a4 := Tryd.isAgg4
  z4 := Tryd.sizeOf4
  v4 := Tryd.zeroValue4
  t23 := Tryd.underlying64
  a23 := Tryd.isAgg64
  z23 := Tryd.sizeOf64
  v23 := Tryd.zeroValue64
  t24 := Tryd.underlying64
  a24 := Tryd.isAgg64
  z24 := Tryd.sizeOf64
  v24 := Tryd.zeroValue64
  a26 := Tryd.isAgg3
  z26 := Tryd.sizeOf3
  a27 := Tryd.isAgg32
  z27 := Tryd.sizeOf32

abbrev DU := DataW Unit
theorem lawK : Keyed Tryd.prog 3 := int_keyed Tryd.underlying3
def kL (s : Nat) : Lit := .int .i64 s
theorem kL_inj {s t : Nat} (h : kL s = kL t) : s = t := by
  simp only [kL, Lit.int.injEq] at h
  omega
theorem kL_key (s : Nat) : WideAt.IsKeyLit (kL s) := trivial
theorem keyOf_kL (s : Nat) (hs : s ≤ 9223372036854775807) : keyOf Tryd.prog 3 (.int .i64 s) = some (kL s) := keyOf_int_mk Tryd.underlying3 (by simp only [Lit.wf, Bool.and_eq_true, decide_eq_true_eq]; exact ⟨by show (-9223372036854775808 : Int) ≤ _; omega, by show _ ≤ (9223372036854775807 : Int); omega⟩)
/-- How a slice in such a map reads: by its block alone. -/
def RS (sz : Nat) (v : Value) : Option (DU × List MemPlace) :=
  match v with
  | .slice none n c => if n = 0 ∧ c = 0 then some (.nil, []) else none
  | .slice (some ⟨g, o, none⟩) n c => if o = 0 ∧ n = sz ∧ c = sz then some (.lit (.int .i64 g), []) else none
  | _ => none
theorem rs_nil (sz : Nat) : RS sz (.slice none 0 0) = some (.nil, []) := rfl
theorem rs_at (sz g : Nat) : RS sz (.slice (some ⟨g, 0, none⟩) sz sz) = some (.lit (.int .i64 g), []) := by simp [RS]
theorem rs_nil_inv {sz : Nat} {v : Value} {ps : List MemPlace} (h : RS sz v = some (.nil, ps)) : v = .slice none 0 0 := by
  unfold RS at h
  split at h
  · split at h
    · rename_i h1; rw [h1.1, h1.2]
    · cases h
  · split at h
    · simp at h
    · cases h
  · cases h
theorem rs_at_inv {sz g : Nat} {v : Value} {ps : List MemPlace} (h : RS sz v = some (.lit (.int .i64 g), ps)) : v = .slice (some ⟨g, 0, none⟩) sz sz := by
  unfold RS at h
  split at h
  · split at h
    · simp at h
    · cases h
  · split at h
    · rename_i h1
      obtain ⟨rfl, rfl, rfl⟩ := h1
      simp only [Option.some.injEq, Prod.mk.injEq, DataW.lit.injEq, Lit.int.injEq, true_and] at h
      have := h.1
      simp only [Value.slice.injEq, Option.some.injEq, Addr.mk.injEq, and_true]
      omega
    · cases h
  · cases h
theorem rs_shape {sz : Nat} {v : Value} {d : DU} {ps : List MemPlace} (h : RS sz v = some (d, ps)) : v = .slice none 0 0 ∨ ∃ g, v = .slice (some ⟨g, 0, none⟩) sz sz := by
  unfold RS at h
  split at h
  · split at h
    · rename_i h1; rw [h1.1, h1.2]; exact Or.inl rfl
    · cases h
  · split at h
    · rename_i h1
      obtain ⟨rfl, rfl, rfl⟩ := h1
      exact Or.inr ⟨_, rfl⟩
    · cases h
  · cases h
/-- The map in block b holds the contents f of sectors below N, in rows of Q. -/
structure MapR (Q : Nat → Prop) (w : World) (sz N b : Nat) (D : DU) (f : Nat → Option (List Int)) : Prop where
  own : w.ownsMap Tryd.prog 3 (RS sz) b (Maps.size D) D
  has : ∀ s, s < N → Maps.has D (kL s) = (f s).isSome
  at' : ∀ s l v ps, s < N → f s = some l → RS sz v = some (D.atKey (kL s) .nil, ps) → CR Q w v l
  keys : ∀ k, Maps.has D k = true → ∃ s, s < N ∧ k = kL s
theorem owns_tight {w : World} {k : TypeId} {R : Value → Option (DU × List MemPlace)} {b n : Nat} {D : DU} (h : w.ownsMap Tryd.prog k R b n D) : w.ownsMap Tryd.prog k R b (Maps.size D) D := by
  obtain ⟨es, clock, h1, h2, h3, rfl⟩ := h
  exact ⟨es, clock, h1, h2, by simp [Maps.size, length_sorted], rfl⟩
theorem rise_len (N : Nat) : ∀ (es : List (Lit × DU)) (a : Nat), es.Pairwise (fun p q => p.1.before q.1 = true) → (∀ p ∈ es, ∃ s, a ≤ s ∧ s < N ∧ p.1 = kL s) → es.length ≤ N - a
  | [], _, _, _ => Nat.zero_le _
  | p :: r, a, hp, hk => by
    obtain ⟨h1, h2⟩ := List.pairwise_cons.1 hp
    obtain ⟨s, s1, s2, s3⟩ := hk p (by simp)
    have := rise_len N r (s + 1) h2 fun q hq => by
      obtain ⟨t, _, t2, t3⟩ := hk q (by simp [hq])
      have hb := h1 q hq
      rw [s3, t3] at hb
      simp only [kL, Lit.before, decide_eq_true_eq] at hb
      exact ⟨t, by omega, t2, t3⟩
    simp only [List.length_cons]
    omega
section
variable {Q Q' : Nat → Prop} {w w' : World} {sz N b : Nat} {D : DU} {f : Nat → Option (List Int)}
theorem MapR.len (h : MapR Q w sz N b D f) : Maps.size D ≤ N := by
  obtain ⟨es, rfl, h1, h2⟩ := h.own.canonK lawK
  have := rise_len N es 0 h1 fun p hp => by
    have hx : Maps.has (DataW.map es) p.1 = true := by
      rw [Maps.has_eq]
      obtain ⟨v, hv⟩ := h2 p hp
      exact List.any_eq_true.2 ⟨p, hp, WideAt.sameKey_self (lawK.key hv)⟩
    obtain ⟨s, s1, s2⟩ := h.keys p.1 hx
    exact ⟨s, Nat.zero_le _, s1, s2⟩
  rw [Maps.size_eq]
  omega
theorem MapR.blt (h : MapR Q w sz N b D f) : b < w.heap.size := h.own.lt
theorem owns_keep {n : Nat} (h : w.ownsMap Tryd.prog 3 (RS sz) b n D) (hb : w'.heap[b]? = w.heap[b]?) : w'.ownsMap Tryd.prog 3 (RS sz) b n D := by
  obtain ⟨es, clock, h1, h2⟩ := h
  exact ⟨es, clock, hb.trans h1, h2⟩
theorem MapR.keep (h : MapR Q w sz N b D f) (hb : w'.heap[b]? = w.heap[b]?) (k : Keeps Q w w') : MapR Q w' sz N b D f :=
  ⟨owns_keep h.own hb, h.has, fun s l v ps hs hf hv => (h.at' s l v ps hs hf hv).keep k, h.keys⟩
theorem MapR.mono (h : MapR Q w sz N b D f) (hq : ∀ k, Q k → Q' k) : MapR Q' w sz N b D f :=
  ⟨h.own, h.has, fun s l v ps hs hf hv => (h.at' s l v ps hs hf hv).mono hq, h.keys⟩
theorem MapR.lt (h : MapR Q w sz N b D f) : MapR (fun k => Q k ∧ k < w.heap.size) w sz N b D f :=
  ⟨h.own, h.has, fun s l v ps hs hf hv => (h.at' s l v ps hs hf hv).lt, h.keys⟩
theorem MapR.made (Q : Nat → Prop) (w : World) (sz N : Nat) : MapR Q (w.alloc (.map #[] 0)) sz N w.heap.size (.map []) (fun _ => none) :=
  ⟨World.ownsMap_made w _ _ _, fun s _ => rfl, fun s l v ps _ hf => (by cases hf), fun k hk => (by cases hk)⟩
/-- A sector is set. -/
theorem MapR.put {n : Nat} (h : MapR Q w sz N b D f) {s g : Nat} {l : List Int} (hs : s < N) (hv : CR Q w (.slice (some ⟨g, 0, none⟩) sz sz) l) (ho : w'.ownsMap Tryd.prog 3 (RS sz) b n (D.put (kL s) (.lit (.int .i64 g)))) (hg : w.grownBy w' (some b)) (hq : ¬ Q b) :
    MapR Q w' sz N b (D.put (kL s) (.lit (.int .i64 g))) (fun x => if x = s then some l else f x) := by
  have hm := h.own.isMap
  have kq : Keeps Q w w' := keeps_grown hg fun k hk e => hq (by cases e; exact hk)
  refine ⟨owns_tight ho, fun x hx => ?_, fun x l' v ps hx hf hr => ?_, fun k hk => ?_⟩
  · by_cases e : x = s
    · subst e
      rw [has_put_same hm (kL_key x), if_pos rfl]
      rfl
    · rw [has_put_other (fun e2 => e (kL_inj e2)), if_neg e]
      exact h.has x hx
  · by_cases e : x = s
    · subst e
      rw [atKey_put_same hm (kL_key x)] at hr
      rw [if_pos rfl] at hf
      cases hf
      rw [rs_at_inv hr]
      exact hv.keep kq
    · rw [atKey_put_other (fun e2 => e (kL_inj e2))] at hr
      rw [if_neg e] at hf
      exact (h.at' x l' v ps hx hf hr).keep kq
  · by_cases e : k = kL s
    · exact ⟨s, hs, e⟩
    · rw [has_put_other e] at hk
      exact h.keys k hk
theorem merge_has {Dd Ds : DU} (cd : CanonK (KeysOf Tryd.prog 3) Dd) (cs : CanonK (KeysOf Tryd.prog 3) Ds) (k : Lit) : Maps.has (Lib.mergeD Dd Ds) k = (Maps.has Dd k || Maps.has Ds k) := by
  obtain ⟨ed, rfl, d1, d2⟩ := cd
  obtain ⟨es, rfl, s1, s2⟩ := cs
  exact has_foldPut k es _ ⟨_, rfl⟩ fun p hp => by obtain ⟨v, hv⟩ := s2 p hp; exact lawK.key hv
theorem merge_at {Dd Ds : DU} (cd : CanonK (KeysOf Tryd.prog 3) Dd) (cs : CanonK (KeysOf Tryd.prog 3) Ds) (k : Lit) (z : DU) : (Lib.mergeD Dd Ds).atKey k z = if Maps.has Ds k = true then Ds.atKey k z else Dd.atKey k z := by
  obtain ⟨ed, rfl, d1, d2⟩ := cd
  obtain ⟨es, rfl, s1, s2⟩ := cs
  have h := atKey_foldPut k z es (.map ed) ⟨_, rfl⟩ (fun p hp => by obtain ⟨v, hv⟩ := s2 p hp; exact lawK.key hv) (apart_of_rising s1)
  refine Eq.trans h ?_
  cases hf : es.find? (fun p => p.1.sameKey k) with
  | none =>
    have h0 : Maps.has (.map es : DU) k = false := by
      rw [Maps.has_eq]
      exact List.any_eq_false.2 fun p hp => by simpa using List.find?_eq_none.1 hf p hp
    simp [h0]
  | some p =>
    have h1 : Maps.has (.map es : DU) k = true := by
      rw [Maps.has_eq]
      exact List.any_eq_true.2 ⟨p, List.mem_of_find?_eq_some hf, List.find?_some (p := fun (q : Lit × DU) => q.1.sameKey k) hf⟩
    rw [if_pos h1]
    simp only [DataW.atKey, hf]
/-- What one map holds is laid into another. -/
theorem MapR.merge {n bs : Nat} {Ds : DU} {g : Nat → Option (List Int)} (h : MapR Q w sz N b D f) (hs : MapR Q w sz N bs Ds g) (ho : w'.ownsMap Tryd.prog 3 (RS sz) b n (Lib.mergeD D Ds)) (hg : w.grownBy w' (some b)) (hq : ¬ Q b) :
    MapR Q w' sz N b (Lib.mergeD D Ds) (fun x => (g x).or (f x)) := by
  have cd := h.own.canonK lawK
  have cs := hs.own.canonK lawK
  have kq : Keeps Q w w' := keeps_grown hg fun k hk e => hq (by cases e; exact hk)
  refine ⟨owns_tight ho, fun x hx => ?_, fun x l v ps hx hf hr => ?_, fun k hk => ?_⟩
  · rw [merge_has cd cs, h.has x hx, hs.has x hx]
    cases g x <;> cases f x <;> rfl
  · rw [merge_at cd cs, hs.has x hx] at hr
    cases e : g x with
    | some l2 =>
      rw [e] at hf hr
      cases hf
      simp only [Option.isSome_some, if_true] at hr
      exact (hs.at' x _ v ps hx e hr).keep kq
    | none =>
      rw [e] at hf hr
      simp only [Option.isSome_none, Bool.false_eq_true, if_false] at hr
      exact (h.at' x l v ps hx (by simpa using hf) hr).keep kq
  · rw [merge_has cd cs, Bool.or_eq_true] at hk
    rcases hk with h1 | h1
    · exact h.keys k h1
    · exact hs.keys k h1
theorem MapR.congr {g : Nat → Option (List Int)} (h : MapR Q w sz N b D f) (e : ∀ s, s < N → f s = g s) : MapR Q w sz N b D g :=
  ⟨h.own, fun s hs => by rw [← e s hs]; exact h.has s hs, fun s l v ps hs hf => h.at' s l v ps hs (by rw [e s hs]; exact hf), h.keys⟩
end
end Go.Proofs.YtlffiebnieakjaaDoor

/- The program's disk in memory; its small functions. Bounds on sizes alone. -/
namespace Go.Proofs.YtlffiebnieakjaaDoor
open Go.RowKit Go.Maps
set_option maxRecDepth 100000
set_option maxHeartbeats 1600000

theorem lookF_lt {c : List (Nat × List Int)} {N s : Nat} (hc : ∀ p ∈ c, p.1 < N) : ∀ k l, lookF c s k = some l → s < N
  | 0, l, h => by cases h
  | k + 1, l, h => by
    rw [lookF] at h
    split at h
    · rename_i p hp
      split at h
      · rename_i e; rw [← e]; exact hc p (List.mem_of_getElem? hp)
      · exact lookF_lt hc k l h
    · exact lookF_lt hc k l h
namespace Dg
abbrev Qp (S : Nat → Prop) (b bd bl : Nat) (vc : Value) : Nat → Prop := fun k => S k ∧ k ≠ b ∧ k ≠ bd ∧ k ≠ bl ∧ vc.ownBlock ≠ some k
/-- The program's disk in block b, all of it in S. -/
structure DK (S : Nat → Prop) (w : World) (b : Nat) (M : DM) (bd bl : Nat) (vc : Value) (Dd Dl : DU) (fd : Nat → Option (List Int)) (cg : Bool) (cd : Int) (ps : List PV) : Prop where
  sb : S b
  sd : S bd ∧ bd ≠ b
  sl : S bl ∧ bl ≠ b ∧ bl ≠ bd
  box : w.heap[b]? = some (.cells [.int .i64 M.secs.length, .int .i64 M.sz, .map (some bd), vc, .map (some bl), .bool M.off, .bool cg, .int .i64 cd].toArray 67 (0, 0))
  dur : MapR (Qp S b bd bl vc) w M.sz M.secs.length bd Dd fd
  sec : ∀ s, s < M.secs.length → M.secs[s]? = some ((fd s).getD (List.replicate M.sz 0))
  lat : MapR (Qp S b bd bl vc) w M.sz M.secs.length bl Dl (fun s => lookF M.cache s M.cache.length)
  cac : w.ownsRow 0 77 2 vc M.cache.length (prs ps)
  ci : ∀ k, vc.ownBlock = some k → S k ∧ k ≠ b ∧ k ≠ bd ∧ k ≠ bl
  ent : ∀ (i : Nat) (p : PV) (q : Nat × List Int), ps[i]? = some p → M.cache[i]? = some q → p.1 = .int .i64 q.1 ∧ (∃ g, p.2 = .slice (some ⟨g, 0, none⟩) M.sz M.sz) ∧ CR (Qp S b bd bl vc) w p.2 q.2
  ok : M.Ok
  cnt : (cg = true ∧ cd = M.cnt ∧ 0 ≤ M.cnt) ∨ (cg = false ∧ M.cnt = -1)
def DS (S : Nat → Prop) (w : World) (b : Nat) (M : DM) : Prop := ∃ bd bl vc Dd Dl fd cg cd ps, DK S w b M bd bl vc Dd Dl fd cg cd ps
section
variable {S T : Nat → Prop} {w w' : World} {b : Nat} {M : DM} {bd bl : Nat} {vc : Value} {Dd Dl : DU} {fd : Nat → Option (List Int)} {cg : Bool} {cd : Int} {ps : List PV}
theorem DK.blt (h : DK S w b M bd bl vc Dd Dl fd cg cd ps) : b < w.heap.size := lt_of_block h.box
theorem DK.keep (h : DK S w b M bd bl vc Dd Dl fd cg cd ps) (k : Keeps S w w') : DK S w' b M bd bl vc Dd Dl fd cg cd ps := by
  have kq : Keeps (Qp S b bd bl vc) w w' := ⟨k.1, fun x hx hl => k.2 x hx.1 hl⟩
  exact ⟨h.sb, h.sd, h.sl, (k.2 b h.sb h.blt).trans h.box, h.dur.keep (k.2 bd h.sd.1 h.dur.blt) kq, h.sec, h.lat.keep (k.2 bl h.sl.1 h.lat.blt) kq, own_same h.cac fun x hx => k.2 x (h.ci x hx).1 (h.cac.lt x hx).2, h.ci, fun i p q hp hq => ⟨(h.ent i p q hp hq).1, (h.ent i p q hp hq).2.1, (h.ent i p q hp hq).2.2.keep kq⟩, h.ok, h.cnt⟩
theorem DK.mono (h : DK S w b M bd bl vc Dd Dl fd cg cd ps) (hs : ∀ k, S k → T k) : DK T w b M bd bl vc Dd Dl fd cg cd ps :=
  have kq : ∀ k, Qp S b bd bl vc k → Qp T b bd bl vc k := fun k hk => ⟨hs k hk.1, hk.2⟩
  ⟨hs b h.sb, ⟨hs _ h.sd.1, h.sd.2⟩, ⟨hs _ h.sl.1, h.sl.2⟩, h.box, h.dur.mono kq, h.sec, h.lat.mono kq, h.cac, fun k hk => ⟨hs k (h.ci k hk).1, (h.ci k hk).2⟩, fun i p q hp hq => ⟨(h.ent i p q hp hq).1, (h.ent i p q hp hq).2.1, (h.ent i p q hp hq).2.2.mono kq⟩, h.ok, h.cnt⟩
theorem DK.lt (h : DK S w b M bd bl vc Dd Dl fd cg cd ps) : DK (fun k => S k ∧ k < w.heap.size) w b M bd bl vc Dd Dl fd cg cd ps :=
  have kq : ∀ k, (Qp S b bd bl vc k ∧ k < w.heap.size) → Qp (fun k => S k ∧ k < w.heap.size) b bd bl vc k := fun k hk => ⟨⟨hk.1.1, hk.2⟩, hk.1.2⟩
  ⟨⟨h.sb, h.blt⟩, ⟨⟨h.sd.1, h.dur.blt⟩, h.sd.2⟩, ⟨⟨h.sl.1, h.lat.blt⟩, h.sl.2⟩, h.box, h.dur.lt.mono kq, h.sec, h.lat.lt.mono kq, h.cac, fun k hk => ⟨⟨(h.ci k hk).1, (h.cac.lt k hk).2⟩, (h.ci k hk).2⟩, fun i p q hp hq => ⟨(h.ent i p q hp hq).1, (h.ent i p q hp hq).2.1, (h.ent i p q hp hq).2.2.lt.mono kq⟩, h.ok, h.cnt⟩
theorem DK.cells (h : DK S w b M bd bl vc Dd Dl fd cg cd ps) : w.cell? ⟨b, 0, none⟩ = some (.int .i64 M.secs.length) ∧ w.cell? ⟨b, 1, none⟩ = some (.int .i64 M.sz) ∧ w.cell? ⟨b, 2, none⟩ = some (.map (some bd)) ∧ w.cell? ⟨b, 3, none⟩ = some vc ∧ w.cell? ⟨b, 4, none⟩ = some (.map (some bl)) ∧ w.cell? ⟨b, 5, none⟩ = some (.bool M.off) ∧ w.cell? ⟨b, 6, none⟩ = some (.bool cg) ∧ w.cell? ⟨b, 7, none⟩ = some (.int .i64 cd) :=
  ⟨cell_blk h.box rfl, cell_blk h.box rfl, cell_blk h.box rfl, cell_blk h.box rfl, cell_blk h.box rfl, cell_blk h.box rfl, cell_blk h.box rfl, cell_blk h.box rfl⟩
theorem DK.free (h : DK S w b M bd bl vc Dd Dl fd cg cd ps) (j : Nat) : w.frozen? ⟨b, j, none⟩ = false := fr_blk h.box j
theorem DK.drew (h : DK S w b M bd bl vc Dd Dl fd cg cd ps) : DK S w.drew b M bd bl vc Dd Dl fd cg cd ps := h.keep ⟨Nat.le_refl _, fun _ _ _ => rfl⟩
/-- A number or a flag in the box has changed. -/
theorem DK.set {M2 : DM} {cg2 : Bool} {cd2 : Int} (h : DK S w b M bd bl vc Dd Dl fd cg cd ps) (j : Nat) (v : Value) (e : [.int .i64 M.secs.length, .int .i64 M.sz, .map (some bd), vc, .map (some bl), .bool M.off, .bool cg, .int .i64 cd].set j v = [.int .i64 M2.secs.length, .int .i64 M2.sz, .map (some bd), vc, .map (some bl), .bool M2.off, .bool cg2, .int .i64 cd2]) (h0 : M2.sz = M.sz) (h1 : M2.secs = M.secs) (h2 : M2.cache = M.cache) (ok : M2.Ok) (cn : (cg2 = true ∧ cd2 = M2.cnt ∧ 0 ≤ M2.cnt) ∨ (cg2 = false ∧ M2.cnt = -1)) : DK S (w.setCell ⟨b, j, none⟩ v) b M2 bd bl vc Dd Dl fd cg2 cd2 ps := by
  have kq : Keeps (Qp S b bd bl vc) w (w.setCell ⟨b, j, none⟩ v) := keeps_set w b j v fun hk => hk.2.1 rfl
  have ko : ∀ k, k ≠ b → (w.setCell ⟨b, j, none⟩ v).heap[k]? = w.heap[k]? := fun k hk => set_blk (Ne.symm hk)
  refine ⟨h.sb, h.sd, h.sl, by rw [← e]; exact Go.Proofs.YtlffiebnieakjaaDoor.blk_setCell (k := j) h.box, ?_, ?_, ?_, ?_, h.ci, ?_, ok, cn⟩
  · rw [h0, h1]; exact h.dur.keep (ko bd h.sd.2) kq
  · rw [h0, h1]; exact h.sec
  · rw [h0, h1, h2]; exact h.lat.keep (ko bl h.sl.2.1) kq
  · rw [h2]; exact own_same h.cac fun x hx => ko x (h.ci x hx).2.1
  · rw [h0, h2]; exact fun i p q hp hq => ⟨(h.ent i p q hp hq).1, (h.ent i p q hp hq).2.1, (h.ent i p q hp hq).2.2.keep kq⟩
theorem DK.pl (h : DK S w b M bd bl vc Dd Dl fd cg cd ps) : ps.length = M.cache.length := by have := h.cac.1; rw [prs_length] at this; omega
theorem DK.prd (h : DK S w b M bd bl vc Dd Dl fd cg cd ps) : PRd w vc ps :=
  (show OP 77 0 w w vc ps from ⟨Nat.zero_le _, Below.refl _ _, by rw [h.pl]; exact h.cac⟩).prd
end
section
variable (S : Nat → Prop) (w : World) (b : Nat) (M : DM) (bd bl : Nat) (vc : Value) (Dd Dl : DU) (fd : Nat → Option (List Int)) (cg : Bool) (cd : Int) (ps : List PV)
theorem sectors_any (h : DK S w b M bd bl vc Dd Dl fd cg cd ps) : Calls Tryd.prog 12 #[.pointer (some ⟨b, 0, none⟩)] w fun e w' => e = .returned (.int .i64 M.secs.length) ∧ Below w.heap.size w w' := by
  obtain ⟨c0, c1, c2, c3, c4, c5, c6, c7⟩ := h.cells
  clear h
  go_enter Tryd.func12, Tryd.ntmps12
  go_wp2
  go_ret
  exact ⟨rfl, Below.refl _ _⟩
theorem size_any (h : DK S w b M bd bl vc Dd Dl fd cg cd ps) : Calls Tryd.prog 19 #[.pointer (some ⟨b, 0, none⟩)] w fun e w' => e = .returned (.int .i64 M.sz) ∧ Below w.heap.size w w' := by
  obtain ⟨c0, c1, c2, c3, c4, c5, c6, c7⟩ := h.cells
  clear h
  go_enter Tryd.func19, Tryd.ntmps19
  go_wp2
  go_ret
  exact ⟨rfl, Below.refl _ _⟩
theorem down_any (h : DK S w b M bd bl vc Dd Dl fd cg cd ps) : Calls Tryd.prog 27 #[.pointer (some ⟨b, 0, none⟩)] w fun e w' => e = .returned (.bool M.off) ∧ ∃ m, w' = w.drewN m := by
  obtain ⟨c0, c1, c2, c3, c4, c5, c6, c7⟩ := h.cells
  clear h
  go_enter Tryd.func27, Tryd.ntmps27
  go_wp2
  go_ret
  exact ⟨rfl, 0, rfl⟩
theorem cached_any (h : DK S w b M bd bl vc Dd Dl fd cg cd ps) : Calls Tryd.prog 20 #[.pointer (some ⟨b, 0, none⟩)] w fun e w' => e = .returned (.int .i64 M.cache.length) ∧ ∃ m, w' = w.drewN m := by
  obtain ⟨aC, cc, rfl⟩ := own_shape h.cac
  obtain ⟨c0, c1, c2, c3, c4, c5, c6, c7⟩ := h.cells
  clear h
  go_enter Tryd.func20, Tryd.ntmps20
  go_wp2
  go_ret
  exact ⟨rfl, 0, rfl⟩
theorem has_any (s : Int) (h : DK S w b M bd bl vc Dd Dl fd cg cd ps) : Calls Tryd.prog 37 #[.pointer (some ⟨b, 0, none⟩), .int .i64 s] w fun e w' => e = .returned (.bool (M.fits s)) ∧ w = w' := by
  obtain ⟨c0, c1, c2, c3, c4, c5, c6, c7⟩ := h.cells
  obtain ⟨n, hn⟩ : ∃ n, n = M.secs.length := ⟨_, rfl⟩
  have HF : Hid (M.fits s = decide (0 ≤ s ∧ s < n)) := hid_of (by rw [hn]; rfl)
  rw [HF.out]
  rw [← hn] at c0
  clear h hn HF
  by_cases h0 : s < 0
  · have d0 : decide (s ≥ 0) = false := by simp; omega
    have d1 : decide (0 ≤ s) = false := by simp; omega
    have d2 : decide (0 ≤ s ∧ s < (n : Int)) = false := by simp; omega
    rw [d2]
    clear h0
    go_enter Tryd.func37, Tryd.ntmps37
    go_wp2
    go_ret
    exact ⟨rfl, rfl⟩
  · have d0 : decide (s ≥ 0) = true := by simp; omega
    have d1 : decide (0 ≤ s) = true := by simp; omega
    have d2 : decide (0 ≤ s ∧ s < (n : Int)) = decide (s < (n : Int)) := by rw [decide_eq_decide]; omega
    rw [d2]
    clear h0
    go_enter Tryd.func37, Tryd.ntmps37
    go_wp2
    go_ret
    exact ⟨rfl, rfl⟩
theorem begin_any (h : DK S w b M bd bl vc Dd Dl fd cg cd ps) : Calls Tryd.prog 38 #[.pointer (some ⟨b, 0, none⟩)] w fun e w' => e = .returned (.bool (stepF M).1) ∧ (∃ cd2, DK S w' b (stepF M).2 bd bl vc Dd Dl fd cg cd2 ps) ∧ Kept (fun k => k = b) w w' := by
  obtain ⟨c0, c1, c2, c3, c4, c5, c6, c7⟩ := h.cells
  have f5 := h.free 5
  have f7 := h.free 7
  have hok := h.ok.cnt
  have hcn := h.cnt
  obtain ⟨s1, s2, s3⟩ := stepF_same M
  by_cases h1 : M.off = true
  · have hs : stepF M = (false, { M with off := true }) := by rw [stepF, if_pos (Or.inl h1)]
    have HE : Hid ((stepF M).1 = false) := hid_of (by rw [hs])
    cases cg with
    | false =>
      have HK : Hid (DK S w b (stepF M).2 bd bl vc Dd Dl fd false cd ps) := hid_of (by rw [hs]; cases M; simp only at h1; subst h1; exact h)
      rw [h1] at c5
      clear h h1 hcn hs
      go_enter Tryd.func38, Tryd.ntmps38
      go_wp2
      go_ret
      exact ⟨by rw [HE.out]; rfl, ⟨_, HK.out⟩, Kept.refl _ _⟩
    | true =>
      by_cases h2 : cd = 0
      · subst h2
        have HK : Hid (DK S (w.setCell ⟨b, 5, none⟩ (.bool true)) b (stepF M).2 bd bl vc Dd Dl fd true 0 ps) := hid_of (h.set 5 _ (by rw [s1, s2, hs]; rfl) s1 s2 s3 h.ok.step (by rw [hs]; exact hcn))
        rw [h1] at c5
        clear h h1 hcn hs
        go_enter Tryd.func38, Tryd.ntmps38
        go_wp2
        go_ret
        exact ⟨by rw [HE.out]; rfl, ⟨_, HK.out⟩, Kept.set _ _ _ _⟩
      · have d0 : (cd == 0) = false := by simpa using h2
        have HK : Hid (DK S w b (stepF M).2 bd bl vc Dd Dl fd true cd ps) := hid_of (by rw [hs]; cases M; simp only at h1; subst h1; exact h)
        rw [h1] at c5
        clear h h1 h2 hcn hs
        go_enter Tryd.func38, Tryd.ntmps38
        go_wp2
        go_ret
        exact ⟨by rw [HE.out]; rfl, ⟨_, HK.out⟩, Kept.refl _ _⟩
  have h1' : M.off = false := by simpa using h1
  cases cg with
  | false =>
    have hcn1 : M.cnt = -1 := by rcases hcn with h2 | h2; cases h2.1; exact h2.2
    have hs : stepF M = (true, M) := by
      rw [stepF, if_neg (by rw [h1', hcn1]; simp), hcn1]
      cases M
      simp only at hcn1
      subst hcn1
      rfl
    have HE : Hid ((stepF M).1 = true) := hid_of (by rw [hs])
    have HK : Hid (DK S w b (stepF M).2 bd bl vc Dd Dl fd false cd ps) := hid_of (by rw [hs]; exact h)
    rw [h1'] at c5
    clear h h1 hcn hs
    go_enter Tryd.func38, Tryd.ntmps38
    go_wp2
    go_ret
    exact ⟨by rw [HE.out]; rfl, ⟨_, HK.out⟩, Kept.refl _ _⟩
  | true =>
    obtain ⟨hc1, hc2⟩ : cd = M.cnt ∧ 0 ≤ M.cnt := by rcases hcn with h2 | h2; exact h2.2; cases h2.1
    by_cases h2 : cd = 0
    · subst h2
      have hs : stepF M = (false, { M with off := true }) := by rw [stepF, if_pos (Or.inr hc1.symm)]
      have HE : Hid ((stepF M).1 = false) := hid_of (by rw [hs])
      have HK : Hid (DK S (w.setCell ⟨b, 5, none⟩ (.bool true)) b (stepF M).2 bd bl vc Dd Dl fd true 0 ps) := hid_of (h.set 5 _ (by rw [s1, s2, hs]; rfl) s1 s2 s3 h.ok.step (by rw [hs]; exact hcn))
      rw [h1'] at c5
      clear h h1 hcn hs hc1 hc2
      go_enter Tryd.func38, Tryd.ntmps38
      go_wp2
      go_ret
      exact ⟨by rw [HE.out]; rfl, ⟨_, HK.out⟩, Kept.set _ _ _ _⟩
    · have d0 : (cd == 0) = false := by simpa using h2
      have hs : stepF M = (true, { M with cnt := M.cnt - 1 }) := by rw [stepF, if_neg (by rw [h1']; simp; omega), if_pos (by omega)]
      have HE : Hid ((stepF M).1 = true) := hid_of (by rw [hs])
      have dw : IntKind.i64.wrap (cd - 1) = cd - 1 := IntWalk.i64_in _ (by omega)
      have HK : Hid (DK S (w.setCell ⟨b, 7, none⟩ (.int .i64 (cd - 1))) b (stepF M).2 bd bl vc Dd Dl fd true (cd - 1) ps) := hid_of (h.set 7 _ (by rw [s1, s2, hs]; rfl) s1 s2 s3 h.ok.step (by rw [hs]; exact Or.inl ⟨rfl, by simp only; omega, by simp only; omega⟩))
      rw [h1'] at c5
      clear h h1 h2 hcn hs hc1 hc2 hok
      go_enter Tryd.func38, Tryd.ntmps38
      go_wp2
      go_ret
      exact ⟨by rw [HE.out]; rfl, ⟨_, HK.out⟩, Kept.set _ _ _ _⟩
theorem fail_any (n : Int) (hn : R64 n) (h : DK S w b M bd bl vc Dd Dl fd cg cd ps) : Calls Tryd.prog 25 #[.pointer (some ⟨b, 0, none⟩), .int .i64 n] w fun e w' => e = .returned (.tuple #[]) ∧ DS S w' b (failF M n) ∧ Kept (fun k => k = b) w w' := by
  obtain ⟨c0, c1, c2, c3, c4, c5, c6, c7⟩ := h.cells
  have f6 := h.free 6
  by_cases h1 : M.off = true
  · have HK : Hid (DS S w b (failF M n)) := hid_of (by rw [failF, if_pos h1]; exact ⟨_, _, _, _, _, _, _, _, _, h⟩)
    rw [h1] at c5
    clear h h1
    go_enter Tryd.func25, Tryd.ntmps25
    go_wp2
    refine bodyPost_ret (results_none rfl _ _ _) rfl ?_
    exact ⟨rfl, HK.out, Kept.refl _ _⟩
  · have h1' : M.off = false := by simpa using h1
    obtain ⟨m, hm⟩ : ∃ m, m = max n 0 := ⟨_, rfl⟩
    have f7 : (w.setCell ⟨b, 6, none⟩ (.bool true)).frozen? ⟨b, 7, none⟩ = false := by
      have := fr_blk (Go.Proofs.YtlffiebnieakjaaDoor.blk_setCell (k := 6) (u := .bool true) h.box) 7
      exact this
    have HK : Hid (DS S ((w.setCell ⟨b, 6, none⟩ (.bool true)).setCell ⟨b, 7, none⟩ (.int .i64 m)) b (failF M n)) := hid_of (by
      have e : failF M n = { M with cnt := m } := by rw [failF, if_neg h1, hm]
      rw [e]
      have a1 := h.set (M2 := { M with cnt := 0 }) (cg2 := false) (cd2 := m) 6 (.bool true)
      refine ⟨bd, bl, vc, Dd, Dl, fd, true, m, ps, ?_⟩
      have k1 : Keeps (fun k => S k ∧ k ≠ b) w ((w.setCell ⟨b, 6, none⟩ (.bool true)).setCell ⟨b, 7, none⟩ (.int .i64 m)) := (keeps_set w b 6 _ fun hk => hk.2 rfl).trans (keeps_set _ b 7 _ fun hk => hk.2 rfl)
      have kq : Keeps (Qp S b bd bl vc) w ((w.setCell ⟨b, 6, none⟩ (.bool true)).setCell ⟨b, 7, none⟩ (.int .i64 m)) := ⟨k1.1, fun k hk => k1.2 k ⟨hk.1, hk.2.1⟩⟩
      refine ⟨h.sb, h.sd, h.sl, Go.Proofs.YtlffiebnieakjaaDoor.blk_setCell (k := 7) (Go.Proofs.YtlffiebnieakjaaDoor.blk_setCell (k := 6) h.box), h.dur.keep (k1.2 bd h.sd h.dur.blt) kq, h.sec, h.lat.keep (k1.2 bl ⟨h.sl.1, h.sl.2.1⟩ h.lat.blt) kq, own_same h.cac fun x hx => k1.2 x ⟨(h.ci x hx).1, (h.ci x hx).2.1⟩ (h.cac.lt x hx).2, h.ci, fun i p q hp hq => ⟨(h.ent i p q hp hq).1, (h.ent i p q hp hq).2.1, (h.ent i p q hp hq).2.2.keep kq⟩, ?_, Or.inl ⟨rfl, rfl, by show 0 ≤ m; omega⟩⟩
      rw [← e]
      exact h.ok.fail n hn.2)
    rw [h1'] at c5
    by_cases h2 : n < 0
    · have d0 : decide (n < 0) = true := by simpa using h2
      have hm0 : m = 0 := by omega
      subst hm0
      clear h h1 h1' hm
      go_enter Tryd.func25, Tryd.ntmps25
      go_wp2
      go_end0
      exact ⟨rfl, HK.out, (Kept.set _ _ _ _).trans (Kept.set _ _ _ _)⟩
    · have d0 : decide (n < 0) = false := by simpa using h2
      have hm0 : m = n := by omega
      subst hm0
      clear h h1 h1' hm
      go_enter Tryd.func25, Tryd.ntmps25
      go_wp2
      go_end0
      exact ⟨rfl, HK.out, (Kept.set _ _ _ _).trans (Kept.set _ _ _ _)⟩
end
end Dg
end Go.Proofs.YtlffiebnieakjaaDoor

/- The program's disk: a new sector with a copy, Read. Bounds on sizes alone. -/
namespace Go.Proofs.YtlffiebnieakjaaDoor
open Go.RowKit Go.Maps
set_option maxRecDepth 100000
set_option maxHeartbeats 3200000
theorem sizeB : (Tryd.prog.info? 5).map (·.size) = some 1 := by kernel_rfl
theorem zero_sl (w : World) : (zeroValue 32).run Tryd.prog w = .ok (.slice none 0 0) w := Tryd.zeroValue32 w
theorem src_cells {w : World} {bo : Option Addr} {bn bc : Nat} {l : List Int} (h : Rd w (.slice bo bn bc) (by8 l)) {sz : Nat} (hl : l.length ≤ sz) {g : Nat} : 0 < (by8 l).length → some (⟨g, 0, none⟩ : Addr) = some ⟨g, 0, none⟩ ∧ ∃ ad, bo = some ad ∧ ∀ (j : Nat) (v : Value), (by8 l)[j]? = some v → w.cell? (ad.add j) = some v := fun h0 => by
  obtain ⟨_, _, e, h2, h3, h4⟩ := h
  simp only [Value.slice.injEq] at e
  obtain ⟨rfl, _, rfl⟩ := e
  obtain ⟨gs, o, q1, q2, q3⟩ := h4 h0
  exact ⟨rfl, _, q1, fun j v hv => by rw [Addr.add_mid]; exact q3 j v hv⟩
theorem splice_pad (sz : Nat) (l : List Int) (hl : l.length ≤ sz) : splice (List.replicate sz (Value.int .u8 0)) 0 (by8 l) = by8 (l ++ List.replicate (sz - l.length) 0) := by
  simp [splice, by8]
theorem rs_sl {sz : Nat} {v : Value} {d : DU} {ps : List MemPlace} (h : RS sz v = some (d, ps)) : ∃ bo bn bc, v = .slice bo bn bc := by
  rcases rs_shape h with e | ⟨g, e⟩
  · exact ⟨_, _, _, e⟩
  · exact ⟨_, _, _, e⟩
/-- A look-up without 'ok'. -/
theorem wpList_lookup_own {H : Type} {P : Program} (w : World) {ops : Array Oper} {rest : List Oper} {o : Oper} {a : Act} {Q : Exit → Act → World → Prop} (hg : o.guard = none) (m x : Operand) (t : TypeId) (hop : o.op = Op.lookup t m x false)
    (k e : TypeId) (K : Keyed P k) (ht : P.underlying t = some (.map k e)) (R : Value → Option (DataW H × List MemPlace)) {z : Value} (hz : (zeroValue e).run P w = .ok z w) (zd : DataW H) (zp : List MemPlace) (hzd : R z = some (zd, zp)) (b n : Nat) (D : DataW H)
    (hm : a.eval m = .map (some b)) (hown : w.ownsMap P k R b n D) (key : Value) (kl : Lit) (hx : a.eval x = key) (hkey : keyOf P k key = some kl)
    (hK : ∀ v ps, R v = some (D.atKey kl zd, ps) → wpList P ops Q rest (a.put o.dst v) w) :
    wpList P ops Q (o :: rest) a w := by
  refine wpList_plain hg fun K' hK' => ?_
  obtain ⟨v, ps, hrun, hv⟩ := hown.lookup K ht hz hzd hkey
  unfold Oper.wp
  simp [execOp, hop, hm, hx, hrun, Result.andThen]
  exact hK' _ _ (hK v ps hv)
namespace Dg
section
variable (S : Nat → Prop) (w : World) (b : Nat) (M : DM) (bd bl : Nat) (vc : Value) (Dd Dl : DU) (fd : Nat → Option (List Int)) (cg : Bool) (cd : Int) (ps : List PV)
/-- A new sector with a copy of l. -/
theorem block_any (sz : Nat) (hz : sz ≤ 4096) (bo : Option Addr) (bn bc : Nat) (l : List Int) (hl : l.length ≤ sz) (hr : Rd w (.slice bo bn bc) (by8 l)) (c1 : w.cell? ⟨b, 1, none⟩ = some (.int .i64 sz)) :
    Calls Tryd.prog 39 #[.pointer (some ⟨b, 0, none⟩), .slice bo bn bc] w fun e w' => e = .returned (.slice (some ⟨w.heap.size, 0, none⟩) sz sz) ∧ w'.heap[w.heap.size]? = some (.cells (by8 (l ++ List.replicate (sz - l.length) 0)).toArray 5 (0, 0)) ∧ Below w.heap.size w w' := by
  have HN := hid_of ((rd_cut hr).1)
  have HR := hid_of hr
  have HW := hid_of (heap_alloc_new w (.cells (List.replicate sz (.int .u8 0)).toArray 5))
  have MK : ∀ w : World, (Instr.makeSlice 32 (.int .i64 sz) (.int .i64 sz)).run Tryd.prog w = .ok (.slice (some ⟨w.heap.size, 0, none⟩) sz sz) (w.alloc (.cells (List.replicate sz (.int .u8 0)).toArray 5)) := fun w => by
    have h := run_make_row' (P := Tryd.prog) 32 5 (.int .u8 0) 1 u8E.und u8E.info rfl .i64 .i64 sz (by omega) (by omega) w
    rw [show madeCells #[Value.int .u8 0] sz = (List.replicate sz (.int .u8 0)).toArray by rw [← Array.toList_inj]; simp [toList_madeCells_one]] at h
    exact h
  have HC := hid_of (src_cells (hr.at (bel_alloc w (.cells (List.replicate sz (.int .u8 0)).toArray 5))) hl (g := w.heap.size))
  have HB := hid_of (bel_alloc w (.cells (List.replicate sz (.int .u8 0)).toArray 5))
  have HS := hid_of (splice_pad sz l hl)
  clear hr
  go_enter Tryd.func39, Tryd.ntmps39
  go_wp2_with (refine wpList_copy_splice rfl _ _ 32 32 rfl 5 Tryd.underlying32 sizeB (some ⟨w.heap.size, 0, none⟩) bo sz sz bn bc rfl rfl w.heap.size 0 (List.replicate sz (Value.int .u8 0)) 5 HW.out (by8 l) (by rw [by8_length]; have := HN.out; rw [by8_length] at this; rw [this]; exact (Nat.min_eq_left hl).symm) HC.out (by rw [by8_length]; simp; omega) (by8_cells l) w.heap.size w HB.out (Nat.le_refl _) ?_; intro w3 h6 h7; rw [HS.out] at h6; have C3 := h6; have B3 := hid_of h7; clear h6 h7)
  go_ret
  exact ⟨rfl, C3.out, B3.out⟩
/-- What Read gives, in a new row. -/
theorem read_any (s : Int) (hs : R64 s) (h : DK S w b M bd bl vc Dd Dl fd cg cd ps) : Calls Tryd.prog 31 #[.pointer (some ⟨b, 0, none⟩), .int .i64 s] w fun e w' => (∃ n, e = .returned (.tuple #[.slice none 0 0, .int .i64 n]) ∧ readF M s = ([], n) ∧ Below w.heap.size w w') ∨ (e = .returned (.tuple #[.slice (some ⟨w.heap.size, 0, none⟩) M.sz M.sz, .int .i64 0]) ∧ (readF M s).2 = 0 ∧ (readF M s).1.length = M.sz ∧ w'.heap[w.heap.size]? = some (.cells (by8 (readF M s).1).toArray 5 (0, 0)) ∧ Below w.heap.size w w') := by
  have CH := hid_of (has_any S w b M bd bl vc Dd Dl fd cg cd ps s h)
  obtain ⟨c0, c1, c2, c3, c4, c5, c6, c7⟩ := h.cells
  by_cases hf : M.fits s = false
  · have HE : Hid (readF M s = ([], 1)) := hid_of (by rw [readF, if_pos hf])
    rw [hf] at CH
    clear h hf
    go_enter Tryd.func31, Tryd.ntmps31
    go_wp2_with (go_at_call 37; ((with_reducible refine (CH.out).mono ?_); (rintro e w1 ⟨rfl, rfl⟩)))
    go_ret2
    exact Or.inl ⟨1, rfl, HE.out, Below.refl _ _⟩
  obtain ⟨k, rfl, hk, hkn⟩ := fits_at (by simpa using hf)
  rw [show M.fits k = true by simpa using hf] at CH
  by_cases ho : M.off = true
  · have HE : Hid (readF M k = ([], 8)) := hid_of (by rw [readF, if_neg hf, if_pos ho])
    rw [ho] at c5
    clear h hf ho
    go_enter Tryd.func31, Tryd.ntmps31
    go_wp2_with (go_at_call 37; ((with_reducible refine (CH.out).mono ?_); (rintro e w1 ⟨rfl, rfl⟩)))
    go_ret2
    exact Or.inl ⟨8, rfl, HE.out, Below.refl _ _⟩
  have ho' : M.off = false := by simpa using ho
  have HE : Hid (readF M k = (M.content k, 0)) := hid_of (by rw [readF, if_neg hf, if_neg ho, hkn])
  have HZ := hid_of h.ok.sz
  have HL := hid_of (h.ok.content_len hk)
  have HM := hid_of h
  have HK := hid_of hk
  have hk9 : k ≤ 9223372036854775807 := by have := h.ok.secs; omega
  have hn9 : M.secs.length ≤ 65536 := h.ok.secs
  have OL := hid_of h.lat.own
  have OD := hid_of h.dur.own
  have CB := hid_of (fun bo bn bc l (hl : l.length ≤ M.sz) hr => block_any w b M.sz h.ok.sz bo bn bc l hl hr c1)
  have HH : Hid (Maps.has Dl (kL k) = (lookF M.cache k M.cache.length).isSome) := hid_of (h.lat.has k hk)
  have HC : Hid (∀ v ps', RS M.sz v = some (Dl.atKey (kL k) .nil, ps') → ∀ l, lookF M.cache k M.cache.length = some l → ∃ bo bn bc, v = .slice bo bn bc ∧ Rd w v (by8 l) ∧ M.content k = l) := hid_of (fun v ps' hv l hl => by
    obtain ⟨bo, bn, bc, e⟩ := rs_sl hv
    exact ⟨bo, bn, bc, e, (h.lat.at' k l v ps' hk hl hv).1, by rw [DM.content, hl]; rfl⟩)
  have HD : Hid (∀ v ps', RS M.sz v = some (Dd.atKey (kL k) .nil, ps') → lookF M.cache k M.cache.length = none → ∃ bo bn bc l, v = .slice bo bn bc ∧ l.length ≤ M.sz ∧ Rd w v (by8 l) ∧ M.content k = l ++ List.replicate (M.sz - l.length) 0) := hid_of (fun v ps' hv hl => by
    have hs2 := h.sec k hk
    have hct : M.content k = (fd k).getD (List.replicate M.sz 0) := by rw [DM.content, hl]; show M.secs.getD k [] = _; rw [List.getD_eq_getElem?_getD, hs2]; rfl
    cases hfd : fd k with
    | none =>
      have h0 : Maps.has Dd (kL k) = false := by rw [h.dur.has k hk, hfd]; rfl
      rw [atKey_of_not_has h0] at hv
      exact ⟨none, 0, 0, [], rs_nil_inv hv, Nat.zero_le _, by rw [rs_nil_inv hv]; exact ⟨none, 0, rfl, Nat.le_refl _, by omega, fun h => by simp [by8] at h⟩, by rw [hct, hfd]; rfl⟩
    | some l =>
      obtain ⟨bo, bn, bc, e⟩ := rs_sl hv
      have hll : l.length = M.sz := by have h9 := h.ok.content_len hk; rw [hct, hfd] at h9; exact h9
      exact ⟨bo, bn, bc, l, e, by omega, (h.dur.at' k l v ps' hk hfd hv).1, by rw [hct, hfd, hll, Nat.sub_self]; exact (List.append_nil l).symm⟩)
  rw [ho'] at c5
  clear h hf ho ho' hkn hk
  cases hlk : lookF M.cache k M.cache.length with
  | some l =>
    rw [hlk] at HH HC
    clear HD
    go_enter Tryd.func31, Tryd.ntmps31
    go_wp2_with (first
      | (go_at_call 37; ((with_reducible refine (CH.out).mono ?_); (rintro e w1 ⟨rfl, rfl⟩)))
      | (at_lookup; refine wpList_lookup_own_ok _ rfl _ _ 64 rfl 3 32 lawK Tryd.underlying64 (RS M.sz) (zero_sl _) .nil [] (rs_nil _) bl _ Dl rfl OL.out _ _ rfl (keyOf_kL k hk9) ?_; intro v ps' hv; rw [HH.out]; obtain ⟨bo, bn, bc, rfl, q1, q2⟩ := HC.out v ps' hv l rfl; have R1 := hid_of q1; have E1 := hid_of q2; clear hv q1 q2)
      | (go_at_call 39; ((with_reducible refine (CB.out bo bn bc l (by have := HL.out; rw [E1.out] at this; omega) R1.out).mono ?_); (rintro e w2 ⟨rfl, q1, q2⟩)); have R2 := hid_of q1; have B2 := hid_of q2; clear q1 q2))
    go_ret2
    exact Or.inr ⟨rfl, by rw [HE.out], by rw [HE.out]; exact HL.out, by
      rw [HE.out]
      have h9 := R2.out
      have h8 := HL.out
      rw [E1.out] at h8
      rw [h8, Nat.sub_self, List.replicate_zero, List.append_nil] at h9
      rw [E1.out]
      exact h9, B2.out⟩
  | none =>
    rw [hlk] at HH
    replace HD := hid_of (fun v ps' hv => HD.out v ps' hv hlk)
    clear HC
    go_enter Tryd.func31, Tryd.ntmps31
    go_wp2_with (first
      | (go_at_call 37; ((with_reducible refine (CH.out).mono ?_); (rintro e w1 ⟨rfl, rfl⟩)))
      | (at_lookup; refine wpList_lookup_own_ok _ rfl _ _ 64 rfl 3 32 lawK Tryd.underlying64 (RS M.sz) (zero_sl _) .nil [] (rs_nil _) bl _ Dl rfl OL.out _ _ rfl (keyOf_kL k hk9) ?_; intro v ps' hv; rw [HH.out]; clear hv)
      | (at_lookup; refine wpList_lookup_own _ rfl _ _ 64 rfl 3 32 lawK Tryd.underlying64 (RS M.sz) (zero_sl _) .nil [] (rs_nil _) bd _ Dd rfl OD.out _ _ rfl (keyOf_kL k hk9) ?_; intro v2 ps2 hv; obtain ⟨bo, bn, bc, l, rfl, q0, q1, q2⟩ := HD.out v2 ps2 hv; have R0 := hid_of q0; have R1 := hid_of q1; have E1 := hid_of q2; clear hv q0 q1 q2)
      | (go_at_call 39; ((with_reducible refine (CB.out bo bn bc l R0.out R1.out).mono ?_); (rintro e w2 ⟨rfl, q1, q2⟩)); have R2 := hid_of q1; have B2 := hid_of q2; clear q1 q2))
    go_ret2
    exact Or.inr ⟨rfl, by rw [HE.out], by rw [HE.out]; exact HL.out, by
      rw [HE.out, E1.out]
      exact R2.out, B2.out⟩
end
end Dg
end Go.Proofs.YtlffiebnieakjaaDoor

/- The program's disk: Write. Bounds on sizes alone. -/
namespace Go.Proofs.YtlffiebnieakjaaDoor
open Go.RowKit Go.Maps
set_option maxRecDepth 100000
set_option maxHeartbeats 3200000
theorem dwL2 : Elem2 Tryd.prog 65 77 (.agg #[.int .i64 0, .slice none 0 0]) 32 := ⟨Tryd.underlying65, by kernel_rfl, rfl⟩
theorem src_dw (W : World) (u v : Value) (hu : u.oneCell' = true) (hv : v.oneCell' = true) : Src Tryd.prog 2 65 (.slice (some ⟨W.heap.size, 0, none⟩) 1 1) 1 (prs [(u, v)]) (W.alloc (.cells #[u, v] 77)) :=
  prd_new.src dwL2 (by intro x hx; simp [prs] at hx; rcases hx with rfl | rfl <;> assumption)
theorem lookF_app (c : List (Nat × List Int)) (p : Nat × List Int) (s : Nat) : ∀ k, k ≤ c.length → lookF (c ++ [p]) s k = lookF c s k
  | 0, _ => rfl
  | k + 1, h => by
    rw [lookF, lookF, List.getElem?_append_left (by omega), lookF_app c p s k (by omega)]
theorem lookF_snoc (c : List (Nat × List Int)) (p : Nat × List Int) (s : Nat) : lookF (c ++ [p]) s (c ++ [p]).length = if s = p.1 then some p.2 else lookF c s c.length := by
  rw [List.length_append, List.length_singleton, lookF, List.getElem?_append_right (Nat.le_refl _), Nat.sub_self]
  simp only [List.getElem?_cons_zero]
  by_cases e : s = p.1
  · rw [if_pos e.symm, if_pos e]
  · rw [if_neg (Ne.symm e), if_neg e]
    exact lookF_app c p s _ (Nat.le_refl _)
namespace Dg
section
variable {S T : Nat → Prop} {w w' : World} {b : Nat} {M : DM} {bd bl : Nat} {vc : Value} {Dd Dl : DU} {fd : Nat → Option (List Int)} {cg : Bool} {cd : Int} {ps : List PV}
/-- A write more, in the cache and in the map of the last ones. -/
theorem DK.push (h : DK S w b M bd bl vc Dd Dl fd cg cd ps) {s g : Nat} {l : List Int} (hs : s < M.secs.length) (hl : l.length = M.sz) (hv : CR (Qp S b bd bl vc) w (.slice (some ⟨g, 0, none⟩) M.sz M.sz) l) {ao : Option Addr} {cap : Nat} {w4 : World} (ga : GA 0 77 2 w w4 vc (.slice ao (M.cache.length + 1) cap) (M.cache.length + 1) (prs ps ++ prs [(.int .i64 s, .slice (some ⟨g, 0, none⟩) M.sz M.sz)]))
    {w6 : World} {n : Nat} (ho : w6.ownsMap Tryd.prog 3 (RS M.sz) bl n (Dl.put (kL s) (.lit (.int .i64 g)))) (hg : (w4.setCell ⟨b, 3, none⟩ (.slice ao (M.cache.length + 1) cap)).grownBy w6 (some bl)) :
    DK (fun k => S k ∨ k = w.heap.size) w6 b { M with cache := M.cache ++ [(s, l)] } bd bl (.slice ao (M.cache.length + 1) cap) Dd (Dl.put (kL s) (.lit (.int .i64 g))) fd cg cd (ps ++ [(.int .i64 s, .slice (some ⟨g, 0, none⟩) M.sz M.sz)]) := by
  have hfr : ∀ k, (Value.slice ao (M.cache.length + 1) cap).ownBlock = some k → vc.ownBlock = some k ∨ k = w.heap.size := fun k hk => by
    rcases ga.fr with e | e
    · exact Or.inl (by rw [← e]; exact hk)
    · rw [e] at hk; exact Or.inr (Option.some.inj hk).symm
  have hlt := h.blt
  have hbd := h.dur.blt
  have hbl := h.lat.blt
  have s4 : w.heap.size ≤ w4.heap.size := ga.gr.size
  have kg : ∀ k, k < w.heap.size → vc.ownBlock ≠ some k → w4.heap[k]? = w.heap[k]? := fun k hk hn => ga.gr.block k hk (fun e => hn e.symm)
  have ko : ∀ k, k ≠ b → (w4.setCell ⟨b, 3, none⟩ (.slice ao (M.cache.length + 1) cap)).heap[k]? = w4.heap[k]? := fun k hk => set_blk (Ne.symm hk)
  have k6 : ∀ k, k < w4.heap.size → k ≠ bl → w6.heap[k]? = (w4.setCell ⟨b, 3, none⟩ (.slice ao (M.cache.length + 1) cap)).heap[k]? := fun k hk hn => hg.block k (by simpa using hk) (fun e => hn (by cases e; rfl))
  have s6 : w4.heap.size ≤ w6.heap.size := by have := hg.size; simpa using this
  have q5 : ∀ k, Qp S b bd bl vc k ∧ k < w.heap.size → Qp (fun k => S k ∨ k = w.heap.size) b bd bl (.slice ao (M.cache.length + 1) cap) k := fun k hk => ⟨Or.inl hk.1.1, hk.1.2.1, hk.1.2.2.1, hk.1.2.2.2.1, fun e => by
    rcases hfr k e with h1 | h1
    · exact hk.1.2.2.2.2 h1
    · omega⟩
  have kq5 : Keeps (fun k => Qp S b bd bl vc k ∧ k < w.heap.size) w (w4.setCell ⟨b, 3, none⟩ (.slice ao (M.cache.length + 1) cap)) := ⟨by simpa using s4, fun k hk hl => (ko k hk.1.2.1).trans (kg k hl hk.1.2.2.2.2)⟩
  have kq6 : Keeps (fun k => Qp S b bd bl vc k ∧ k < w.heap.size) w w6 := ⟨by omega, fun k hk hl => (k6 k (by omega) hk.1.2.2.2.1).trans (kq5.2 k hk hl)⟩
  have kv : ∀ {v' : Value} {l' : List Int}, CR (Qp S b bd bl vc) w v' l' → CR (Qp (fun k => S k ∨ k = w.heap.size) b bd bl (.slice ao (M.cache.length + 1) cap)) w6 v' l' := fun h' => (CR.keep h'.lt kq6).mono q5
  have nv : ∀ k, vc.ownBlock = some k → k ≠ bd ∧ k ≠ bl ∧ k ≠ b := fun k hk => ⟨(h.ci k hk).2.2.1, (h.ci k hk).2.2.2, (h.ci k hk).2.1⟩
  have hok : DM.Ok { M with cache := M.cache ++ [(s, l)] } := ⟨h.ok.sz, h.ok.secs, h.ok.con, fun p hp => by
    rcases List.mem_append.1 hp with h1 | h1
    · exact h.ok.ent p h1
    · rw [List.mem_singleton.1 h1]; exact ⟨hs, hl⟩, h.ok.cnt⟩
  have e5 : (w4.setCell ⟨b, 3, none⟩ (.slice ao (M.cache.length + 1) cap)).heap[bl]? = w.heap[bl]? := (ko bl h.sl.2.1).trans (kg bl hbl fun e => (nv bl e).2.1 rfl)
  have eb : w4.heap[b]? = w.heap[b]? := kg b hlt fun e => (nv b e).2.2 rfl
  have ed : w6.heap[bd]? = w.heap[bd]? := (k6 bd (by omega) (Ne.symm h.sl.2.2)).trans ((ko bd h.sd.2).trans (kg bd hbd fun e => (nv bd e).1 rfl))
  refine ⟨Or.inl h.sb, ⟨Or.inl h.sd.1, h.sd.2⟩, ⟨Or.inl h.sl.1, h.sl.2⟩, ?_, (h.dur.lt.keep ed kq6).mono q5, h.sec, ?_, ?_, ?_, ?_, hok, h.cnt⟩
  · exact (k6 b (by omega) (Ne.symm h.sl.2.1)).trans (Go.Proofs.YtlffiebnieakjaaDoor.blk_setCell (k := 3) (eb.trans h.box))
  · have m5 := (h.lat.lt.keep e5 kq5).mono q5
    exact (m5.put hs ((CR.keep hv.lt kq5).mono q5) ho hg (fun hq => hq.2.2.2.1 rfl)).congr fun x hx => (lookF_snoc M.cache (s, l) x).symm
  · show World.ownsRow _ 0 77 2 _ (M.cache ++ [(s, l)]).length _
    rw [prs_append, List.length_append]
    refine own_same ga.own fun k hk => ?_
    have hk4 := (ga.own.lt k hk).2
    have hkb : k ≠ b ∧ k ≠ bl := by
      rcases hfr k hk with h1 | h1
      · exact ⟨(nv k h1).2.2, (nv k h1).2.1⟩
      · omega
    exact (k6 k hk4 hkb.2).trans (ko k hkb.1)
  · intro k hk
    rcases hfr k hk with h1 | h1
    · exact ⟨Or.inl (h.ci k h1).1, (h.ci k h1).2⟩
    · exact ⟨Or.inr h1, by omega, by omega, by omega⟩
  · intro i p q hp hq
    have hpl := h.pl
    by_cases e : i < ps.length
    · rw [List.getElem?_append_left e] at hp
      rw [List.getElem?_append_left (by omega)] at hq
      exact ⟨(h.ent i p q hp hq).1, (h.ent i p q hp hq).2.1, kv (h.ent i p q hp hq).2.2⟩
    · rw [List.getElem?_append_right (by omega)] at hp
      rw [List.getElem?_append_right (by omega)] at hq
      have hi : i = ps.length := by have := (List.getElem?_eq_some_iff.1 hp).1; simp at this; omega
      subst hi
      rw [hpl] at hq
      simp at hp hq
      subst hp hq
      exact ⟨rfl, ⟨g, rfl⟩, kv hv⟩
theorem DK.push' {m : Nat} (hm : m = M.cache.length) (h : DK S w b M bd bl vc Dd Dl fd cg cd ps) {s g : Nat} {l : List Int} (hs : s < M.secs.length) (hl : l.length = M.sz) (hv : CR (Qp S b bd bl vc) w (.slice (some ⟨g, 0, none⟩) M.sz M.sz) l) {ao : Option Addr} {cap : Nat} {w4 : World} (ga : GA 0 77 2 w w4 vc (.slice ao (m + 1) cap) (m + 1) (prs ps ++ prs [(.int .i64 s, .slice (some ⟨g, 0, none⟩) M.sz M.sz)]))
    {w6 : World} {n : Nat} (ho : w6.ownsMap Tryd.prog 3 (RS M.sz) bl n (Dl.put (kL s) (.lit (.int .i64 g)))) (hg : (w4.setCell ⟨b, 3, none⟩ (.slice ao (m + 1) cap)).grownBy w6 (some bl)) :
    DK (fun k => S k ∨ k = w.heap.size) w6 b { M with cache := M.cache ++ [(s, l)] } bd bl (.slice ao (m + 1) cap) Dd (Dl.put (kL s) (.lit (.int .i64 g))) fd cg cd (ps ++ [(.int .i64 s, .slice (some ⟨g, 0, none⟩) M.sz M.sz)]) := by
  subst hm
  exact h.push hs hl hv ga ho hg
theorem DK.gaB (h : DK S w b M bd bl vc Dd Dl fd cg cd ps) {w4 : World} (gr : w.grownBy w4 vc.ownBlock) : w4.heap[b]? = some (.cells [.int .i64 M.secs.length, .int .i64 M.sz, .map (some bd), vc, .map (some bl), .bool M.off, .bool cg, .int .i64 cd].toArray 67 (0, 0)) :=
  (gr.block b h.blt (fun e => (h.ci b e.symm).2.1 rfl)).trans h.box
theorem DK.ga3 (h : DK S w b M bd bl vc Dd Dl fd cg cd ps) {w4 : World} (gr : w.grownBy w4 vc.ownBlock) : w4.frozen? ⟨b, 3, none⟩ = false ∧ w4.cell? ⟨b, 3, none⟩ = some vc ∧ w4.cell? ⟨b, 4, none⟩ = some (.map (some bl)) :=
  ⟨fr_blk (h.gaB gr) 3, cell_blk (h.gaB gr) rfl, cell_blk (h.gaB gr) rfl⟩
theorem DK.gaL (h : DK S w b M bd bl vc Dd Dl fd cg cd ps) {w4 : World} (gr : w.grownBy w4 vc.ownBlock) (v : Value) : (w4.setCell ⟨b, 3, none⟩ v).ownsMap Tryd.prog 3 (RS M.sz) bl (Maps.size Dl) Dl :=
  owns_keep h.lat.own ((set_blk (Ne.symm h.sl.2.1)).trans (gr.block bl h.lat.blt (fun e => (h.ci bl e.symm).2.2.2 rfl)))
/-- A new row lies apart from the disk. -/
theorem DK.fresh {w1 w2 : World} (h : DK S w1 b M bd bl vc Dd Dl fd cg cd ps) {l : List Int} (hb : Below w1.heap.size w1 w2) (hr : w2.heap[w1.heap.size]? = some (.cells (by8 l).toArray 5 (0, 0))) (hl : l.length = M.sz) :
    DK (Nw S w1 w2) w2 b M bd bl vc Dd Dl fd cg cd ps ∧ CR (Qp (Nw S w1 w2) b bd bl vc) w2 (.slice (some ⟨w1.heap.size, 0, none⟩) M.sz M.sz) l := by
  refine ⟨(h.keep (keeps_belw hb)).mono fun k hk => Or.inl hk, ?_, fun _ a n c e => ?_⟩
  · refine ⟨some ⟨w1.heap.size, 0, none⟩, M.sz, by rw [by8_length, hl], by rw [by8_length, hl]; exact Nat.le_refl _, by have := h.ok.sz; omega, fun _ => ⟨_, 0, rfl, lt_of_block hr, fun i t ht => ?_⟩⟩
    rw [Nat.zero_add]
    exact cell_blk hr ht
  · cases e
    have h1 := h.blt
    have h2 := h.dur.blt
    have h3 := h.lat.blt
    exact ⟨Or.inr ⟨Nat.le_refl _, lt_of_block hr⟩, by show w1.heap.size ≠ b; omega, by show w1.heap.size ≠ bd; omega, by show w1.heap.size ≠ bl; omega, fun e2 => absurd (h.cac.lt _ e2).2 (Nat.lt_irrefl _)⟩
end
section
variable (S : Nat → Prop) (w : World) (b : Nat) (M : DM) (bd bl : Nat) (vc : Value) (Dd Dl : DU) (fd : Nat → Option (List Int)) (cg : Bool) (cd : Int) (ps : List PV)
theorem write_any (U : Nat → Prop) (s : Int) (hs : R64 s) (bo : Option Addr) (bn bc : Nat) (l : List Int) (hc : M.cache.length < 1000000) (hin : CR U w (.slice bo bn bc) l) (hU : ∀ k, U k → ¬ S k) (h : DK S w b M bd bl vc Dd Dl fd cg cd ps) :
    Calls Tryd.prog 24 #[.pointer (some ⟨b, 0, none⟩), .int .i64 s, .slice bo bn bc] w fun e w' => e = .returned (.int .i64 (writeF M s l).1) ∧ DS (Nw S w w') w' b (writeF M s l).2 ∧ Kept S w w' := by
  have hkeep : DS (Nw S w w) w b M := ⟨_, _, _, _, _, _, _, _, _, h.mono fun k hk => Or.inl hk⟩
  have CH := hid_of (has_any S w b M bd bl vc Dd Dl fd cg cd ps s h)
  obtain ⟨c0, c1, c2, c3, c4, c5, c6, c7⟩ := h.cells
  have hbl : bn = l.length := by have := (rd_cut hin.1).1; rwa [by8_length] at this
  subst hbl
  have hz := h.ok.sz
  obtain ⟨z, hz2⟩ : ∃ z, z = M.sz := ⟨_, rfl⟩
  rw [← hz2] at c1
  by_cases hf : M.fits s = false
  · have HE : Hid (writeF M s l = (1, M)) := hid_of (by rw [writeF, if_pos (Or.inl hf)])
    rw [HE.out]
    rw [hf] at CH
    have HK := hid_of hkeep
    clear h hf hkeep hin hz hz2
    go_enter Tryd.func24, Tryd.ntmps24
    go_wp2_with (go_at_call 37; ((with_reducible refine (CH.out).mono ?_); (rintro e w1 ⟨rfl, rfl⟩)))
    go_ret
    exact ⟨rfl, HK.out, Kept.refl _ _⟩
  obtain ⟨k, rfl, hk, hkn⟩ := fits_at (by simpa using hf)
  rw [show M.fits k = true by simpa using hf] at CH
  by_cases hl : l.length = M.sz
  · have e0 : ((l.length : Int) != (z : Int)) = false := by simp; omega
    have e1 : ((l.length : Int) == (z : Int)) = true := by simp; omega
    have CS := hid_of (begin_any S w b M bd bl vc Dd Dl fd cg cd ps h)
    have HKB : Hid (∀ w1, Kept (fun k => k = b) w w1 → Kept S w w1) := hid_of (fun w1 q => q.mono fun k e => by rw [e]; exact h.sb)
    by_cases hst : (stepF M).1 = false
    · have HE : Hid (writeF M k l = (8, (stepF M).2)) := hid_of (by rw [writeF, if_neg (by simp [hf, hl]), if_pos hst])
      rw [HE.out]
      rw [hst] at CS
      clear h hf hk hst hl hkeep hin hz hz2
      go_enter Tryd.func24, Tryd.ntmps24
      go_wp2_with (first
        | (go_at_call 37; ((with_reducible refine (CH.out).mono ?_); (rintro e w1 ⟨rfl, rfl⟩)))
        | (go_at_call 38; ((with_reducible refine (CS.out).mono ?_); (rintro e w1 ⟨rfl, ⟨cd2, q1⟩, q2⟩)); have D1 := hid_of q1; have K1 := hid_of q2; clear q1 q2))
      go_ret
      exact ⟨rfl, ⟨_, _, _, _, _, _, _, _, _, D1.out.mono fun k hk => Or.inl hk⟩, HKB.out _ K1.out⟩
    · have hst' : (stepF M).1 = true := by simpa using hst
      obtain ⟨aC, cc, rfl⟩ := own_shape h.cac
      obtain ⟨M1, hM1⟩ : ∃ M1, M1 = (stepF M).2 := ⟨_, rfl⟩
      obtain ⟨s1, s2, s3⟩ := stepF_same M
      rw [← hM1] at s1 s2 s3
      have HE : Hid (writeF M k l = (0, { M1 with cache := M1.cache ++ [(k, l)] })) := hid_of (by rw [writeF, if_neg (by simp [hf, hl]), if_neg hst, hM1, ← s3, hM1, hkn])
      rw [HE.out]
      rw [hst', ← hM1] at CS
      have HIN : Hid (∀ w1, Kept (fun k => k = b) w w1 → Rd w1 (.slice bo l.length bc) (by8 l)) := hid_of (fun w1 q => (hin.keep (keeps_kept q fun k hu e => hU k hu (by rw [e]; exact h.sb))).1)
      have HL : Hid (l.length ≤ 4096) := hid_of (by omega)
      have HF : Hid (k < M1.secs.length ∧ l.length = M1.sz ∧ M1.cache.length < 1000000) := hid_of (by rw [s2, s1, s3]; exact ⟨hk, hl, hc⟩)
      have HU := hid_of hU
      obtain ⟨m, hm⟩ : ∃ m, m = M.cache.length := ⟨_, rfl⟩
      have HM : Hid (m = M1.cache.length) := hid_of (by rw [hm, s3])
      have hm6 : m < 1000000 := by omega
      rw [← hm] at CS
      have hk9 : k ≤ 9223372036854775807 := by have := h.ok.secs; omega
      have CB := hid_of (fun (w1 : World) (bd bl : Nat) (vc : Value) (Dd Dl : DU) (fd : Nat → Option (List Int)) (cg : Bool) (cd : Int) (ps : List PV) (h1 : DK S w1 b M1 bd bl vc Dd Dl fd cg cd ps) (hr : Rd w1 (.slice bo l.length bc) (by8 l)) => (block_any w1 b M1.sz h1.ok.sz bo l.length bc l (by rw [HF.out.2.1]; exact Nat.le_refl _) hr h1.cells.2.1).mono fun e w2 q => (show e = .returned (.slice (some ⟨w1.heap.size, 0, none⟩) M1.sz M1.sz) ∧ (DK (Nw S w1 w2) w2 b M1 bd bl vc Dd Dl fd cg cd ps ∧ CR (Qp (Nw S w1 w2) b bd bl vc) w2 (.slice (some ⟨w1.heap.size, 0, none⟩) M1.sz M1.sz) l) ∧ Below w1.heap.size w1 w2 from ⟨q.1, h1.fresh q.2.2 (by have h9 := q.2.1; rwa [HF.out.2.1, Nat.sub_self, List.replicate_zero, List.append_nil] at h9) HF.out.2.1, q.2.2⟩))
      clear h hf hk hst hst' hl hkeep hin hz hz2 hM1 s1 s2 s3 hc hU hm c3
      go_enter Tryd.func24, Tryd.ntmps24
      go_wp2_with (first
        | (go_at_call 37; ((with_reducible refine (CH.out).mono ?_); (rintro e w1 ⟨rfl, rfl⟩)))
        | (go_at_call 38; ((with_reducible refine (CS.out).mono ?_); (rintro e w1 ⟨rfl, ⟨cd2, q1⟩, q2⟩)); have D1 := hid_of q1; have K1 := hid_of q2; clear q1 q2)
        | (go_at_call 39; ((with_reducible refine (CB.out w1 _ _ _ _ _ _ _ _ _ D1.out (HIN.out w1 K1.out)).mono ?_); (rintro e w2 ⟨rfl, q1, q2⟩)); have D2 := hid_of q1.1; have N2 := hid_of q1.2; have B2 := hid_of q2; clear q1 q2; obtain ⟨y0, y1, y2, y3, y4, y5, y6, y7⟩ := D2.out.cells; have D6 := hid_of (D2.out.keep (keeps_alloc _ w2 (.cells #[.int .i64 k, .slice (some ⟨w1.heap.size, 0, none⟩) M1.sz M1.sz] 77))); have N6 := hid_of (N2.out.keep (keeps_alloc _ w2 (.cells #[.int .i64 k, .slice (some ⟨w1.heap.size, 0, none⟩) M1.sz M1.sz] 77))); obtain ⟨z0, z1, z2, z3, z4, z5, z6, z7⟩ := D6.out.cells; have f6 := D6.out.free 3; have OC6 := hid_of (show (w2.alloc (.cells #[.int .i64 k, .slice (some ⟨w1.heap.size, 0, none⟩) M1.sz M1.sz] 77)).ownsRow 0 77 2 (.slice aC m cc) m (prs ps) from by have h9 := D6.out.cac; rwa [← HM.out] at h9))
        | (at_builtin; (refine wpList_gen 65 77 (.agg #[.int .i64 0, .slice none 0 0]) 32 2 dwL2.und dwL2.info dwL2.two (by decide) rfl _ _ rfl (B := 0) (v := .slice aC m cc) rfl OC6.out (Nat.zero_le _) (vx := .slice (some ⟨w2.heap.size, 0, none⟩) 1 1) rfl (src_dw w2 (.int .i64 k) (.slice (some ⟨w1.heap.size, 0, none⟩) M1.sz M1.sz) rfl rfl) (by omega) (by omega) ?_); intro ao cap w7 ga; have GA7 := hid_of ga; have L7 := hid_of (D6.out.gaL ga.gr (.slice ao (m + 1) cap)); obtain ⟨f7, c73, c74⟩ := D6.out.ga3 ga.gr; have HS7 := Nat.le_trans D6.out.lat.len D6.out.ok.secs; clear ga)
        | (at_mapUpdate; (refine wpList_mapUpdate_own _ rfl _ _ _ 64 rfl 3 32 lawK Tryd.underlying64 (RS M1.sz) bl _ Dl rfl L7.out (by unfold maxLen; omega) _ _ (kL k) rfl rfl (keyOf_kL k hk9) (.lit (.int .i64 w1.heap.size)) [] (rs_at _ _) ?_); intro w9 q1 q2; have O9 := hid_of q1; have G9 := hid_of q2; clear q1 q2))
      go_ret
      have D9 := D6.out.push' HM.out (s := k) (l := l) HF.out.1 HF.out.2.1 N6.out GA7.out O9.out G9.out
      have s1 := K1.out.size
      have s2 := B2.out.size
      have s7 := GA7.out.gr.size
      have s9 := G9.out.size
      simp at s7 s9
      refine ⟨rfl, ⟨_, _, _, _, _, _, _, _, _, D9.lt.mono fun q hq => ?_⟩, ?_⟩
      · rcases hq.1 with h1 | h1
        · rcases h1 with h1 | h1
          · exact Or.inl h1
          · exact Or.inr ⟨by omega, hq.2⟩
        · exact Or.inr ⟨by simp at h1; omega, hq.2⟩
      · have k2 : Kept S w w2 := (HKB.out _ K1.out).trans (Kept.ofBelow B2.out)
        have k7 := ((k2.alloc (.cells #[.int .i64 k, .slice (some ⟨w1.heap.size, 0, none⟩) M1.sz M1.sz] 77)).grown GA7.out.gr (fun q hq => Or.inl (D1.out.ci q hq).1)).setCell b 3 (.slice ao (m + 1) cap) (Or.inl D1.out.sb)
        exact k7.grown G9.out (fun q hq => Or.inl (by cases hq; exact D1.out.sl.1))
  · have HE : Hid (writeF M k l = (1, M)) := hid_of (by rw [writeF, if_pos (Or.inr hl)])
    rw [HE.out]
    have e0 : ((l.length : Int) != (z : Int)) = true := by simp; omega
    have e1 : ((l.length : Int) == (z : Int)) = false := by simp; omega
    have HK := hid_of hkeep
    clear h hf hk hl hkeep hin hz hz2
    go_enter Tryd.func24, Tryd.ntmps24
    go_wp2_with (go_at_call 37; ((with_reducible refine (CH.out).mono ?_); (rintro e w1 ⟨rfl, rfl⟩)))
    go_ret
    exact ⟨rfl, HK.out, Kept.refl _ _⟩
end
end Dg
end Go.Proofs.YtlffiebnieakjaaDoor

/- The program's disk: settle, Sync. Bounds on sizes alone. -/
namespace Go.Proofs.YtlffiebnieakjaaDoor
open Go.RowKit Go.Maps
set_option maxRecDepth 100000
set_option maxHeartbeats 3200000
theorem copy_any (sz bd bs nd ns : Nat) (Dd Ds : DU) (w : World) (hd : w.ownsMap Tryd.prog 3 (RS sz) bd nd Dd) (hs : w.ownsMap Tryd.prog 3 (RS sz) bs ns Ds) (hne : bd ≠ bs) (hroom : nd + Maps.size Ds ≤ maxLen) :
    Calls Tryd.prog 53 #[.map (some bd), .map (some bs)] w fun e w' => e = .returned (.tuple #[]) ∧ w'.ownsMap Tryd.prog 3 (RS sz) bd (nd + Maps.size Ds) (Lib.mergeD Dd Ds) ∧ w'.ownsMap Tryd.prog 3 (RS sz) bs ns Ds ∧ w.grownBy w' (some bd) :=
  AnyX.maps_Copy copy_lay lawK (RS sz) bd bs nd ns Dd Ds w hd hs hne hroom
theorem put_look (S : List (List Int)) (c : List (Nat × List Int)) (hc : ∀ p ∈ c, p.1 < S.length) {s : Nat} {x : List Int} (hx : S[s]? = some x) : ∀ k, k ≤ c.length → (putF S (c.take k))[s]? = some ((lookF c s k).getD x)
  | 0, _ => hx
  | k + 1, h => by
    obtain ⟨p, hp⟩ : ∃ p, c[k]? = some p := ⟨_, List.getElem?_eq_getElem (by omega)⟩
    have ih := put_look S c hc hx k (by omega)
    rw [putF_take _ _ _ _ hp, lookF, hp]
    simp only []
    by_cases e : p.1 = s
    · have hl := hc p (List.mem_of_getElem? hp)
      rw [if_pos e, ← e, List.getElem?_set_self (by rw [putF_len]; exact hl)]
      rfl
    · rw [if_neg e, List.getElem?_set_ne e]
      exact ih
namespace Dg
section
variable {S T : Nat → Prop} {w w' : World} {b : Nat} {M : DM} {bd bl : Nat} {vc : Value} {Dd Dl : DU} {fd : Nat → Option (List Int)} {cg : Bool} {cd : Int} {ps : List PV}
/-- What some map holds has become durable, the cache is empty. -/
theorem DK.settle (h : DK S w b M bd bl vc Dd Dl fd cg cd ps) {bs : Nat} {Dc : DU} {fc : Nat → Option (List Int)} (hs : MapR (Qp S b bd bl vc) w M.sz M.secs.length bs Dc fc) {w1 : World} {n : Nat} (ho : w1.ownsMap Tryd.prog 3 (RS M.sz) bd n (Lib.mergeD Dd Dc)) (hg : w.grownBy w1 (some bd))
    {L : List (List Int)} (hL : L.length = M.secs.length) (hL2 : ∀ s, s < M.secs.length → L[s]? = some (((fc s).or (fd s)).getD (List.replicate M.sz 0))) (ok : DM.Ok { M with secs := L, cache := [] }) :
    DK (fun k => S k ∨ k = w1.heap.size) (((w1.alloc (.map #[] 0)).setCell ⟨b, 3, none⟩ (.slice none 0 0)).setCell ⟨b, 4, none⟩ (.map (some w1.heap.size))) b { M with secs := L, cache := [] } bd w1.heap.size (.slice none 0 0) (Lib.mergeD Dd Dc) (.map []) (fun x => (fc x).or (fd x)) cg cd [] := by
  have hlt := h.blt
  have hbd := h.dur.blt
  have s1 := hg.size
  have ko : ∀ k, k ≠ b → k < w1.heap.size → (((w1.alloc (.map #[] 0)).setCell ⟨b, 3, none⟩ (.slice none 0 0)).setCell ⟨b, 4, none⟩ (.map (some w1.heap.size))).heap[k]? = w1.heap[k]? := fun k hk hl => (set_blk (Ne.symm hk)).trans ((set_blk (Ne.symm hk)).trans ((bel_alloc w1 _).block k hl))
  have hnew : (((w1.alloc (.map #[] 0)).setCell ⟨b, 3, none⟩ (.slice none 0 0)).setCell ⟨b, 4, none⟩ (.map (some w1.heap.size))).heap[w1.heap.size]? = (w1.alloc (.map #[] 0)).heap[w1.heap.size]? := (set_blk (by omega)).trans (set_blk (by omega))
  have m1 : MapR (fun k => Qp S b bd bl vc k ∧ k < w.heap.size) w1 M.sz M.secs.length bd (Lib.mergeD Dd Dc) (fun x => (fc x).or (fd x)) := h.dur.lt.merge hs.lt ho hg fun hq => hq.1.2.2.1 rfl
  have kq : Keeps (fun k => Qp S b bd bl vc k ∧ k < w.heap.size) w1 (((w1.alloc (.map #[] 0)).setCell ⟨b, 3, none⟩ (.slice none 0 0)).setCell ⟨b, 4, none⟩ (.map (some w1.heap.size))) := ⟨by simp, fun k hk hl => ko k hk.1.2.1 hl⟩
  refine ⟨Or.inl h.sb, ⟨Or.inl h.sd.1, h.sd.2⟩, ⟨Or.inr rfl, by omega, by omega⟩, ?_, ?_, ?_, ?_, World.ownsRow_nil _ _ _ _, fun k hk => by simp [Value.ownBlock] at hk, fun i p q hp => by simp at hp, ok, h.cnt⟩
  · have e : (w1.alloc (.map #[] 0)).heap[b]? = w.heap[b]? := ((bel_alloc w1 _).block b (by omega)).trans (hg.block b hlt (fun e => h.sd.2 (by cases e; rfl)))
    have e2 := Go.Proofs.YtlffiebnieakjaaDoor.blk_setCell (k := 4) (u := .map (some w1.heap.size)) (Go.Proofs.YtlffiebnieakjaaDoor.blk_setCell (k := 3) (u := .slice none 0 0) (e.trans h.box))
    rw [← hL] at e2
    exact e2
  · show MapR _ _ _ L.length _ _ _
    rw [hL]
    exact (m1.keep (ko bd h.sd.2 (by omega)) kq).mono fun k hk => ⟨Or.inl hk.1.1, hk.1.2.1, hk.1.2.2.1, by omega, by simp [Value.ownBlock]⟩
  · show ∀ s, s < L.length → L[s]? = _
    rw [hL]
    exact hL2
  · show MapR _ _ _ L.length _ _ (fun s => lookF [] s 0)
    rw [hL]
    exact (MapR.made (fun _ => False) w1 M.sz M.secs.length).keep hnew ⟨by simp, fun k hk => hk.elim⟩ |>.mono fun k hk => hk.elim
end
section
variable (S : Nat → Prop) (w : World) (b : Nat) (M : DM) (bd bl : Nat) (vc : Value) (Dd Dl : DU) (fd : Nat → Option (List Int)) (cg : Bool) (cd : Int) (ps : List PV)
theorem settle_any (h : DK S w b M bd bl vc Dd Dl fd cg cd ps) (bs : Nat) (Dc : DU) (fc : Nat → Option (List Int)) (hs : MapR (Qp S b bd bl vc) w M.sz M.secs.length bs Dc fc) (hne : bs ≠ bd)
    (L : List (List Int)) (hL : L.length = M.secs.length) (hL2 : ∀ s, s < M.secs.length → L[s]? = some (((fc s).or (fd s)).getD (List.replicate M.sz 0))) (ok : DM.Ok { M with secs := L, cache := [] }) :
    Calls Tryd.prog 40 #[.pointer (some ⟨b, 0, none⟩), .map (some bs)] w fun e w' => e = .returned (.tuple #[]) ∧ (∃ bl2 Dd2 fd2, DK (Nw S w w') w' b { M with secs := L, cache := [] } bd bl2 (.slice none 0 0) Dd2 (.map []) fd2 cg cd []) ∧ Kept S w w' := by
  have CC := hid_of (copy_any M.sz bd bs _ _ Dd Dc w h.dur.own hs.own (Ne.symm hne) (by have := h.dur.len; have := hs.len; have := h.ok.secs; unfold maxLen; omega))
  obtain ⟨c0, c1, c2, c3, c4, c5, c6, c7⟩ := h.cells
  have HD := hid_of (fun w1 n ho hg => h.settle hs (w1 := w1) (n := n) ho hg hL hL2 ok)
  have HB := hid_of (fun w1 (hg : w.grownBy w1 (some bd)) => (show (w1.alloc (.map #[] 0)).frozen? ⟨b, 3, none⟩ = false ∧ (w1.alloc (.map #[] 0)).frozen? ⟨b, 4, none⟩ = false ∧ (w1.alloc (.map #[] 0)).cell? ⟨b, 3, none⟩ = some vc ∧ (w1.alloc (.map #[] 0)).cell? ⟨b, 4, none⟩ = some (.map (some bl)) from by
    have e := ((bel_alloc w1 (.map #[] 0)).block b (by have := hg.size; have := h.blt; omega)).trans ((hg.block b h.blt (fun e => h.sd.2 (by cases e; rfl))).trans h.box)
    exact ⟨fr_blk e 3, fr_blk e 4, cell_blk e rfl, cell_blk e rfl⟩))
  have HSB := hid_of h.sb
  have HSD := hid_of h.sd.1
  have hmm := @run_makeMap Tryd.prog
  clear h hs hL hL2 ok
  go_enter Tryd.func40, Tryd.ntmps40
  go_wp2_with (go_at_call 53; ((with_reducible refine (CC.out).mono ?_); (rintro e w1 ⟨rfl, q1, q2, q3⟩)); have O1 := hid_of q1; have G1 := hid_of q3; obtain ⟨f3, f4, x3, x4⟩ := HB.out w1 q3; clear q1 q2 q3)
  go_end0
  have D3 := HD.out w1 _ O1.out G1.out
  refine ⟨rfl, ⟨_, _, _, D3.lt.mono fun k hk => ?_⟩, ?_⟩
  · rcases hk.1 with h1 | h1
    · exact Or.inl h1
    · exact Or.inr ⟨by have := G1.out.size; omega, hk.2⟩
  · exact (((((Kept.refl S w).grown G1.out (fun k hk => Or.inl (by cases hk; exact HSD.out))).alloc _).setCell b 3 _ (Or.inl HSB.out)).setCell b 4 _ (Or.inl HSB.out))
theorem sync_any (h : DK S w b M bd bl vc Dd Dl fd cg cd ps) : Calls Tryd.prog 26 #[.pointer (some ⟨b, 0, none⟩)] w fun e w' => e = .returned (.int .i64 (syncF M).1) ∧ DS (Nw S w w') w' b (syncF M).2 ∧ Kept S w w' := by
  have CS := hid_of (begin_any S w b M bd bl vc Dd Dl fd cg cd ps h)
  have HKB : Hid (∀ w1, Kept (fun k => k = b) w w1 → Kept S w w1) := hid_of (fun w1 q => q.mono fun k e => by rw [e]; exact h.sb)
  by_cases hst : (stepF M).1 = false
  · have HE : Hid (syncF M = (8, (stepF M).2)) := hid_of (by rw [syncF, if_pos hst])
    rw [HE.out]
    rw [hst] at CS
    clear h hst
    go_enter Tryd.func26, Tryd.ntmps26
    go_wp2_with (go_at_call 38; ((with_reducible refine (CS.out).mono ?_); (rintro e w1 ⟨rfl, ⟨cd2, q1⟩, q2⟩)); have D1 := hid_of q1; have K1 := hid_of q2; clear q1 q2)
    go_ret
    exact ⟨rfl, ⟨_, _, _, _, _, _, _, _, _, D1.out.mono fun k hk => Or.inl hk⟩, HKB.out _ K1.out⟩
  · have hst' : (stepF M).1 = true := by simpa using hst
    obtain ⟨M1, hM1⟩ : ∃ M1, M1 = (stepF M).2 := ⟨_, rfl⟩
    obtain ⟨s1, s2, s3⟩ := stepF_same M
    rw [← hM1] at s1 s2 s3
    have HE : Hid (syncF M = (0, { M1 with secs := putF M1.secs M1.cache, cache := [] })) := hid_of (by rw [syncF, if_neg hst, ← hM1, s2, s3])
    have HOK : Hid (DM.Ok { M1 with secs := putF M1.secs M1.cache, cache := [] }) := hid_of (by have h9 := h.ok.sync; rw [HE.out] at h9; exact h9)
    rw [HE.out]
    rw [hst', ← hM1] at CS
    have CT := hid_of (fun (w1 : World) (cd2 : Int) (d : DK S w1 b M1 bd bl vc Dd Dl fd cg cd2 ps) => settle_any S w1 b M1 bd bl vc Dd Dl fd cg cd2 ps d bl Dl (fun s => lookF M1.cache s M1.cache.length) d.lat d.sl.2.2 (putF M1.secs M1.cache) (putF_len _ _) (fun s hs => by
      have h9 := put_look M1.secs M1.cache (fun p hp => (d.ok.ent p hp).1) (d.sec s hs) M1.cache.length (Nat.le_refl _)
      rw [List.take_length] at h9
      rw [h9]
      cases lookF M1.cache s M1.cache.length <;> rfl) HOK.out)
    have HC := hid_of (fun (w1 : World) (cd2 : Int) (d : DK S w1 b M1 bd bl vc Dd Dl fd cg cd2 ps) => d.cells.2.2.2.2.1)
    clear h hst hst' hM1 s1 s2 s3
    go_enter Tryd.func26, Tryd.ntmps26
    go_wp2_with (first
      | (go_at_call 38; ((with_reducible refine (CS.out).mono ?_); (rintro e w1 ⟨rfl, ⟨cd2, q1⟩, q2⟩)); have D1 := hid_of q1; have K1 := hid_of q2; have x4 := HC.out w1 cd2 q1; clear q1 q2)
      | (go_at_call 40; ((with_reducible refine (CT.out w1 cd2 D1.out).mono ?_); (rintro e w2 ⟨rfl, ⟨bl2, Dd2, fd2, q1⟩, q2⟩)); have D2 := hid_of q1; have K2 := hid_of q2; clear q1 q2))
    go_ret
    exact ⟨rfl, ⟨_, _, _, _, _, _, _, _, _, D2.out.mono fun k hk => by
      rcases hk with h1 | h1
      · exact Or.inl h1
      · exact Or.inr ⟨by have := K1.out.size; omega, h1.2⟩⟩, (HKB.out _ K1.out).trans K2.out⟩
end
end Dg
end Go.Proofs.YtlffiebnieakjaaDoor
