/- Texts in one: AppOwn, Row, PrRow, DsRow, DsMath, DsRef, DsLem, DsOps, DsOpr, DsSyn, DsNew, DgMap. -/
import Derived.Deep.AppendSrc
import Derived.Deep.AppendLies
import Derived.WalkKit
import Derived.WalkSpells
import Derived.WalkLawsBesides
import Derived.Below
import Derived.Laws.CopyOwn
import Derived.Deep.RegionHeld3
import Derived.Deep.RegionLaw
import Derived.Deep.QuietTactic
import Derived.BigQuiet
import Derived.BigRegion
import Derived.RegionTactic
import Derived.StillTailTactics
import Derived.IntWalk
import Derived.Outline
import Derived.Lib.Hide
import Derived.OpenShut
import Derived.Deep.Draws
import Derived.Deep.CutRange
import Derived.Test.YteceljhhhbmemaaProg
import Derived.Deep.OwnRows
import Derived.Maps.OwnSet
import Derived.Shelf.SlMaps.Copy
set_option linter.unusedVariables false
set_option linter.unusedSimpArgs false
/- append of whatever source (a slice, a nil slice, a string) onto a slice that the call owns: the law for the walk. It asks that the sizes fit. -/
namespace Go.Proofs.Yteceljhhhbmemaa

section
variable {P : Program} (w : World)

theorem run_append_src_own (base : Nat) (t tx ty e : TypeId) (i : TypeInfo) (z : Value) (size bytes : Nat) (ht : P.underlying t = some (.slice e)) (hi : P.info? e = some i) (hz : i.zero = some z)
    (hsize : i.size = size) (hby : i.bytes = bytes) (hzs : z.cells.size = size) (hsz : 0 < size)
    (v : Value) (n : Nat) (xs : List Value) (hown : w.ownsRow base e size v n xs) (x : Value) (m : Nat) (news : List Value) (hs : Src P size tx x m news w)
    (h63 : n + m ≤ maxLen) (hbytes : (n + m) * bytes ≤ 140737488355328) (hbase : base ≤ w.heap.size) :
    ∃ v' w', (Builtin.append_ #[t, tx] ty #[v, x]).run P w = .ok v' w' ∧ w'.ownsRow base e size v' (n + m) (xs ++ news) ∧ w.grownBy w' v.ownBlock ∧
      (v' = .slice none 0 0 ↔ v = .slice none 0 0 ∧ m = 0) ∧ (v'.ownBlock = v.ownBlock ∨ v'.ownBlock = some w.heap.size) := by
  subst hsize
  subst hby
  have hl := hs.newsLen
  have hsmall : n + m ≤ 9223372036854775807 := by simp only [maxLen] at h63; omega
  have hlen : (xs ++ news).length = (n + m) * i.size := by rw [List.length_append, hown.1, hl, Nat.add_mul]
  have grown : ∀ (old : Nat), old < n + m → ∀ (row : Option Nat),
      (w.drew.alloc (.cells ((xs ++ news).toArray ++ Builtin.zeroCells z.cells (grownCap w (n + m) old e - (n + m))) e)).ownsRow base e i.size
        (.slice (some ⟨w.heap.size, 0, none⟩) (n + m) (grownCap w (n + m) old e)) (n + m) (xs ++ news) ∧
      w.grownBy (w.drew.alloc (.cells ((xs ++ news).toArray ++ Builtin.zeroCells z.cells (grownCap w (n + m) old e - (n + m))) e)) row := by
    intro old ho row
    have hge := grownCap_ge w (n + m) old e
    have hcm : grownCap w (n + m) old e ≤ maxLen := grownCap_le_maxLen w (n + m) old e h63
    refine ⟨⟨hlen, .inr ⟨w.heap.size, _, _, rfl, hbase, heap_alloc_new w.drew _, hge, hcm, ?_, ?_⟩⟩, ⟨rfl, rfl, rfl, by simp, fun k hk _ => Go.RowKit.Below.heap_alloc w.drew _ k hk⟩⟩
    · rw [Array.size_append, List.size_toArray, size_zeroCells, hzs, hlen, ← Nat.add_mul]
      congr 1
      omega
    · rw [Array.toList_append, ← hlen]
      exact List.take_left
  rcases hown.2 with ⟨rfl, rfl⟩ | ⟨g, cap, cur, rfl, hbg, hg, hnc, hcm, hcs, htake⟩
  · have hx : xs = [] := List.eq_nil_of_length_eq_zero (by simpa using hown.1)
    subst hx
    by_cases hm : m = 0
    · subst hm
      have hn : news = [] := List.eq_nil_of_length_eq_zero (by simpa using hl)
      subst hn
      refine ⟨.slice none 0 0, w, ?_, World.ownsRow_nil w base e i.size, ⟨rfl, rfl, rfl, Nat.le_refl _, fun _ _ _ => rfl⟩, by simp, Or.inl rfl⟩
      rcases hs.kind with ⟨e', hk⟩ | hk <;> simp [Builtin.append_, run_underlying ht, run_underlying hk, sizeOf, typeInfo, hi, hs.len, hs.cells]
    · have hr := run_append_grow_src (P := P) w t tx ty e i z ht hi hz none 0 0 [] (by simp [Builtin.firstCells]) x m news hs (by omega) (by omega) (growslice_fits (by omega) hbytes)
      have hgr := grown 0 (by omega) (Value.ownBlock (.slice none 0 0))
      exact ⟨_, _, hr, hgr.1, hgr.2, by simp [hm], Or.inr rfl⟩
  · by_cases hroom : n + m ≤ cap
    · have hfit : n * i.size + news.length ≤ cur.size := by rw [hl, hcs, ← Nat.add_mul]; exact Nat.mul_le_mul_right _ hroom
      have hst := run_storeCells_at P g (n * i.size) e news 0 cur w hg (by simpa using hfit) hs.one
      simp only [Nat.add_zero] at hst
      have hr : (Builtin.append_ #[t, tx] ty #[.slice (some ⟨g, 0, none⟩) n cap, x]).run P w =
          .ok (.slice (some ⟨g, 0, none⟩) (n + m) cap) (w.setRow g (cur.toList.take (n * i.size) ++ news ++ cur.toList.drop (n * i.size + news.length)).toArray) := by
        rcases hs.kind with ⟨e', hk⟩ | hk <;> simp [Builtin.append_, run_underlying ht, run_underlying hk, sizeOf, typeInfo, hi, hs.len, hroom, hs.cells, Addr.add_lit, hst]
      refine ⟨_, _, hr, ⟨hlen, .inr ⟨g, cap, _, rfl, hbg, setRow_heap w g cur _ e _ hg, hroom, hcm, ?_, ?_⟩⟩, ⟨rfl, rfl, rfl, by simp, fun k _ hk => setRow_other w g k _ (fun e => hk (by simp [Value.ownBlock, e]))⟩, by simp, Or.inl rfl⟩
      · simp only [List.size_toArray, List.length_append, List.length_take, List.length_drop, Array.length_toList]
        omega
      · rw [htake, ← hlen]
        exact List.take_left
    · have holds : ∀ j u, xs[j]? = some u → w.drew.cell? ((⟨g, 0, none⟩ : Addr).add j) = some u := by simpa using hown.cells (g := g) rfl
      have hr := run_append_grow_src (P := P) w t tx ty e i z ht hi hz (some ⟨g, 0, none⟩) n cap xs (run_firstCells_some w.drew i.size n ⟨g, 0, none⟩ n cap xs hown.1 holds) x m news hs (by omega) (by omega) (growslice_fits (by omega) hbytes)
      have hgr := grown cap (by omega) (Value.ownBlock (.slice (some ⟨g, 0, none⟩) n cap))
      exact ⟨_, _, hr, hgr.1, hgr.2, by simp, Or.inr rfl⟩

theorem wp_append_src {o : Oper} {a : Act} {K : Act → World → Prop} {Q : Exit → Act → World → Prop} (s x : Operand) (t tx : TypeId)
    (ho : o.op = .call { callee := .builtin .append, args := #[s, x], argTypes := #[t, tx] })
    (base : Nat) (e : TypeId) (i : TypeInfo) (z : Value) (size bytes : Nat) (ht : P.underlying t = some (.slice e)) (hi : P.info? e = some i) (hz : i.zero = some z)
    (hsize : i.size = size) (hby : i.bytes = bytes) (hzs : z.cells.size = size) (hsz : 0 < size)
    (v : Value) (n : Nat) (xs : List Value) (he : a.eval s = v) (hown : w.ownsRow base e size v n xs) (y : Value) (m : Nat) (news : List Value) (hx : a.eval x = y) (hs : Src P size tx y m news w)
    (h63 : n + m ≤ maxLen) (hbytes : (n + m) * bytes ≤ 140737488355328) (hbase : base ≤ w.heap.size)
    (h : ∀ v' w', w'.ownsRow base e size v' (n + m) (xs ++ news) → w.grownBy w' v.ownBlock → (v' = .slice none 0 0 ↔ v = .slice none 0 0 ∧ m = 0) → (v'.ownBlock = v.ownBlock ∨ v'.ownBlock = some w.heap.size) → K (a.put o.dst v') w') :
    Oper.wp P o a w K Q := by
  obtain ⟨v', w', hr, h2, h3, h4, h5⟩ := run_append_src_own (P := P) w base t tx o.type e i z size bytes ht hi hz hsize hby hzs hsz v n xs hown y m news hs h63 hbytes hbase
  unfold Oper.wp execOp
  simp only [ho, resolve, invoke, builtin, Sem.run_bind, Sem.run_pure, Result.andThen_ok, List.map_toArray, List.map_cons, List.map_nil, he, hx, hr]
  exact h v' w' h2 h3 h4 h5

theorem wpList_append_src {ops : Array Oper} {rest : List Oper} {o : Oper} {a : Act} {Q : Exit → Act → World → Prop} (hgd : o.guard = none) (s x : Operand) (t tx : TypeId)
    (ho : o.op = .call { callee := .builtin .append, args := #[s, x], argTypes := #[t, tx] })
    (base : Nat) (e : TypeId) (i : TypeInfo) (z : Value) (size bytes : Nat) (ht : P.underlying t = some (.slice e)) (hi : P.info? e = some i) (hz : i.zero = some z)
    (hsize : i.size = size) (hby : i.bytes = bytes) (hzs : z.cells.size = size) (hsz : 0 < size)
    (v : Value) (n : Nat) (xs : List Value) (he : a.eval s = v) (hown : w.ownsRow base e size v n xs) (y : Value) (m : Nat) (news : List Value) (hx : a.eval x = y) (hs : Src P size tx y m news w)
    (h63 : n + m ≤ maxLen) (hbytes : (n + m) * bytes ≤ 140737488355328) (hbase : base ≤ w.heap.size)
    (h : ∀ v' w', w'.ownsRow base e size v' (n + m) (xs ++ news) → w.grownBy w' v.ownBlock → (v' = .slice none 0 0 ↔ v = .slice none 0 0 ∧ m = 0) → (v'.ownBlock = v.ownBlock ∨ v'.ownBlock = some w.heap.size) → wpList P ops Q rest (a.put o.dst v') w') :
    wpList P ops Q (o :: rest) a w :=
  wpList_plain hgd fun _ hK => wp_append_src w s x t tx ho base e i z size bytes ht hi hz hsize hby hzs hsz v n xs he hown y m news hx hs h63 hbytes hbase fun v' w' h2 h3 h4 h5 => hK _ _ (h v' w' h2 h3 h4 h5)

theorem step_append_src {ops : Array Oper} {o : Oper} {a : Act} {K : Act → World → Prop} {Q : Exit → Act → World → Prop} {E : Prop} (hgd : o.guard = none) (s x : Operand) (t tx : TypeId)
    (ho : o.op = .call { callee := .builtin .append, args := #[s, x], argTypes := #[t, tx] })
    (base : Nat) (e : TypeId) (i : TypeInfo) (z : Value) (size bytes : Nat) (ht : P.underlying t = some (.slice e)) (hi : P.info? e = some i) (hz : i.zero = some z)
    (hsize : i.size = size) (hby : i.bytes = bytes) (hzs : z.cells.size = size) (hsz : 0 < size)
    (v : Value) (n : Nat) (xs : List Value) (he : a.eval s = v) (hown : w.ownsRow base e size v n xs) (y : Value) (m : Nat) (news : List Value) (hx : a.eval x = y) (hs : Src P size tx y m news w)
    (h63 : n + m ≤ maxLen) (hbytes : (n + m) * bytes ≤ 140737488355328) (hbase : base ≤ w.heap.size)
    (h : ∀ v' w', w'.ownsRow base e size v' (n + m) (xs ++ news) → w.grownBy w' v.ownBlock → (v' = .slice none 0 0 ↔ v = .slice none 0 0 ∧ m = 0) → (v'.ownBlock = v.ownBlock ∨ v'.ownBlock = some w.heap.size) → K (a.put o.dst v') w') :
    if Region.wanted o (yielded ops a.tmps) = true then Oper.wp P o a w K Q else E := by
  have hw : Region.wanted o (yielded ops a.tmps) = true := by simp [Region.wanted, hgd]
  rw [if_pos hw]
  exact wp_append_src w s x t tx ho base e i z size bytes ht hi hz hsize hby hzs hsz v n xs he hown y m news hx hs h63 hbytes hbase h

end
end Go.Proofs.Yteceljhhhbmemaa

/- Slices of elements of one cell: what a slice reads as, a slice of the call's own, append of the one onto the other. Bounds on sizes alone. -/
namespace Go.Proofs.Yteceljhhhbmemaa
open Go.RowKit

theorem hid_of {p : Prop} (h : p) : Hid p := h
theorem bel_alloc (w : World) (o : Obj) : Below w.heap.size w (w.alloc o) := (Below.refl _ _).alloc (Nat.le_refl _) o
theorem bel_fst {w w' : World} {o : Obj} (h : Below (w.alloc o).heap.size (w.alloc o) w') : Below w.heap.size w w' :=
  (bel_alloc w o).trans (h.mono (by simp))

theorem bel_drewN {B : Nat} {w w' : World} (h : Below B w w') (n : Nat) : Below B w (w'.drewN n) := ⟨h.os, h.tape, h.output, h.size, h.block⟩
/-- A slice type S over an element type E of one cell. -/
structure Elem (P : Program) (S E : TypeId) (z : Value) (eb : Nat) : Prop where
  und : P.underlying S = some (.slice E)
  info : (P.info? E).map (fun i => (i.zero, i.size, i.bytes)) = some (some z, 1, eb)
  one : z.cells.size = 1

/-- The slice v reads as the cells xs. -/
def Rd (w : World) (v : Value) (xs : List Value) : Prop :=
  ∃ ao cap, v = .slice ao xs.length cap ∧ xs.length ≤ cap ∧ cap ≤ 9223372036854775807 ∧ (0 < xs.length → ∃ g o, ao = some ⟨g, o, none⟩ ∧ g < w.heap.size ∧ ∀ j u, xs[j]? = some u → w.cell? ⟨g, o + j, none⟩ = some u)
theorem Rd.later {w w' : World} {v : Value} {l : List Value} {B : Nat} (h : Rd w v l) (hb : Below B w w') (hB : w.heap.size ≤ B) : Rd w' v l := by
  obtain ⟨ao, cap, h1, h2, h3, h4⟩ := h
  refine ⟨ao, cap, h1, h2, h3, fun h0 => ?_⟩
  obtain ⟨g, o, q1, q2, q3⟩ := h4 h0
  exact ⟨g, o, q1, Nat.lt_of_lt_of_le q2 hb.size, fun j u hu => (hb.cell (p := ⟨g, o + j, none⟩) (by show g < B; omega)).trans (q3 j u hu)⟩
theorem Rd.at {w w' : World} {v : Value} {l : List Value} (h : Rd w v l) (hb : Below w.heap.size w w') : Rd w' v l := h.later hb (Nat.le_refl _)

theorem spot_none {w : World} {x : Addr} {u : Value} (h : w.cell? x = some u) : x = ⟨x.block, x.off, none⟩ := by
  obtain ⟨b, o, s⟩ := x
  cases s with
  | none => rfl
  | some s =>
    exfalso
    unfold World.cell? at h
    split at h <;> simp at h

/-- What the walk is told of a slice of integers that came in. -/
def IsRow (k : IntKind) (w : World) (a : Option Addr) (len cap : Nat) (zs : List Int) : Prop :=
  (a = none ∧ len = 0 ∧ cap = 0 ∧ zs = []) ∨
  ∃ x, a = some x ∧ len ≤ cap ∧ cap ≤ maxLen ∧ zs.length = cap ∧ (∀ i, i < zs.length → w.cell? (x.add i) = some (.int k (zs.getD i 0))) ∧ ∀ n ∈ zs, (Lit.int k n).wf = true

/-- A row of integers that came in, as a list. -/
theorem IsRow.rd {k : IntKind} {w : World} {a : Option Addr} {len cap : Nat} {zs : List Int} (h : IsRow k w a len cap zs) :
    ∃ l : List Int, l.length = len ∧ (∀ y ∈ l, (Lit.int k y).wf = true) ∧ Rd w (.slice a len cap) (l.map (Value.int k)) := by
  rcases h with ⟨rfl, rfl, rfl, rfl⟩ | ⟨x, rfl, h1, h2, h3, h4, h5⟩
  · exact ⟨[], rfl, by simp, none, 0, rfl, by simp, by omega, fun h => by simp at h⟩
  · unfold maxLen at h2
    have htl : (zs.take len).length = len := by rw [List.length_take]; omega
    refine ⟨zs.take len, htl, fun y hy => h5 y (List.mem_of_mem_take hy), some x, cap, by rw [List.length_map, htl], by rw [List.length_map]; omega, by omega, fun h0 => ?_⟩
    rw [List.length_map, htl] at h0
    have h6 := h4 0 (by omega)
    rw [show x.add 0 = x by rfl] at h6
    have hx := spot_none h6
    refine ⟨x.block, x.off, by rw [← hx], World.block_lt_of_cell? w _ h6, fun j u hu => ?_⟩
    have hj : j < len := by
      have := (List.getElem?_eq_some_iff.1 hu).1
      simp at this; omega
    have h7 := h4 j (by omega)
    rw [hx, Addr.add_mid] at h7
    rw [h7]
    simp only [List.getElem?_map, List.getElem?_take, hj, if_true] at hu
    rw [List.getElem?_eq_getElem (by omega)] at hu
    simp only [Option.map_some, Option.some.injEq] at hu
    rw [← hu]
    simp [List.getD, show j < zs.length by omega]

theorem Rd.srcs {P : Program} {S E : TypeId} {z : Value} {eb : Nat} (T : Elem P S E z eb) {w : World} {v : Value} {l : List Value} (h : Rd w v l) (h1 : ∀ u ∈ l, u.oneCell' = true) : Src P 1 S v l.length l w := by
  obtain ⟨ao, cap, rfl, h2, h3, h4⟩ := h
  cases ao with
  | none =>
    cases l with
    | nil => exact Src.ofNil _ T.und cap
    | cons x r => obtain ⟨g, o, q, _⟩ := h4 (by simp); cases q
  | some a =>
    refine Src.ofSlice _ T.und a l.length cap l (by simp) (fun j u hu => ?_) h1
    have h0 : 0 < l.length := by
      have := (List.getElem?_eq_some_iff.1 hu).1
      omega
    obtain ⟨g, o, q1, q2, q3⟩ := h4 h0
    cases q1
    rw [Addr.add_mid]; exact q3 j u hu

theorem own_shape {w : World} {base e size n : Nat} {v : Value} {xs : List Value} (h : w.ownsRow base e size v n xs) : ∃ ao cap, v = .slice ao n cap := by
  rcases h.2 with ⟨h1, h2⟩ | ⟨g, cap, cur, h1, _⟩
  · exact ⟨none, 0, by rw [h1, h2]⟩
  · exact ⟨_, cap, h1⟩

/-- A slice of the call's own that holds l; below B the world is as w0 was. -/
def Ow (E : TypeId) (B : Nat) (w0 w : World) (v : Value) (l : List Value) : Prop := B ≤ w0.heap.size ∧ Below B w0 w ∧ w.ownsRow B E 1 v l.length l
section
variable {E : TypeId} {B : Nat} {w0 w w' : World} {v : Value} {l : List Value}
theorem Ow.size (h : Ow E B w0 w v l) : B ≤ w.heap.size := Nat.le_trans h.1 h.2.1.size
theorem Ow.own (h : Ow E B w0 w v l) : w.ownsRow B E 1 v l.length l := h.2.2
theorem Ow.bel (h : Ow E B w0 w v l) : Below B w0 w := h.2.1
theorem Ow.alloc (h : Ow E B w0 w v l) (o : Obj) : Ow E B w0 (w.alloc o) v l := ⟨h.1, h.2.1.alloc h.size _, h.2.2.alloc o⟩
theorem Ow.drew (h : Ow E B w0 w v l) : Ow E B w0 w.drew v l := ⟨h.1, h.2.1.drew, h.2.2.drew⟩
theorem Ow.app {n : Nat} {v' : Value} {m : List Value} (h : Ow E B w0 w v l) (hown : w'.ownsRow B E 1 v' n (l ++ m)) (hn : n = l.length + m.length) (hg : w.grownBy w' v.ownBlock) : Ow E B w0 w' v' (l ++ m) := by
  subst hn
  refine ⟨h.1, h.2.1.grown hg h.size (fun k hk => (h.own.lt k hk).1), ?_⟩
  rw [List.length_append]
  exact hown
/-- What is owned stays owned where the row's block is as it was. -/
theorem own_same {w w' : World} {base e size n : Nat} {v : Value} {xs : List Value} (h : w.ownsRow base e size v n xs) (hs : ∀ k, v.ownBlock = some k → w'.heap[k]? = w.heap[k]?) : w'.ownsRow base e size v n xs := by
  obtain ⟨h1, h2⟩ := h
  refine ⟨h1, ?_⟩
  rcases h2 with h2 | ⟨g, cap, cur, hv, hb, hg, r⟩
  · exact .inl h2
  · exact .inr ⟨g, cap, cur, hv, hb, (hs g (by rw [hv]; rfl)).trans hg, r⟩
theorem Ow.later (h : Ow E B w0 w v l) (hb : Below w.heap.size w w') : Ow E B w0 w' v l :=
  ⟨h.1, h.2.1.trans (hb.mono h.size), own_same h.own fun k hk => hb.block k (h.own.lt k hk).2⟩
theorem ow_made {n g : Nat} (hown : w'.ownsRow w.heap.size E 1 (.slice (some ⟨g, 0, none⟩) 0 n) 0 []) (hgrow : w.grownBy w' none) : Ow E w.heap.size w w' (.slice (some ⟨g, 0, none⟩) 0 n) [] :=
  ⟨Nat.le_refl _, (Below.refl _ _).grown hgrow (Nat.le_refl _) (fun k h => by cases h), hown⟩
theorem ow_empty (E : TypeId) (w : World) : Ow E w.heap.size w (w.alloc (.cells #[] E)) (.slice (some ⟨w.heap.size, 0, none⟩) 0 0) [] :=
  ⟨Nat.le_refl _, bel_alloc w _, rfl, .inr ⟨w.heap.size, 0, #[], rfl, Nat.le_refl _, heap_alloc_new w _, Nat.le_refl _, by unfold maxLen; omega, rfl, rfl⟩⟩
theorem ow_nil (E : TypeId) (w : World) : Ow E w.heap.size w w (.slice none 0 0) [] := ⟨Nat.le_refl _, Below.refl _ _, World.ownsRow_nil _ _ _ _⟩
theorem Ow.start (h : Ow E B w0 w v l) {B2 : Nat} {w2 : World} (hB : B2 ≤ w2.heap.size) (hb : Below B2 w2 w0) (hle : B2 ≤ B) : Ow E B2 w2 w v l := by
  refine ⟨hB, hb.trans (h.bel.mono hle), h.own.1, ?_⟩
  rcases h.own.2 with h2 | ⟨g, cap, cur, hv, hb2, hg, r⟩
  · exact .inl h2
  · exact .inr ⟨g, cap, cur, hv, Nat.le_trans hle hb2, hg, r⟩
theorem Ow.rd (h : Ow E B w0 w v l) (_hl : l.length ≤ 140737488355328) : Rd w v l := by
  rcases h.own.2 with ⟨h1, h2⟩ | ⟨g, c, cur, h1, _, hg, hnc, hcm, _, ht⟩
  · exact ⟨none, 0, by rw [h1, h2], by omega, by omega, fun h => by omega⟩
  · unfold maxLen at hcm
    refine ⟨_, _, h1, hnc, by omega, fun h0 => ⟨g, 0, rfl, lt_of_block hg, fun j u hu => ?_⟩⟩
    have := World.news_of_block hg j u (by
      rw [← ht, List.getElem?_take] at hu
      split at hu
      · exact hu
      · cases hu)
    rw [Addr.add_mid] at this
    exact this
end

/-- A slice over a block that was made last. -/
theorem rd_new {w : World} {l : List Value} {n : Nat} {cs : Array Value} {E : TypeId} {m : Nat × Nat} (hn : n = l.length) (hc : cs = l.toArray) (h : l.length ≤ 9223372036854775807) : Rd (w.alloc (.cells cs E m)) (.slice (some ⟨w.heap.size, 0, none⟩) n n) l := by
  subst hn hc
  refine ⟨_, _, rfl, Nat.le_refl _, h, fun _ => ⟨_, _, rfl, by simp, fun j u hu => ?_⟩⟩
  have := World.news_of_block (heap_alloc_new w (.cells l.toArray E m)) j u (by simpa using hu)
  rw [Addr.add_mid] at this
  exact this

/-- append of a row. -/
theorem wpList_app {P : Program} {S E : TypeId} {z : Value} {eb : Nat} (T : Elem P S E z eb) {ops : Array Oper} {rest : List Oper} {o : Oper} {a : Act} {w : World} {Q : Exit → Act → World → Prop} (hgd : o.guard = none) (s x : Operand)
    (ho : o.op = .call { callee := .builtin .append, args := #[s, x], argTypes := #[S, S] })
    {B : Nat} {w0 : World} {v : Value} {l : List Value} (hv : a.eval s = v) (H : Ow E B w0 w v l) {vx : Value} {m : List Value} (hx : a.eval x = vx) (L : Rd w vx m) (h1 : ∀ u ∈ m, u.oneCell' = true) (hl : (l.length + m.length) * eb ≤ 140737488355328) (hl2 : l.length + m.length ≤ 140737488355328)
    (h : ∀ (ao : Option Addr) (n cap : Nat) (w' : World), n = l.length + m.length → Ow E B w0 w' (.slice ao n cap) (l ++ m) → wpList P ops Q rest (a.put o.dst (.slice ao n cap)) w') :
    wpList P ops Q (o :: rest) a w := by
  obtain ⟨i0, hi, hz0, hz1, hz2⟩ := info_parts T.info
  refine wpList_append_src _ hgd s x S S ho B E i0 z 1 eb T.und hi hz0 hz1 hz2 T.one (by decide) v l.length l hv H.own vx m.length m hx (L.srcs T h1) (by unfold maxLen; omega) (by omega) H.size ?_
  intro v2 w2 hown hg _ _
  have H2 := H.app hown rfl hg
  obtain ⟨ao, cap, rfl⟩ := own_shape hown
  exact h ao _ cap w2 rfl H2

/-- Between w and w' nothing has turned but the blocks of S and new ones. -/
structure Kept (S : Nat → Prop) (w w' : World) : Prop where
  os : w'.os = w.os
  tape : w'.tape = w.tape
  output : w'.output = w.output
  size : w.heap.size ≤ w'.heap.size
  block : ∀ k, k < w.heap.size → ¬ S k → w'.heap[k]? = w.heap[k]?
theorem Kept.below {S : Nat → Prop} {w w' : World} {B : Nat} (h : Kept S w w') (hB : B ≤ w.heap.size) (hS : ∀ k, S k → B ≤ k) : Below B w w' :=
  ⟨h.os, h.tape, h.output, h.size, fun k hk => h.block k (by omega) (fun hs => by have := hS k hs; omega)⟩
theorem Kept.drew {S : Nat → Prop} {w w' : World} (h : Kept S w w') : Kept S w w'.drew := ⟨h.os, h.tape, h.output, h.size, h.block⟩
theorem Kept.drewN {S : Nat → Prop} {w w' : World} (h : Kept S w w') (n : Nat) : Kept S w (w'.drewN n) := ⟨h.os, h.tape, h.output, h.size, h.block⟩
theorem Kept.refl (S : Nat → Prop) (w : World) : Kept S w w := ⟨rfl, rfl, rfl, Nat.le_refl _, fun _ _ _ => rfl⟩
theorem Kept.trans {S : Nat → Prop} {w w1 w2 : World} (h : Kept S w w1) (h2 : Kept S w1 w2) : Kept S w w2 :=
  ⟨h2.os.trans h.os, h2.tape.trans h.tape, h2.output.trans h.output, Nat.le_trans h.size h2.size, fun k h1 hs => (h2.block k (Nat.lt_of_lt_of_le h1 h.size) hs).trans (h.block k h1 hs)⟩
theorem Kept.ofBelow {S : Nat → Prop} {w w' : World} (h : Below w.heap.size w w') : Kept S w w' := ⟨h.os, h.tape, h.output, h.size, fun k h1 _ => h.block k h1⟩
theorem Kept.set (w : World) (b o : Nat) (v : Value) : Kept (fun k => k = b) w (w.setCell ⟨b, o, none⟩ v) :=
  ⟨rfl, rfl, rfl, by simp, fun k _ hk => Below.heap_setCell _ _ _ _ hk⟩

theorem blk_setCell {w : World} {g k t : Nat} {cur : List Value} {u : Value} (h : w.heap[g]? = some (.cells cur.toArray t (0, 0))) :
    (w.setCell ⟨g, k, none⟩ u).heap[g]? = some (.cells (cur.set k u).toArray t (0, 0)) := by
  have hlt := lt_of_block h
  have h' : w.heap[g] = .cells cur.toArray t (0, 0) := by simpa [Array.getElem?_eq_getElem hlt] using h
  show (w.heap.modify g _)[g]? = _
  rw [Array.getElem?_eq_getElem (by simpa using hlt), Array.getElem_modify_self, h']
  simp

/-- What make has laid, as a whole block. -/
theorem made_row {w : World} {B g e n : Nat} {z : Value} {xs : List Value} (h : w.ownsRow B e 1 (.slice (some ⟨g, 0, none⟩) n n) n xs) (hx : xs = (madeCells #[z] n).toList := by (first | rfl | simp)) :
    w.heap[g]? = some (.cells (List.replicate n z).toArray e (0, 0)) := by
  obtain ⟨hn0, hn1⟩ := h
  rcases hn1 with ⟨h, _⟩ | ⟨g, cap', cur, h, _, hg, _, _, hsz, ht⟩
  · cases h
  · cases h
    rw [hg]
    have e : cur.toList = (madeCells #[z] n).toList := by
      rw [← hx, ← ht, List.take_of_length_le (by simp [hsz])]
    rw [toList_madeCells_one] at e
    rw [← e]
end Go.Proofs.Yteceljhhhbmemaa

/- Rows of structs of two cells: what a slice reads as, a slice of the call's own, append. Bounds on sizes alone. -/
namespace Go.Proofs.Yteceljhhhbmemaa
open Go.RowKit

abbrev PV := Value × Value
/-- The cells of a list of pairs. -/
def prs (l : List PV) : List Value := l.flatMap fun t => [t.1, t.2]
theorem prs_length (l : List PV) : (prs l).length = l.length * 2 := by
  induction l with
  | nil => rfl
  | cons t r ih => simp only [prs, List.flatMap_cons, List.length_append, List.length_cons, List.length_nil] at ih ⊢; omega
theorem prs_append (a b : List PV) : prs (a ++ b) = prs a ++ prs b := by simp [prs]
theorem prs_get : ∀ (l : List PV) (i : Nat) (t : PV), l[i]? = some t → (prs l)[i * 2]? = some t.1 ∧ (prs l)[i * 2 + 1]? = some t.2 := by
  intro l
  induction l with
  | nil => intro i t h; simp at h
  | cons s r ih =>
    intro i t h
    cases i with
    | zero => simp at h; subst h; exact ⟨rfl, rfl⟩
    | succ i =>
      have h1 := ih i t (by simpa using h)
      have e : prs (s :: r) = s.1 :: s.2 :: prs r := rfl
      rw [e, show (i + 1) * 2 = i * 2 + 1 + 1 by omega]
      exact h1
/-- The slice v reads as the pairs l. -/
def PRd (w : World) (v : Value) (l : List PV) : Prop :=
  ∃ ao cap, v = .slice ao l.length cap ∧ l.length ≤ cap ∧ cap ≤ 9223372036854775807 ∧ (0 < l.length → ∃ g o, ao = some ⟨g, o, none⟩ ∧ g < w.heap.size ∧ ∀ i t, l[i]? = some t → w.cell? ⟨g, o + i * 2, none⟩ = some t.1 ∧ w.cell? ⟨g, o + i * 2 + 1, none⟩ = some t.2)
theorem PRd.later {w w' : World} {v : Value} {l : List PV} {B : Nat} (h : PRd w v l) (hb : Below B w w') (hB : w.heap.size ≤ B) : PRd w' v l := by
  obtain ⟨ao, cap, h1, h2, h3, h4⟩ := h
  refine ⟨ao, cap, h1, h2, h3, fun h0 => ?_⟩
  obtain ⟨g, o, q1, q2, q3⟩ := h4 h0
  refine ⟨g, o, q1, Nat.lt_of_lt_of_le q2 hb.size, fun i t ht => ?_⟩
  obtain ⟨r1, r2⟩ := q3 i t ht
  exact ⟨(hb.cell (p := ⟨g, o + i * 2, none⟩) (by show g < B; omega)).trans r1, (hb.cell (p := ⟨g, o + i * 2 + 1, none⟩) (by show g < B; omega)).trans r2⟩
theorem PRd.at {w w' : World} {v : Value} {l : List PV} (h : PRd w v l) (hb : Below w.heap.size w w') : PRd w' v l := h.later hb (Nat.le_refl _)
theorem prd_nil (w : World) : PRd w (.slice none 0 0) [] := ⟨none, 0, rfl, Nat.le_refl _, by omega, fun h => by simp at h⟩
theorem PRd.cut {w : World} {ao : Option Addr} {n cap : Nat} {l : List PV} (h : PRd w (.slice ao n cap) l) : n = l.length ∧ n ≤ cap ∧ cap ≤ 9223372036854775807 := by
  obtain ⟨_, _, e, h2, h3, _⟩ := h
  simp only [Value.slice.injEq] at e
  omega
theorem PRd.get {w : World} {ao : Option Addr} {n cap : Nat} {l : List PV} (h : PRd w (.slice ao n cap) l) {i : Nat} {t : PV} (hi : l[i]? = some t) : ∃ g o, ao = some ⟨g, o, none⟩ ∧ w.cell? ⟨g, o + i * 2, none⟩ = some t.1 ∧ w.cell? ⟨g, o + i * 2 + 1, none⟩ = some t.2 := by
  obtain ⟨_, _, e, h2, h3, h4⟩ := h
  simp only [Value.slice.injEq] at e
  obtain ⟨rfl, _, rfl⟩ := e
  obtain ⟨g, o, q1, _, q3⟩ := h4 (by have := (List.getElem?_eq_some_iff.1 hi).1; omega)
  exact ⟨g, o, q1, q3 i t hi⟩

/-- A slice of the call's own that holds l; below B the world is as w0 was. -/
def OP (E : TypeId) (B : Nat) (w0 w : World) (v : Value) (l : List PV) : Prop := B ≤ w0.heap.size ∧ Below B w0 w ∧ w.ownsRow B E 2 v l.length (prs l)
section
variable {E : TypeId} {B : Nat} {w0 w w' : World} {v : Value} {l : List PV}
theorem OP.size (h : OP E B w0 w v l) : B ≤ w.heap.size := Nat.le_trans h.1 h.2.1.size
theorem OP.own (h : OP E B w0 w v l) : w.ownsRow B E 2 v l.length (prs l) := h.2.2
theorem OP.bel (h : OP E B w0 w v l) : Below B w0 w := h.2.1
theorem OP.app {n : Nat} {v' : Value} {m : List PV} (h : OP E B w0 w v l) (hown : w'.ownsRow B E 2 v' n (prs l ++ prs m)) (hn : n = l.length + m.length) (hg : w.grownBy w' v.ownBlock) : OP E B w0 w' v' (l ++ m) := by
  subst hn
  refine ⟨h.1, h.2.1.grown hg h.size (fun k hk => (h.own.lt k hk).1), ?_⟩
  rw [List.length_append, prs_append]
  exact hown
theorem own_same2 {w w' : World} {base e size n : Nat} {v : Value} {xs : List Value} (h : w.ownsRow base e size v n xs) (hs : ∀ k, v.ownBlock = some k → w'.heap[k]? = w.heap[k]?) : w'.ownsRow base e size v n xs := by
  obtain ⟨h1, h2⟩ := h
  refine ⟨h1, ?_⟩
  rcases h2 with h2 | ⟨g, cap, cur, hv, hb, hg, r⟩
  · exact .inl h2
  · exact .inr ⟨g, cap, cur, hv, hb, (hs g (by rw [hv]; rfl)).trans hg, r⟩
theorem OP.later (h : OP E B w0 w v l) (hb : Below w.heap.size w w') : OP E B w0 w' v l :=
  ⟨h.1, h.2.1.trans (hb.mono h.size), own_same2 h.own fun k hk => hb.block k (h.own.lt k hk).2⟩
theorem op_made {n g : Nat} (hown : w'.ownsRow w.heap.size E 2 (.slice (some ⟨g, 0, none⟩) 0 n) 0 []) (hgrow : w.grownBy w' none) : OP E w.heap.size w w' (.slice (some ⟨g, 0, none⟩) 0 n) [] :=
  ⟨Nat.le_refl _, (Below.refl _ _).grown hgrow (Nat.le_refl _) (fun k h => by cases h), hown⟩
theorem op_nil (E : TypeId) (w : World) : OP E w.heap.size w w (.slice none 0 0) [] := ⟨Nat.le_refl _, Below.refl _ _, ⟨by simp [prs], .inl ⟨rfl, rfl⟩⟩⟩
theorem op_empty (E : TypeId) (w : World) : OP E w.heap.size w (w.alloc (.cells #[] E)) (.slice (some ⟨w.heap.size, 0, none⟩) 0 0) [] :=
  ⟨Nat.le_refl _, bel_alloc w _, by simp [prs], .inr ⟨w.heap.size, 0, #[], rfl, Nat.le_refl _, heap_alloc_new w _, Nat.le_refl _, by unfold maxLen; omega, rfl, rfl⟩⟩
theorem OP.start (h : OP E B w0 w v l) {B2 : Nat} {w2 : World} (hB : B2 ≤ w2.heap.size) (hb : Below B2 w2 w0) (hle : B2 ≤ B) : OP E B2 w2 w v l := by
  refine ⟨hB, hb.trans (h.bel.mono hle), h.own.1, ?_⟩
  rcases h.own.2 with h2 | ⟨g, cap, cur, hv, hb2, hg, r⟩
  · exact .inl h2
  · exact .inr ⟨g, cap, cur, hv, Nat.le_trans hle hb2, hg, r⟩
theorem OP.prd (h : OP E B w0 w v l) : PRd w v l := by
  rcases h.own.2 with ⟨h1, h2⟩ | ⟨g, c, cur, h1, _, hg, hnc, hcm, _, ht⟩
  · exact ⟨none, 0, by rw [h1, h2], by omega, by omega, fun h => by omega⟩
  · unfold maxLen at hcm
    refine ⟨_, _, h1, hnc, by omega, fun h0 => ⟨g, 0, rfl, lt_of_block hg, fun i t hi => ?_⟩⟩
    have hil := (List.getElem?_eq_some_iff.1 hi).1
    obtain ⟨g1, g2⟩ := prs_get l i t hi
    have q : ∀ j u, (prs l)[j]? = some u → w.cell? ⟨g, 0 + j, none⟩ = some u := fun j u hu => by
      have := World.news_of_block hg j u (by
        rw [← ht, List.getElem?_take] at hu
        split at hu
        · exact hu
        · cases hu)
      rw [Addr.add_mid] at this
      exact this
    exact ⟨q _ _ g1, q _ _ g2⟩
end
theorem own_shapeP {w : World} {base e size n : Nat} {v : Value} {xs : List Value} (h : w.ownsRow base e size v n xs) : ∃ ao cap, v = .slice ao n cap := by
  rcases h.2 with ⟨h1, h2⟩ | ⟨g, cap, cur, h1, _⟩
  · exact ⟨none, 0, by rw [h1, h2]⟩
  · exact ⟨_, cap, h1⟩
/-- A slice type S over a struct type E of two cells. -/
structure Elem2 (P : Program) (S E : TypeId) (z : Value) (eb : Nat) : Prop where
  und : P.underlying S = some (.slice E)
  info : (P.info? E).map (fun i => (i.zero, i.size, i.bytes)) = some (some z, 2, eb)
  two : z.cells.size = 2
theorem PRd.src {P : Program} {S E : TypeId} {z : Value} {eb : Nat} (T : Elem2 P S E z eb) {w : World} {v : Value} {l : List PV} (h : PRd w v l) (h1 : ∀ u ∈ prs l, u.oneCell' = true) : Src P 2 S v l.length (prs l) w := by
  obtain ⟨ao, cap, rfl, h2, h3, h4⟩ := h
  by_cases h0 : 0 < l.length
  · obtain ⟨g, o, rfl, hg, hc⟩ := h4 h0
    refine Src.ofSlice _ T.und _ _ _ (prs l) (prs_length l) (fun j u hu => ?_) h1
    have hj : j < l.length * 2 := by rw [← prs_length]; exact (List.getElem?_eq_some_iff.1 hu).1
    obtain ⟨t, ht⟩ : ∃ t, l[j / 2]? = some t := ⟨_, List.getElem?_eq_getElem (by omega)⟩
    obtain ⟨c1, c2⟩ := hc _ t ht
    obtain ⟨g1, g2⟩ := prs_get l _ t ht
    rw [Addr.add_mid]
    rcases Nat.mod_two_eq_zero_or_one j with hm | hm
    · rw [show j / 2 * 2 = j by omega] at c1 g1
      rw [c1]; exact g1.symm.trans hu
    · rw [show o + j / 2 * 2 + 1 = o + j by omega] at c2
      rw [show j / 2 * 2 + 1 = j by omega] at g2
      rw [c2]; exact g2.symm.trans hu
  · obtain rfl : l = [] := by cases l with
      | nil => rfl
      | cons a r => simp at h0
    cases ao with
    | none => exact Src.ofNil _ T.und _
    | some a => exact Src.ofSlice _ T.und a _ _ [] rfl (fun j u hu => by simp at hu) (by simp)
/-- append of one pair that has just been laid. -/
theorem wpList_pr {P : Program} {S E : TypeId} {z : Value} {eb : Nat} (T : Elem2 P S E z eb) {ops : Array Oper} {rest : List Oper} {o : Oper} {a : Act} {w : World} {Q : Exit → Act → World → Prop} (hgd : o.guard = none) (s x : Operand)
    (ho : o.op = .call { callee := .builtin .append, args := #[s, x], argTypes := #[S, S] })
    {B : Nat} {w0 : World} {v : Value} {l : List PV} (hv : a.eval s = v) (H : OP E B w0 w v l) {vx : Value} {m : List PV} (hx : a.eval x = vx) (L : PRd w vx m) (h1 : ∀ u ∈ prs m, u.oneCell' = true) (hl : (l.length + m.length) * eb ≤ 140737488355328) (hl2 : l.length + m.length ≤ 140737488355328)
    (h : ∀ (ao : Option Addr) (n cap : Nat) (w' : World), n = l.length + m.length → OP E B w0 w' (.slice ao n cap) (l ++ m) → w.grownBy w' v.ownBlock → wpList P ops Q rest (a.put o.dst (.slice ao n cap)) w') :
    wpList P ops Q (o :: rest) a w := by
  obtain ⟨i0, hi, hz0, hz1, hz2⟩ := info_parts T.info
  refine wpList_append_src _ hgd s x S S ho B E i0 z 2 eb T.und hi hz0 hz1 hz2 T.two (by decide) v l.length (prs l) hv H.own vx m.length (prs m) hx (L.src T h1) (by unfold maxLen; omega) (by omega) H.size ?_
  intro v2 w2 hown hg _ _
  have H2 := H.app (m := m) hown rfl hg
  obtain ⟨ao, cap, rfl⟩ := own_shapeP hown
  exact h ao _ cap w2 rfl H2 hg
theorem prd_new {w : World} {u v : Value} {E : TypeId} {m : Nat × Nat} : PRd (w.alloc (.cells #[u, v] E m)) (.slice (some ⟨w.heap.size, 0, none⟩) 1 1) [(u, v)] := by
  refine ⟨_, _, rfl, Nat.le_refl _, by simp, fun _ => ⟨_, _, rfl, by simp, fun i t hi => ?_⟩⟩
  have : i = 0 := by have := (List.getElem?_eq_some_iff.1 hi).1; simp at this; omega
  subst this
  simp only [List.getElem?_cons_zero, Option.some.injEq] at hi
  subst hi
  have hb := heap_alloc_new w (.cells #[u, v] E m)
  have c0 := World.news_of_block hb 0 u rfl
  have c1 := World.news_of_block hb 1 v rfl
  rw [Addr.add_mid] at c0 c1
  exact ⟨c0, c1⟩
end Go.Proofs.Yteceljhhhbmemaa

/- Rows that lie in the blocks of a set; rows that grow. Bounds on sizes alone. -/
namespace Go.Proofs.Yteceljhhhbmemaa
open Go.RowKit

theorem set_blk {w : World} {b k a : Nat} {v : Value} (hne : a ≠ b) : (w.setCell ⟨a, k, none⟩ v).heap[b]? = w.heap[b]? := Below.heap_setCell w ⟨a, k, none⟩ v b (fun h => hne h.symm)
theorem cell_blk {w : World} {b j : Nat} {cs : List Value} {E : TypeId} {m : Nat × Nat} {v : Value} (hb : w.heap[b]? = some (.cells cs.toArray E m)) (h : cs[j]? = some v) : w.cell? ⟨b, j, none⟩ = some v := by
  have := World.news_of_block hb j v (by simpa using h)
  rw [Addr.add_mid, Nat.zero_add] at this
  exact this
theorem fr_blk {w : World} {b : Nat} {cs : List Value} {E : TypeId} (hb : w.heap[b]? = some (.cells cs.toArray E (0, 0))) (j : Nat) : w.frozen? ⟨b, j, none⟩ = false := by
  simp [World.frozen?, hb]
/-- The row of a slice lies in a block of S. -/
def In (S : Nat → Prop) (v : Value) : Prop := ∀ (a : Addr) (n c : Nat), v = .slice (some a) n c → S a.block
theorem In.mono {S T : Nat → Prop} {v : Value} (h : In S v) (hs : ∀ k, S k → T k) : In T v := fun a n c e => hs _ (h a n c e)
theorem in_nil (S : Nat → Prop) : In S (.slice none 0 0) := fun a n c e => by cases e
theorem Rd.keepS {S : Nat → Prop} {w w' : World} {v : Value} {l : List Value} (h : Rd w v l) (hB : In S v) (hs : w.heap.size ≤ w'.heap.size) (hk : ∀ k, S k → k < w.heap.size → w'.heap[k]? = w.heap[k]?) : Rd w' v l := by
  obtain ⟨ao, cap, e, h2, h3, h4⟩ := h
  refine ⟨ao, cap, e, h2, h3, fun h0 => ?_⟩
  obtain ⟨g, o, rfl, hg, hc⟩ := h4 h0
  have hb := hk g (hB _ _ _ e) hg
  exact ⟨g, o, rfl, by omega, fun i t ht => (World.cell?_of_block (w := w) hb).trans (hc i t ht)⟩
theorem PRd.keepS {S : Nat → Prop} {w w' : World} {v : Value} {l : List PV} (h : PRd w v l) (hB : In S v) (hs : w.heap.size ≤ w'.heap.size) (hk : ∀ k, S k → k < w.heap.size → w'.heap[k]? = w.heap[k]?) : PRd w' v l := by
  obtain ⟨ao, cap, e, h2, h3, h4⟩ := h
  refine ⟨ao, cap, e, h2, h3, fun h0 => ?_⟩
  obtain ⟨g, o, rfl, hg, hc⟩ := h4 h0
  have hb := hk g (hB _ _ _ e) hg
  refine ⟨g, o, rfl, by omega, fun i t ht => ?_⟩
  obtain ⟨c0, c1⟩ := hc i t ht
  exact ⟨(World.cell?_of_block (w := w) hb).trans c0, (World.cell?_of_block (w := w) hb).trans c1⟩
theorem Rd.keepN {S : Nat → Prop} {w w' : World} {v : Value} {l : List Value} (h : Rd w v l) (hB : 0 < l.length → In S v) (hs : w.heap.size ≤ w'.heap.size) (hk : ∀ k, S k → k < w.heap.size → w'.heap[k]? = w.heap[k]?) : Rd w' v l := by
  obtain ⟨ao, cap, e, h2, h3, h4⟩ := h
  refine ⟨ao, cap, e, h2, h3, fun h0 => ?_⟩
  obtain ⟨g, o, rfl, hg, hc⟩ := h4 h0
  have hb := hk g (hB h0 _ _ _ e) hg
  exact ⟨g, o, rfl, by omega, fun i t ht => (World.cell?_of_block (w := w) hb).trans (hc i t ht)⟩
theorem Rd.inlt {w : World} {v : Value} {l : List Value} (h : Rd w v l) (h0 : 0 < l.length) : In (fun k => k < w.heap.size) v := by
  obtain ⟨ao, cap, rfl, h2, h3, h4⟩ := h
  obtain ⟨g, o, rfl, hg, hc⟩ := h4 h0
  intro a n c e
  simp only [Value.slice.injEq, Option.some.injEq] at e
  rw [← e.1]
  exact hg
def Keeps (S : Nat → Prop) (w w' : World) : Prop := w.heap.size ≤ w'.heap.size ∧ ∀ k, S k → k < w.heap.size → w'.heap[k]? = w.heap[k]?
theorem keeps_bel {S : Nat → Prop} {B : Nat} {w w' : World} (h : Below B w w') (hs : ∀ k, S k → k < B) : Keeps S w w' := ⟨h.size, fun k hk _ => h.block k (hs k hk)⟩
theorem keeps_belw {S : Nat → Prop} {w w' : World} (h : Below w.heap.size w w') : Keeps S w w' := ⟨h.size, fun k _ hl => h.block k hl⟩
theorem keeps_alloc (S : Nat → Prop) (w : World) (o : Obj) : Keeps S w (w.alloc o) := ⟨(bel_alloc w o).size, fun k _ hk => (bel_alloc w o).block k hk⟩
theorem keeps_set {S : Nat → Prop} (w : World) (p j : Nat) (v : Value) (hs : ¬ S p) : Keeps S w (w.setCell ⟨p, j, none⟩ v) := ⟨by simp, fun k hk _ => Below.heap_setCell _ _ _ _ (fun e => hs ((show k = p from e) ▸ hk))⟩
theorem keeps_kept {S T : Nat → Prop} {w w' : World} (h : Kept T w w') (hs : ∀ k, S k → ¬ T k) : Keeps S w w' := ⟨h.size, fun k hk hl => h.block k hl (hs k hk)⟩
theorem keeps_grown {S : Nat → Prop} {w w' : World} {row : Option Nat} (h : w.grownBy w' row) (hs : ∀ k, S k → row ≠ some k) : Keeps S w w' := ⟨h.size, fun k hk hlt => h.block k hlt (fun e => hs k hk e.symm)⟩
theorem Keeps.trans {S : Nat → Prop} {w w1 w2 : World} (h : Keeps S w w1) (k : Keeps S w1 w2) : Keeps S w w2 := ⟨Nat.le_trans h.1 k.1, fun x hx hl => (k.2 x hx (Nat.lt_of_lt_of_le hl h.1)).trans (h.2 x hx hl)⟩
theorem Kept.mono {S T : Nat → Prop} {w w' : World} (h : Kept S w w') (hs : ∀ k, S k → T k) : Kept T w w' := ⟨h.os, h.tape, h.output, h.size, fun k hk hn => h.block k hk (fun e => hn (hs k e))⟩
theorem Kept.grown {S : Nat → Prop} {w w1 w2 : World} {row : Option Nat} (h : Kept S w w1) (g : w1.grownBy w2 row) (hr : ∀ k, row = some k → S k ∨ w.heap.size ≤ k) : Kept S w w2 :=
  ⟨g.os.trans h.os, g.tape.trans h.tape, g.output.trans h.output, Nat.le_trans h.size g.size, fun k hk hn => (g.block k (Nat.lt_of_lt_of_le hk h.size) (fun e => by rcases hr k e.symm with h1 | h1; exact hn h1; omega)).trans (h.block k hk hn)⟩
theorem Kept.alloc {S : Nat → Prop} {w w1 : World} (h : Kept S w w1) (o : Obj) : Kept S w (w1.alloc o) := h.trans (Kept.ofBelow (bel_alloc w1 o))
theorem Kept.setCell {S : Nat → Prop} {w w1 : World} (h : Kept S w w1) (p j : Nat) (v : Value) (hp : S p ∨ w.heap.size ≤ p) : Kept S w (w1.setCell ⟨p, j, none⟩ v) :=
  ⟨h.os, h.tape, h.output, by simpa using h.size, fun k hk hn => (set_blk (fun e => by subst e; rcases hp with h1 | h1; exact hn h1; omega)).trans (h.block k hk hn)⟩
theorem own_blkL {W : World} {B e s n k : Nat} {v : Value} {xs : List Value} (ho : W.ownsRow B e s v n xs) (hk : v.ownBlock = some k) : ∃ cur, W.heap[k]? = some (.cells cur e (0, 0)) := by
  rcases ho.2 with ⟨e, _⟩ | ⟨q, cap, cur, e, _, h2, _⟩
  · rw [e] at hk; cases hk
  · rw [e] at hk
    simp only [Value.ownBlock, Option.some.injEq] at hk
    subst hk
    exact ⟨_, h2⟩
/-- A row has grown, in its block or in a new one. -/
structure GA (B : Nat) (E : TypeId) (sz : Nat) (W w4 : World) (v v' : Value) (n : Nat) (xs : List Value) : Prop where
  own : w4.ownsRow B E sz v' n xs
  gr : W.grownBy w4 v.ownBlock
  fr : v'.ownBlock = v.ownBlock ∨ v'.ownBlock = some W.heap.size
theorem step_gen {P : Program} {ops : Array Oper} {o : Oper} {a : Act} {w : World} {K : Act → World → Prop} {Q : Exit → Act → World → Prop} {F : Prop} (S E : TypeId) (z : Value) (eb sz : Nat) (hu : P.underlying S = some (.slice E)) (hi : (P.info? E).map (fun i => (i.zero, i.size, i.bytes)) = some (some z, sz, eb)) (hz : z.cells.size = sz) (hp : 0 < sz) (hgd : o.guard = none) (s x : Operand)
    (ho : o.op = .call { callee := .builtin .append, args := #[s, x], argTypes := #[S, S] })
    {B : Nat} {v : Value} {n : Nat} {l : List Value} (hv : a.eval s = v) (H : w.ownsRow B E sz v n l) (hB : B ≤ w.heap.size) {vx : Value} {m : Nat} {news : List Value} (hx : a.eval x = vx) (L : Src P sz S vx m news w) (hl : (n + m) * eb ≤ 140737488355328) (hl2 : n + m ≤ 140737488355328)
    (h : ∀ (ao : Option Addr) (cap : Nat) (w' : World), GA B E sz w w' v (.slice ao (n + m) cap) (n + m) (l ++ news) → K (a.put o.dst (.slice ao (n + m) cap)) w') :
    if Region.wanted o (yielded ops a.tmps) = true then Oper.wp P o a w K Q else F := by
  obtain ⟨i0, hi, hz0, hz1, hz2⟩ := info_parts hi
  refine step_append_src _ hgd s x S S ho B E i0 z sz eb hu hi hz0 hz1 hz2 hz hp v n l hv H vx m news hx L (by unfold maxLen; omega) (by omega) hB ?_
  intro v2 w2 hown hg _ hf
  obtain ⟨ao, cap, rfl⟩ := own_shape hown
  exact h ao cap w2 ⟨hown, hg, hf⟩
theorem wpList_gen {P : Program} {ops : Array Oper} {rest : List Oper} {o : Oper} {a : Act} {w : World} {Q : Exit → Act → World → Prop} (S E : TypeId) (z : Value) (eb sz : Nat) (hu : P.underlying S = some (.slice E)) (hi : (P.info? E).map (fun i => (i.zero, i.size, i.bytes)) = some (some z, sz, eb)) (hz : z.cells.size = sz) (hp : 0 < sz) (hgd : o.guard = none) (s x : Operand)
    (ho : o.op = .call { callee := .builtin .append, args := #[s, x], argTypes := #[S, S] })
    {B : Nat} {v : Value} {n : Nat} {l : List Value} (hv : a.eval s = v) (H : w.ownsRow B E sz v n l) (hB : B ≤ w.heap.size) {vx : Value} {m : Nat} {news : List Value} (hx : a.eval x = vx) (L : Src P sz S vx m news w) (hl : (n + m) * eb ≤ 140737488355328) (hl2 : n + m ≤ 140737488355328)
    (h : ∀ (ao : Option Addr) (cap : Nat) (w' : World), GA B E sz w w' v (.slice ao (n + m) cap) (n + m) (l ++ news) → wpList P ops Q rest (a.put o.dst (.slice ao (n + m) cap)) w') :
    wpList P ops Q (o :: rest) a w := by
  obtain ⟨i0, hi, hz0, hz1, hz2⟩ := info_parts hi
  refine wpList_append_src _ hgd s x S S ho B E i0 z sz eb hu hi hz0 hz1 hz2 hz hp v n l hv H vx m news hx L (by unfold maxLen; omega) (by omega) hB ?_
  intro v2 w2 hown hg _ hf
  obtain ⟨ao, cap, rfl⟩ := own_shape hown
  exact h ao cap w2 ⟨hown, hg, hf⟩
theorem ga_bel {B E sz n : Nat} {W w4 : World} {v v' : Value} {xs l : List Value} {n0 : Nat} (h : GA B E sz W w4 v v' n xs) (h0 : W.ownsRow B E sz v n0 l) (hB : B ≤ W.heap.size) : Below B W w4 :=
  ⟨h.gr.os, h.gr.tape, h.gr.output, h.gr.size, fun k hk => h.gr.block k (by omega) (fun e => by have := (h0.lt k e.symm).1; omega)⟩
/-- A row of another type stays. -/
theorem ga_own {B B2 E e2 sz s2 n n0 m : Nat} {W w4 : World} {v v' v2 : Value} {xs l xs2 : List Value} (h : GA B E sz W w4 v v' n xs) (h0 : W.ownsRow B E sz v n0 l) (h2 : W.ownsRow B2 e2 s2 v2 m xs2) (he : e2 ≠ E) : w4.ownsRow B2 e2 s2 v2 m xs2 :=
  own_same h2 fun k hk => h.gr.block k (h2.lt k hk).2 (fun e => by
    obtain ⟨c1, h1⟩ := own_blkL h2 hk
    obtain ⟨c2, h3⟩ := own_blkL h0 e.symm
    rw [h1] at h3
    simp only [Option.some.injEq, Obj.cells.injEq] at h3
    exact he h3.2.1)
end Go.Proofs.Yteceljhhhbmemaa

/- Disks, as mathematics: what each operation gives. -/
namespace Go.Proofs.Yteceljhhhbmemaa

/-- A disk: the bytes of a sector, the durable contents, the writes in the cache, the power, the countdown (-1: none). -/
structure DM where
  sz : Nat
  secs : List (List Int)
  cache : List (Nat × List Int)
  off : Bool
  cnt : Int
/-- The content that the first k writes give a sector, if there is one. -/
def lookF (c : List (Nat × List Int)) (s : Nat) : Nat → Option (List Int)
  | 0 => none
  | k + 1 => match c[k]? with
    | some p => if p.1 = s then some p.2 else lookF c s k
    | none => lookF c s k
def DM.content (M : DM) (s : Nat) : List Int := (lookF M.cache s M.cache.length).getD (M.secs.getD s [])
def stepF (M : DM) : Bool × DM := if M.off = true ∨ M.cnt = 0 then (false, { M with off := true }) else (true, { M with cnt := if 0 < M.cnt then M.cnt - 1 else M.cnt })
def DM.fits (M : DM) (s : Int) : Bool := decide (0 ≤ s ∧ s < M.secs.length)
def writeF (M : DM) (s : Int) (l : List Int) : Int × DM :=
  if M.fits s = false ∨ l.length ≠ M.sz then (1, M)
  else if (stepF M).1 = false then (8, (stepF M).2)
  else (0, { (stepF M).2 with cache := M.cache ++ [(s.toNat, l)] })
def putF (S : List (List Int)) (c : List (Nat × List Int)) : List (List Int) := c.foldl (fun S p => S.set p.1 p.2) S
def syncF (M : DM) : Int × DM := if (stepF M).1 = false then (8, (stepF M).2) else (0, { (stepF M).2 with secs := putF M.secs M.cache, cache := [] })
def failF (M : DM) (n : Int) : DM := if M.off = true then M else { M with cnt := max n 0 }
/-- The contents behind a crash: of the first k writes those that keep names have become durable. -/
def keepF (S : List (List Int)) (c : List (Nat × List Int)) (keep : List Bool) : Nat → List (List Int)
  | 0 => S
  | k + 1 => match c[k]?, keep[k]? with
    | some p, some true => (keepF S c keep k).set p.1 p.2
    | _, _ => keepF S c keep k
def crashF (M : DM) (keep : List Bool) : DM := { sz := M.sz, secs := keepF M.secs M.cache keep (min M.cache.length keep.length), cache := [], off := false, cnt := -1 }
def readF (M : DM) (s : Int) : List Int × Int := if M.fits s = false then ([], 1) else if M.off = true then ([], 8) else (M.content s.toNat, 0)
def newF (n sz : Nat) : DM := { sz := sz, secs := List.replicate n (List.replicate sz 0), cache := [], off := false, cnt := -1 }
/-- What every disk keeps. -/
structure DM.Ok (M : DM) : Prop where
  sz : M.sz ≤ 4096
  secs : M.secs.length ≤ 65536
  con : ∀ l ∈ M.secs, l.length = M.sz
  ent : ∀ p ∈ M.cache, p.1 < M.secs.length ∧ p.2.length = M.sz
  cnt : -1 ≤ M.cnt ∧ M.cnt ≤ 9223372036854775807
theorem putF_len (S : List (List Int)) (c : List (Nat × List Int)) : (putF S c).length = S.length := by
  unfold putF
  induction c generalizing S with
  | nil => rfl
  | cons p r ih => rw [List.foldl_cons, ih, List.length_set]
theorem putF_snoc (S : List (List Int)) (c : List (Nat × List Int)) (p : Nat × List Int) : putF S (c ++ [p]) = (putF S c).set p.1 p.2 := by
  unfold putF
  rw [List.foldl_append]
  rfl
theorem take_snocD {α : Type} {l : List α} {j : Nat} {x : α} (h : l[j]? = some x) : l.take (j + 1) = l.take j ++ [x] := by
  rw [List.take_add_one, h]
  rfl
theorem putF_take (S : List (List Int)) (c : List (Nat × List Int)) (j : Nat) (p : Nat × List Int) (h : c[j]? = some p) : putF S (c.take (j + 1)) = (putF S (c.take j)).set p.1 p.2 := by
  rw [take_snocD h, putF_snoc]
theorem keepF_len (S : List (List Int)) (c : List (Nat × List Int)) (keep : List Bool) : ∀ k, (keepF S c keep k).length = S.length
  | 0 => rfl
  | k + 1 => by
    rw [keepF]
    split
    · rw [List.length_set, keepF_len S c keep k]
    · exact keepF_len S c keep k
theorem mem_set_of {S : List (List Int)} {s : Nat} {l x : List Int} (h : x ∈ S.set s l) : x ∈ S ∨ x = l := List.mem_or_eq_of_mem_set h
theorem putF_con (sz : Nat) : ∀ (c : List (Nat × List Int)) (S : List (List Int)), (∀ l ∈ S, l.length = sz) → (∀ p ∈ c, p.2.length = sz) → ∀ l ∈ putF S c, l.length = sz
  | [], S, h, _, l, hl => h l hl
  | p :: r, S, h, hc, l, hl => putF_con sz r (S.set p.1 p.2) (fun x hx => by rcases mem_set_of hx with h1 | h1; exact h x h1; rw [h1]; exact hc p (by simp)) (fun q hq => hc q (by simp [hq])) l hl
theorem keepF_con (sz : Nat) (S : List (List Int)) (c : List (Nat × List Int)) (keep : List Bool) (h : ∀ l ∈ S, l.length = sz) (hc : ∀ p ∈ c, p.2.length = sz) : ∀ k, ∀ l ∈ keepF S c keep k, l.length = sz
  | 0, l, hl => h l hl
  | k + 1, l, hl => by
    rw [keepF] at hl
    split at hl
    · rename_i p e _
      rcases mem_set_of hl with h1 | h1
      · exact keepF_con sz S c keep h hc k l h1
      · rw [h1]; exact hc p (List.mem_of_getElem? e)
    · exact keepF_con sz S c keep h hc k l hl
theorem DM.Ok.step {M : DM} (h : M.Ok) : (stepF M).2.Ok := by
  unfold stepF
  split
  · exact ⟨h.sz, h.secs, h.con, h.ent, h.cnt⟩
  · refine ⟨h.sz, h.secs, h.con, h.ent, ?_⟩
    have := h.cnt
    show -1 ≤ (if 0 < M.cnt then M.cnt - 1 else M.cnt) ∧ _
    split <;> constructor <;> (try simp only []) <;> first | omega | (split <;> omega)
theorem stepF_same (M : DM) : (stepF M).2.sz = M.sz ∧ (stepF M).2.secs = M.secs ∧ (stepF M).2.cache = M.cache := by
  unfold stepF
  split <;> exact ⟨rfl, rfl, rfl⟩
theorem DM.Ok.write {M : DM} (h : M.Ok) (s : Int) (l : List Int) : (writeF M s l).2.Ok := by
  unfold writeF
  split
  · exact h
  · rename_i hn
    simp only [not_or, Bool.not_eq_false] at hn
    obtain ⟨hf, hl⟩ := hn
    split
    · exact h.step
    · have k := h.step
      obtain ⟨e1, e2, e3⟩ := stepF_same M
      refine ⟨k.sz, k.secs, k.con, fun p hp => ?_, k.cnt⟩
      show p.1 < (stepF M).2.secs.length ∧ p.2.length = (stepF M).2.sz
      rw [e1, e2]
      rcases List.mem_append.1 hp with h1 | h1
      · exact h.ent p h1
      · rw [List.mem_singleton.1 h1]
        simp only [DM.fits, decide_eq_true_eq] at hf
        exact ⟨by simp only; omega, by simpa using hl⟩
theorem DM.Ok.sync {M : DM} (h : M.Ok) : (syncF M).2.Ok := by
  unfold syncF
  split
  · exact h.step
  · have k := h.step
    obtain ⟨e1, e2, e3⟩ := stepF_same M
    refine ⟨k.sz, ?_, ?_, fun p hp => by simp at hp, k.cnt⟩
    · show (putF M.secs M.cache).length ≤ 65536
      rw [putF_len]; exact h.secs
    · show ∀ l ∈ putF M.secs M.cache, l.length = (stepF M).2.sz
      rw [e1]
      exact putF_con _ _ _ h.con fun p hp => (h.ent p hp).2
theorem DM.Ok.fail {M : DM} (h : M.Ok) (n : Int) (hn : n ≤ 9223372036854775807) : (failF M n).Ok := by
  unfold failF
  split
  · exact h
  · exact ⟨h.sz, h.secs, h.con, h.ent, by show -1 ≤ max n 0 ∧ max n 0 ≤ _; omega⟩
theorem DM.Ok.crash {M : DM} (h : M.Ok) (keep : List Bool) : (crashF M keep).Ok :=
  ⟨h.sz, by show (keepF _ _ _ _).length ≤ _; rw [keepF_len]; exact h.secs, keepF_con _ _ _ _ h.con (fun p hp => (h.ent p hp).2) _, fun p hp => by simp [crashF] at hp, by show (-1 : Int) ≤ -1 ∧ (-1 : Int) ≤ _; omega⟩
theorem newF_ok (n sz : Nat) (hn : n ≤ 65536) (hz : sz ≤ 4096) : (newF n sz).Ok :=
  ⟨hz, by simp [newF]; omega, fun l hl => by simp only [newF, List.mem_replicate] at hl; rw [hl.2]; simp [newF], fun p hp => by simp [newF] at hp, by show (-1 : Int) ≤ -1 ∧ (-1 : Int) ≤ _; omega⟩
end Go.Proofs.Yteceljhhhbmemaa

/- The reference's disk in memory; step and Fail. Bounds on sizes alone. -/
namespace Go.Proofs.Yteceljhhhbmemaa
open Go.RowKit
set_option maxRecDepth 100000
set_option maxHeartbeats 1600000

abbrev R64 (n : Int) : Prop := -9223372036854775808 ≤ n ∧ n ≤ 9223372036854775807
def by8 (l : List Int) : List Value := l.map (Value.int .u8)
theorem by8_length (l : List Int) : (by8 l).length = l.length := List.length_map _
/-- A content: bytes in a row of S. -/
def CR (S : Nat → Prop) (w : World) (v : Value) (l : List Int) : Prop := Rd w v (by8 l) ∧ (0 < l.length → In S v)
theorem CR.keep {S : Nat → Prop} {w w' : World} {v : Value} {l : List Int} (h : CR S w v l) (k : Keeps S w w') : CR S w' v l := ⟨h.1.keepN (fun h0 => h.2 (by rwa [by8_length] at h0)) k.1 k.2, h.2⟩
theorem CR.mono {S T : Nat → Prop} {w : World} {v : Value} {l : List Int} (h : CR S w v l) (hs : ∀ k, S k → T k) : CR T w v l := ⟨h.1, fun h0 => (h.2 h0).mono hs⟩
theorem CR.lt {S : Nat → Prop} {w : World} {v : Value} {l : List Int} (h : CR S w v l) : CR (fun k => S k ∧ k < w.heap.size) w v l := ⟨h.1, fun h0 a n c e => ⟨h.2 h0 a n c e, h.1.inlt (by rwa [by8_length]) a n c e⟩⟩
/-- The blocks of a disk but for those that its operations change. -/
abbrev Qt (S : Nat → Prop) (b : Nat) (vs vc : Value) : Nat → Prop := fun k => S k ∧ k ≠ b ∧ vs.ownBlock ≠ some k ∧ vc.ownBlock ≠ some k
namespace Rf
/-- The reference's disk in block b, all of it in S. -/
structure DK (S : Nat → Prop) (w : World) (b : Nat) (M : DM) (vs vc : Value) (xs : List Value) (ps : List PV) : Prop where
  sb : S b
  box : w.heap[b]? = some (.cells [.int .i64 M.sz, vs, vc, .bool M.off, .int .i64 M.cnt].toArray 42 (0, 0))
  sec : w.ownsRow 0 32 1 vs M.secs.length xs
  si : ∀ k, vs.ownBlock = some k → S k ∧ k ≠ b
  con : ∀ (i : Nat) (v : Value) (l : List Int), xs[i]? = some v → M.secs[i]? = some l → CR (Qt S b vs vc) w v l
  cac : w.ownsRow 0 68 2 vc M.cache.length (prs ps)
  ci : ∀ k, vc.ownBlock = some k → S k ∧ k ≠ b
  ent : ∀ (i : Nat) (p : PV) (q : Nat × List Int), ps[i]? = some p → M.cache[i]? = some q → p.1 = .int .i64 q.1 ∧ CR (Qt S b vs vc) w p.2 q.2
  ok : M.Ok
def DS (S : Nat → Prop) (w : World) (b : Nat) (M : DM) : Prop := ∃ vs vc xs ps, DK S w b M vs vc xs ps
section
variable {S T : Nat → Prop} {w w' : World} {b : Nat} {M : DM} {vs vc : Value} {xs : List Value} {ps : List PV}
theorem DK.keep (h : DK S w b M vs vc xs ps) (k : Keeps S w w') : DK S w' b M vs vc xs ps := by
  have kq : Keeps (Qt S b vs vc) w w' := ⟨k.1, fun x hx hl => k.2 x hx.1 hl⟩
  exact ⟨h.sb, (k.2 b h.sb (lt_of_block h.box)).trans h.box, own_same h.sec fun x hx => k.2 x (h.si x hx).1 (h.sec.lt x hx).2, h.si, fun i v l hv hl => (h.con i v l hv hl).keep kq,
    own_same h.cac fun x hx => k.2 x (h.ci x hx).1 (h.cac.lt x hx).2, h.ci, fun i p q hp hq => ⟨(h.ent i p q hp hq).1, (h.ent i p q hp hq).2.keep kq⟩, h.ok⟩
theorem DK.mono (h : DK S w b M vs vc xs ps) (hs : ∀ k, S k → T k) : DK T w b M vs vc xs ps :=
  ⟨hs b h.sb, h.box, h.sec, fun k hk => ⟨hs k (h.si k hk).1, (h.si k hk).2⟩, fun i v l hv hl => (h.con i v l hv hl).mono fun k hk => ⟨hs k hk.1, hk.2⟩, h.cac, fun k hk => ⟨hs k (h.ci k hk).1, (h.ci k hk).2⟩,
    fun i p q hp hq => ⟨(h.ent i p q hp hq).1, (h.ent i p q hp hq).2.mono fun k hk => ⟨hs k hk.1, hk.2⟩⟩, h.ok⟩
theorem DK.cells (h : DK S w b M vs vc xs ps) : w.cell? ⟨b, 0, none⟩ = some (.int .i64 M.sz) ∧ w.cell? ⟨b, 1, none⟩ = some vs ∧ w.cell? ⟨b, 2, none⟩ = some vc ∧ w.cell? ⟨b, 3, none⟩ = some (.bool M.off) ∧ w.cell? ⟨b, 4, none⟩ = some (.int .i64 M.cnt) :=
  ⟨cell_blk h.box rfl, cell_blk h.box rfl, cell_blk h.box rfl, cell_blk h.box rfl, cell_blk h.box rfl⟩
theorem DK.free (h : DK S w b M vs vc xs ps) (j : Nat) : w.frozen? ⟨b, j, none⟩ = false := fr_blk h.box j
theorem DK.blt (h : DK S w b M vs vc xs ps) : b < w.heap.size := lt_of_block h.box
theorem DK.drew (h : DK S w b M vs vc xs ps) : DK S w.drew b M vs vc xs ps := h.keep ⟨Nat.le_refl _, fun _ _ _ => rfl⟩
theorem DK.lt (h : DK S w b M vs vc xs ps) : DK (fun k => S k ∧ k < w.heap.size) w b M vs vc xs ps :=
  ⟨⟨h.sb, h.blt⟩, h.box, h.sec, fun k hk => ⟨⟨(h.si k hk).1, (h.sec.lt k hk).2⟩, (h.si k hk).2⟩, fun i v l hv hl => (h.con i v l hv hl).lt.mono fun k hk => ⟨⟨hk.1.1, hk.2⟩, hk.1.2⟩, h.cac, fun k hk => ⟨⟨(h.ci k hk).1, (h.cac.lt k hk).2⟩, (h.ci k hk).2⟩,
    fun i p q hp hq => ⟨(h.ent i p q hp hq).1, (h.ent i p q hp hq).2.lt.mono fun k hk => ⟨⟨hk.1.1, hk.2⟩, hk.1.2⟩⟩, h.ok⟩
/-- A number or the power in the box has changed. -/
theorem DK.set {M2 : DM} (h : DK S w b M vs vc xs ps) (j : Nat) (v : Value) (e : [.int .i64 M.sz, vs, vc, .bool M.off, .int .i64 M.cnt].set j v = [.int .i64 M2.sz, vs, vc, .bool M2.off, .int .i64 M2.cnt]) (h1 : M2.secs = M.secs) (h2 : M2.cache = M.cache) (ok : M2.Ok) : DK S (w.setCell ⟨b, j, none⟩ v) b M2 vs vc xs ps := by
  have kq : Keeps (Qt S b vs vc) w (w.setCell ⟨b, j, none⟩ v) := keeps_set w b j v fun hk => hk.2.1 rfl
  have ko : ∀ k, k ≠ b → (w.setCell ⟨b, j, none⟩ v).heap[k]? = w.heap[k]? := fun k hk => set_blk (Ne.symm hk)
  refine ⟨h.sb, by rw [← e]; exact Go.Proofs.Yteceljhhhbmemaa.blk_setCell (k := j) h.box, ?_, h.si, ?_, ?_, h.ci, ?_, ok⟩
  · rw [h1]; exact own_same h.sec fun x hx => ko x (h.si x hx).2
  · rw [h1]; exact fun i v l hv hl => (h.con i v l hv hl).keep kq
  · rw [h2]; exact own_same h.cac fun x hx => ko x (h.ci x hx).2
  · rw [h2]; exact fun i p q hp hq => ⟨(h.ent i p q hp hq).1, (h.ent i p q hp hq).2.keep kq⟩
end
section
variable (S : Nat → Prop) (w : World) (b : Nat) (M : DM) (vs vc : Value) (xs : List Value) (ps : List PV)
theorem step_any (h : DK S w b M vs vc xs ps) : Calls Try.prog 37 #[.pointer (some ⟨b, 0, none⟩)] w fun e w' => e = .returned (.bool (stepF M).1) ∧ DK S w' b (stepF M).2 vs vc xs ps ∧ Kept (fun k => k = b) w w' := by
  obtain ⟨c0, c1, c2, c3, c4⟩ := h.cells
  have f3 := h.free 3
  have f4 := h.free 4
  have hok := h.ok.cnt
  by_cases h1 : M.off = true
  · have HK : Hid (DK S (w.setCell ⟨b, 3, none⟩ (.bool true)) b (stepF M).2 vs vc xs ps) := hid_of (h.set 3 _ (by rw [stepF, if_pos (Or.inl h1)]; rfl) (stepF_same M).2.1 (stepF_same M).2.2 h.ok.step)
    have HE : Hid ((stepF M).1 = false) := hid_of (by rw [stepF, if_pos (Or.inl h1)])
    rw [h1] at c3
    clear h h1
    go_enter Try.func37, Try.ntmps37
    go_wp2
    go_ret
    exact ⟨by rw [HE.out]; rfl, HK.out, Kept.set _ _ _ _⟩
  have h1' : M.off = false := by simpa using h1
  by_cases h2 : M.cnt = 0
  · have HK : Hid (DK S (w.setCell ⟨b, 3, none⟩ (.bool true)) b (stepF M).2 vs vc xs ps) := hid_of (h.set 3 _ (by rw [stepF, if_pos (Or.inr h2)]; rfl) (stepF_same M).2.1 (stepF_same M).2.2 h.ok.step)
    have HE : Hid ((stepF M).1 = false) := hid_of (by rw [stepF, if_pos (Or.inr h2)])
    rw [h1'] at c3
    rw [h2] at c4
    clear h h1 h2
    go_enter Try.func37, Try.ntmps37
    go_wp2
    go_ret
    exact ⟨by rw [HE.out]; rfl, HK.out, Kept.set _ _ _ _⟩
  have hs : stepF M = (true, { M with cnt := if 0 < M.cnt then M.cnt - 1 else M.cnt }) := by rw [stepF, if_neg (by rw [h1']; simpa using h2)]
  have HE : Hid ((stepF M).1 = true) := hid_of (by rw [hs])
  obtain ⟨n, hn⟩ : ∃ n, n = M.cnt := ⟨_, rfl⟩
  have d0 : (n == 0) = false := by simp; omega
  rw [h1'] at c3
  by_cases h3 : 0 < M.cnt
  · have HK : Hid (DK S (w.setCell ⟨b, 4, none⟩ (.int .i64 (n - 1))) b (stepF M).2 vs vc xs ps) := hid_of (h.set 4 _ (by rw [hs, if_pos h3, hn]; rfl) (stepF_same M).2.1 (stepF_same M).2.2 h.ok.step)
    have d1 : decide (n > 0) = true := by simp; omega
    have d2 : decide (0 < n) = true := by simp; omega
    have dw : IntKind.i64.wrap (n - 1) = n - 1 := IntWalk.i64_in _ (by omega)
    rw [← hn] at c4
    clear h h1 h2 hs h3 hn hok
    go_enter Try.func37, Try.ntmps37
    go_wp2
    go_ret
    exact ⟨by rw [HE.out]; rfl, HK.out, Kept.set _ _ _ _⟩
  · have HK : Hid (DK S w b (stepF M).2 vs vc xs ps) := hid_of (by rw [hs, if_neg h3]; exact h)
    have d1 : decide (n > 0) = false := by simp; omega
    have d2 : decide (0 < n) = false := by simp; omega
    rw [← hn] at c4
    clear h h1 h2 hs h3 hn hok
    go_enter Try.func37, Try.ntmps37
    go_wp2
    go_ret
    exact ⟨by rw [HE.out]; rfl, HK.out, Kept.refl _ _⟩
theorem fail_any (n : Int) (hn : R64 n) (h : DK S w b M vs vc xs ps) : Calls Try.prog 30 #[.pointer (some ⟨b, 0, none⟩), .int .i64 n] w fun e w' => e = .returned (.tuple #[]) ∧ DK S w' b (failF M n) vs vc xs ps ∧ Kept (fun k => k = b) w w' := by
  obtain ⟨c0, c1, c2, c3, c4⟩ := h.cells
  have f4 := h.free 4
  by_cases h1 : M.off = true
  · have HK : Hid (DK S w b (failF M n) vs vc xs ps) := hid_of (by rw [failF, if_pos h1]; exact h)
    rw [h1] at c3
    clear h h1
    go_enter Try.func30, Try.ntmps30
    go_wp2
    go_end0
    exact ⟨rfl, HK.out, Kept.refl _ _⟩
  · have h1' : M.off = false := by simpa using h1
    have HK : Hid (DK S (w.setCell ⟨b, 4, none⟩ (.int .i64 (max n 0))) b (failF M n) vs vc xs ps) := hid_of (h.set 4 _ (by rw [failF, if_neg h1]; rfl) (by rw [failF, if_neg h1]) (by rw [failF, if_neg h1]) (h.ok.fail n hn.2))
    rw [h1'] at c3
    clear h h1
    go_enter Try.func30, Try.ntmps30
    go_wp2
    all_goals go_end0
    all_goals first
      | exact ⟨rfl, by have h9 := HK.out; rwa [show max n 0 = 0 by omega] at h9, Kept.set _ _ _ _⟩
      | exact ⟨rfl, by have h9 := HK.out; rwa [show max n 0 = n by omega] at h9, Kept.set _ _ _ _⟩
end
end Rf
end Go.Proofs.Yteceljhhhbmemaa

/- The reference's disk in memory: its rows, a write more, a sector stored, an empty cache, a sector more. Bounds on sizes alone. -/
namespace Go.Proofs.Yteceljhhhbmemaa
open Go.RowKit
set_option maxRecDepth 100000

theorem u8E : Elem Try.prog 32 5 (.int .u8 0) 1 := ⟨Try.underlying32, by kernel_rfl, rfl⟩
theorem slE : Elem Try.prog 39 32 (.slice none 0 0) 24 := ⟨Try.underlying39, by kernel_rfl, rfl⟩
theorem rwL2 : Elem2 Try.prog 40 68 (.agg #[.int .i64 0, .slice none 0 0]) 32 := ⟨Try.underlying40, by kernel_rfl, rfl⟩
def bls (l : List Bool) : List Value := l.map Value.bool
theorem bls_length (l : List Bool) : (bls l).length = l.length := List.length_map _
theorem by8_cells (l : List Int) : ∀ u ∈ by8 l, u.oneCell' = true := by
  intro u hu
  obtain ⟨y, _, rfl⟩ := List.mem_map.1 hu
  rfl
theorem rd_cut {w : World} {ao : Option Addr} {n cap : Nat} {l : List Value} (h : Rd w (.slice ao n cap) l) : n = l.length ∧ n ≤ cap ∧ cap ≤ 9223372036854775807 := by
  obtain ⟨_, _, e, h2, h3, _⟩ := h
  simp only [Value.slice.injEq] at e
  omega
theorem rd_at {w : World} {ao : Option Addr} {n cap : Nat} {l : List Value} (h : Rd w (.slice ao n cap) l) {i : Nat} {t : Value} (hi : l[i]? = some t) : ∃ g o, ao = some ⟨g, o, none⟩ ∧ w.cell? ⟨g, o + i, none⟩ = some t := by
  obtain ⟨_, _, e, h2, h3, h4⟩ := h
  simp only [Value.slice.injEq] at e
  obtain ⟨rfl, _, rfl⟩ := e
  obtain ⟨g, o, q1, _, q3⟩ := h4 (by have := (List.getElem?_eq_some_iff.1 hi).1; omega)
  exact ⟨g, o, q1, q3 i t hi⟩
theorem own_set {w : World} {B E n j : Nat} {cap : Nat} {g : Nat} {xs : List Value} (h : w.ownsRow B E 1 (.slice (some ⟨g, 0, none⟩) n cap) n xs) (u : Value) :
    (w.setCell ⟨g, j, none⟩ u).ownsRow B E 1 (.slice (some ⟨g, 0, none⟩) n cap) n (xs.set j u) := by
  obtain ⟨h1, h2⟩ := h
  refine ⟨by rw [List.length_set]; exact h1, ?_⟩
  rcases h2 with ⟨h2, _⟩ | ⟨g2, cap2, cur, hv, hb, hg, hnc, hcm, hsz, ht⟩
  · cases h2
  · simp only [Value.slice.injEq, Option.some.injEq, Addr.mk.injEq] at hv
    obtain ⟨⟨rfl, _⟩, _, rfl⟩ := hv
    have hg' : w.heap[g]? = some (.cells (cur.toList).toArray E (0, 0)) := by simpa using hg
    have h3 := blk_setCell (k := j) (u := u) hg'
    refine .inr ⟨g, cap, (cur.toList.set j u).toArray, rfl, hb, h3, hnc, hcm, by simpa using hsz, ?_⟩
    rw [List.take_set, ht]
theorem own_addr {w : World} {B E s n : Nat} {ao : Option Addr} {cap : Nat} {xs : List Value} (h : w.ownsRow B E s (.slice ao n cap) n xs) (h0 : 0 < n) : ∃ g, ao = some ⟨g, 0, none⟩ ∧ g < w.heap.size ∧ ∀ j, w.frozen? ⟨g, j, none⟩ = false := by
  rcases h.2 with ⟨h1, h2⟩ | ⟨g, c, cur, h1, hb, hg, hnc, hcm, _, ht⟩
  · omega
  · simp only [Value.slice.injEq] at h1
    exact ⟨g, h1.1, lt_of_block hg, fun j => by simp [World.frozen?, hg]⟩
/-- Rows of two types have no block in common. -/
theorem own_ne {W : World} {B B2 E e2 s s2 n n2 : Nat} {v v2 : Value} {xs xs2 : List Value} (h : W.ownsRow B E s v n xs) (h2 : W.ownsRow B2 e2 s2 v2 n2 xs2) (he : E ≠ e2) {k : Nat} (hk : v.ownBlock = some k) : v2.ownBlock ≠ some k := fun e => by
  obtain ⟨c1, h1⟩ := own_blkL h hk
  obtain ⟨c2, h3⟩ := own_blkL h2 e
  rw [h1] at h3
  simp only [Option.some.injEq, Obj.cells.injEq] at h3
  exact he h3.2.1
namespace Rf
section
variable {S T : Nat → Prop} {w w' : World} {b : Nat} {M : DM} {vs vc : Value} {xs : List Value} {ps : List PV}
theorem DK.xl (h : DK S w b M vs vc xs ps) : xs.length = M.secs.length := by have := h.sec.1; omega
theorem DK.pl (h : DK S w b M vs vc xs ps) : ps.length = M.cache.length := by have := h.cac.1; rw [prs_length] at this; omega
theorem DK.rd (h : DK S w b M vs vc xs ps) : Rd w vs xs :=
  (show Ow 32 0 w w vs xs from ⟨Nat.zero_le _, Below.refl _ _, by rw [h.xl]; exact h.sec⟩).rd (by have := h.xl; have := h.ok.secs; omega)
theorem DK.prd (h : DK S w b M vs vc xs ps) : PRd w vc ps :=
  (show OP 68 0 w w vc ps from ⟨Nat.zero_le _, Below.refl _ _, by rw [h.pl]; exact h.cac⟩).prd
theorem DK.box4 {w4 : World} (h : DK S w b M vs vc xs ps) (gr : w.grownBy w4 vc.ownBlock) : w4.heap[b]? = some (.cells [.int .i64 M.sz, vs, vc, .bool M.off, .int .i64 M.cnt].toArray 42 (0, 0)) :=
  (gr.block b h.blt (fun e => (h.ci b e.symm).2 rfl)).trans h.box
/-- A write more. -/
theorem DK.push (h : DK S w b M vs vc xs ps) {s : Nat} {v : Value} {l : List Int} (hs : s < M.secs.length) (hl : l.length = M.sz) (hv : CR (Qt S b vs vc) w v l) {ao : Option Addr} {cap : Nat} {w4 : World} (ga : GA 0 68 2 w w4 vc (.slice ao (M.cache.length + 1) cap) (M.cache.length + 1) (prs ps ++ prs [(.int .i64 s, v)])) :
    DK (fun k => S k ∨ k = w.heap.size) (w4.setCell ⟨b, 2, none⟩ (.slice ao (M.cache.length + 1) cap)) b { M with cache := M.cache ++ [(s, l)] } vs (.slice ao (M.cache.length + 1) cap) xs (ps ++ [(.int .i64 s, v)]) := by
  have hfr : ∀ k, (Value.slice ao (M.cache.length + 1) cap).ownBlock = some k → vc.ownBlock = some k ∨ k = w.heap.size := fun k hk => by
    rcases ga.fr with e | e
    · exact Or.inl (by rw [← e]; exact hk)
    · rw [e] at hk; exact Or.inr (Option.some.inj hk).symm
  have hlt := h.blt
  have kg : ∀ k, k < w.heap.size → vc.ownBlock ≠ some k → w4.heap[k]? = w.heap[k]? := fun k hk hn => ga.gr.block k hk (fun e => hn e.symm)
  have ko : ∀ k, k ≠ b → (w4.setCell ⟨b, 2, none⟩ (.slice ao (M.cache.length + 1) cap)).heap[k]? = w4.heap[k]? := fun k hk => set_blk (Ne.symm hk)
  have hbx : w4.heap[b]? = w.heap[b]? := kg b hlt (fun e => (h.ci b e).2 rfl)
  have kq : ∀ {v' : Value} {l' : List Int}, CR (Qt S b vs vc) w v' l' → CR (Qt (fun k => S k ∨ k = w.heap.size) b vs (.slice ao (M.cache.length + 1) cap)) (w4.setCell ⟨b, 2, none⟩ (.slice ao (M.cache.length + 1) cap)) v' l' := by
    intro v' l' h'
    exact (CR.keep h'.lt ⟨by have := ga.gr.size; simp; omega, fun k hk hl => (ko k hk.1.2.1).trans (kg k hl hk.1.2.2.2)⟩).mono fun k hk => ⟨Or.inl hk.1.1, hk.1.2.1, hk.1.2.2.1, fun e => by
      rcases hfr k e with h1 | h1
      · exact hk.1.2.2.2 h1
      · omega⟩
  have hok : DM.Ok { M with cache := M.cache ++ [(s, l)] } := ⟨h.ok.sz, h.ok.secs, h.ok.con, fun p hp => by
    rcases List.mem_append.1 hp with h1 | h1
    · exact h.ok.ent p h1
    · rw [List.mem_singleton.1 h1]; exact ⟨hs, hl⟩, h.ok.cnt⟩
  refine ⟨Or.inl h.sb, ?_, ?_, fun k hk => ⟨Or.inl (h.si k hk).1, (h.si k hk).2⟩, fun i v' l' hx hm => kq (h.con i v' l' hx hm), ?_, ?_, ?_, hok⟩
  · exact Go.Proofs.Yteceljhhhbmemaa.blk_setCell (k := 2) (hbx.trans h.box)
  · exact own_same h.sec fun k hk => (ko k (h.si k hk).2).trans (kg k (h.sec.lt k hk).2 (own_ne h.sec h.cac (by decide) hk))
  · show World.ownsRow _ 0 68 2 _ (M.cache ++ [(s, l)]).length _
    rw [prs_append, List.length_append]
    refine own_same ga.own fun k hk => ko k fun e => ?_
    rcases hfr k hk with h1 | h1
    · exact (h.ci k h1).2 e
    · omega
  · intro k hk
    rcases hfr k hk with h1 | h1
    · exact ⟨Or.inl (h.ci k h1).1, (h.ci k h1).2⟩
    · exact ⟨Or.inr h1, by omega⟩
  · intro i p q hp hq
    have hpl := h.pl
    by_cases e : i < ps.length
    · rw [List.getElem?_append_left e] at hp
      rw [List.getElem?_append_left (by omega)] at hq
      exact ⟨(h.ent i p q hp hq).1, kq (h.ent i p q hp hq).2⟩
    · rw [List.getElem?_append_right (by omega)] at hp
      rw [List.getElem?_append_right (by omega)] at hq
      have hi : i = ps.length := by have := (List.getElem?_eq_some_iff.1 hp).1; simp at this; omega
      subst hi
      rw [hpl] at hq
      simp at hp hq
      subst hp hq
      exact ⟨rfl, kq hv⟩
/-- A sector is stored. -/
theorem DK.store {g n cap : Nat} (h : DK S w b M (.slice (some ⟨g, 0, none⟩) n cap) vc xs ps) {s : Nat} {v : Value} {l : List Int} (hs : s < M.secs.length) (hl : l.length = M.sz) (hv : CR (Qt S b (.slice (some ⟨g, 0, none⟩) n cap) vc) w v l) :
    DK S (w.setCell ⟨g, s, none⟩ v) b { M with secs := M.secs.set s l } (.slice (some ⟨g, 0, none⟩) n cap) vc (xs.set s v) ps := by
  have hg := h.si g rfl
  have ko : ∀ k, k ≠ g → (w.setCell ⟨g, s, none⟩ v).heap[k]? = w.heap[k]? := fun k hk => set_blk (Ne.symm hk)
  have kq : ∀ {v' : Value} {l' : List Int}, CR (Qt S b (.slice (some ⟨g, 0, none⟩) n cap) vc) w v' l' → CR (Qt S b (.slice (some ⟨g, 0, none⟩) n cap) vc) (w.setCell ⟨g, s, none⟩ v) v' l' := fun h' => h'.keep (keeps_set w g s v fun hk => hk.2.2.1 rfl)
  have hn : n = M.secs.length := by
    obtain ⟨_, _, e⟩ := own_shape h.sec
    simp only [Value.slice.injEq] at e
    exact e.2.1
  have hok : DM.Ok { M with secs := M.secs.set s l } := ⟨h.ok.sz, by simpa using h.ok.secs, fun x hx => by
    rcases mem_set_of hx with h1 | h1
    · exact h.ok.con x h1
    · rw [h1]; exact hl, fun p hp => by simpa using h.ok.ent p hp, h.ok.cnt⟩
  refine ⟨h.sb, (ko b (Ne.symm hg.2)).trans h.box, ?_, h.si, ?_, own_same h.cac fun k hk => ko k fun e => own_ne h.cac h.sec (by decide) hk (by rw [e]; rfl), h.ci, fun i p q hp hq => ⟨(h.ent i p q hp hq).1, kq (h.ent i p q hp hq).2⟩, hok⟩
  · show World.ownsRow _ 0 _ 1 _ (M.secs.set s l).length _
    rw [List.length_set]
    have h2 := h.sec
    rw [← hn] at h2 ⊢
    exact own_set h2 v
  · intro i v' l' hx hm
    have hm : (M.secs.set s l)[i]? = some l' := hm
    have hxl := h.xl
    by_cases e : s = i
    · subst e
      rw [List.getElem?_set_self (by omega)] at hx hm
      cases hx
      cases hm
      exact kq hv
    · rw [List.getElem?_set_ne e] at hx hm
      exact kq (h.con i v' l' hx hm)
/-- The cache is emptied. -/
theorem DK.drop (h : DK S w b M vs vc xs ps) : DK S (w.setCell ⟨b, 2, none⟩ (.slice none 0 0)) b { M with cache := [] } vs (.slice none 0 0) xs [] := by
  have ko : ∀ k, k ≠ b → (w.setCell ⟨b, 2, none⟩ (.slice none 0 0)).heap[k]? = w.heap[k]? := fun k hk => set_blk (Ne.symm hk)
  refine ⟨h.sb, Go.Proofs.Yteceljhhhbmemaa.blk_setCell (k := 2) h.box, own_same h.sec fun k hk => ko k (h.si k hk).2, h.si, fun i v l hx hm => ((h.con i v l hx hm).keep (keeps_set w b 2 _ fun hk => hk.2.1 rfl)).mono fun k hk => ⟨hk.1, hk.2.1, hk.2.2.1, by simp [Value.ownBlock]⟩, World.ownsRow_nil _ _ _ _, fun k hk => by simp [Value.ownBlock] at hk, fun i p q hp => by simp at hp, ⟨h.ok.sz, h.ok.secs, h.ok.con, fun p hp => by simp at hp, h.ok.cnt⟩⟩
end
end Rf
end Go.Proofs.Yteceljhhhbmemaa

/- The reference's disk: Content, Read, Write. Bounds on sizes alone. -/
namespace Go.Proofs.Yteceljhhhbmemaa
open Go.RowKit
set_option maxRecDepth 100000
set_option maxHeartbeats 3200000

theorem lookF_len {c : List (Nat × List Int)} {sz s : Nat} (hc : ∀ p ∈ c, p.2.length = sz) : ∀ k l, lookF c s k = some l → l.length = sz
  | 0, l, h => by cases h
  | k + 1, l, h => by
    rw [lookF] at h
    split at h
    · rename_i p hp
      split at h
      · cases h; exact hc p (List.mem_of_getElem? hp)
      · exact lookF_len hc k l h
    · exact lookF_len hc k l h
theorem DM.Ok.content_len {M : DM} (h : M.Ok) {s : Nat} (hs : s < M.secs.length) : (M.content s).length = M.sz := by
  unfold DM.content
  cases e : lookF M.cache s M.cache.length with
  | some l => exact lookF_len (fun p hp => (h.ent p hp).2) _ l e
  | none =>
    show (M.secs.getD s []).length = M.sz
    rw [List.getD_eq_getElem?_getD, List.getElem?_eq_getElem hs]
    exact h.con _ (List.getElem_mem hs)
namespace Rf
section
variable (S : Nat → Prop) (w : World) (b : Nat) (M : DM) (vs vc : Value) (xs : List Value) (ps : List PV)
theorem content_any (s : Nat) (hs : s < M.secs.length) (hc : M.cache.length ≤ 1000000) (h : DK S w b M vs vc xs ps) : Calls Try.prog 34 #[.pointer (some ⟨b, 0, none⟩), .int .i64 s] w fun e w' => ∃ v, e = .returned v ∧ CR (Qt S b vs vc) w v (M.content s) ∧ w' = w := by
  obtain ⟨aS, cs, rfl⟩ := own_shape h.sec
  obtain ⟨aC, cc, rfl⟩ := own_shape h.cac
  obtain ⟨c0, c1, c2, c3, c4⟩ := h.cells
  have hpl := h.pl
  have hxl := h.xl
  obtain ⟨m, hm⟩ : ∃ m, m = M.cache.length := ⟨_, rfl⟩
  have HPC := hid_of h.prd
  obtain ⟨vx, hvx⟩ : ∃ vx, xs[s]? = some vx := ⟨_, List.getElem?_eq_getElem (by omega)⟩
  obtain ⟨gs, os, rfl, cx⟩ := rd_at h.rd hvx
  have hsc := (rd_cut h.rd)
  have HX : Hid (CR (Qt S b (.slice (some ⟨gs, os, none⟩) M.secs.length cs) (.slice aC M.cache.length cc)) w vx (M.secs.getD s [])) := hid_of (h.con s vx _ hvx (by rw [List.getD_eq_getElem?_getD, List.getElem?_eq_getElem hs]; rfl))
  have HE := hid_of (fun i p q => h.ent i p q)
  have HP := hid_of hpl
  have hs9 := h.ok.secs
  have dm : IntKind.i64.wrap ((m : Int) - 1) = (m : Int) - 1 := IntWalk.i64_in _ (by omega)
  have hcc := h.prd.cut.2
  have HM := hid_of hm
  rw [← hm] at c2 HPC HX HE HP hcc ⊢
  have hLK : ∀ q, DM.content M s = q → True := fun _ _ => trivial
  have HC : Hid (M.content s = (lookF M.cache s m).getD (M.secs.getD s [])) := hid_of (by rw [DM.content, hm])
  obtain ⟨n, hn⟩ : ∃ n, n = M.secs.length := ⟨_, rfl⟩
  rw [← hn] at c1 HX HE hs9 hs hsc ⊢
  clear h hm hpl hxl hvx hLK hn
  go_enter Try.func34, Try.ntmps34
  go_wp2
  go_loopw [4, 5] (fun rv iv wr => rv = .slice none 0 0 ∧ wr = w ∧ ∃ k, k ≤ m ∧ iv = .int .i64 ((k : Int) - 1) ∧ Hid (lookF M.cache s m = lookF M.cache s k)) (fun _ iv _ => (intOf iv + 1).toNat)
  case atStart => exact ⟨rfl, rfl, m, Nat.le_refl _, rfl, hid_of rfl⟩
  case round =>
    obtain ⟨rfl, rfl, k, hk, rfl, hl⟩ := hrel
    rcases k with _ | j
    · have HF : Hid (M.content s = M.secs.getD s []) := hid_of (by rw [HC.out, hl.out]; rfl)
      have e0 : ((0 : Nat) : Int) - 1 = -1 := rfl
      rw [e0]
      go_wp2
      go_ret
      exact ⟨vx, rfl, by rw [HF.out]; exact HX.out, rfl⟩
    · have ej : ((j + 1 : Nat) : Int) - 1 = (j : Int) := by omega
      rw [ej]
      obtain ⟨p, hp⟩ : ∃ p, ps[j]? = some p := ⟨_, List.getElem?_eq_getElem (by have := HP.out; omega)⟩
      obtain ⟨q, hq⟩ : ∃ q, M.cache[j]? = some q := ⟨_, List.getElem?_eq_getElem (by have := HM.out; omega)⟩
      obtain ⟨gc, oc, rfl, k0, k1⟩ := HPC.out.get hp
      obtain ⟨r1, r2⟩ := HE.out j p q hp hq
      rw [r1] at k0
      have dge : decide ((j : Int) ≥ 0) = true := by simp
      have dw : IntKind.i64.wrap ((j : Int) - 1) = (j : Int) - 1 := IntWalk.i64_in _ (by omega)
      have hjm : j < m := by omega
      by_cases he : q.1 = s
      · have dq : ((q.1 : Int) == (s : Int)) = true := by simp [he]
        have HF : Hid (M.content s = q.2) := hid_of (by rw [HC.out, hl.out, lookF, hq]; simp [he])
        have HR := hid_of r2
        clear r2 he
        go_wp2
        go_ret
        exact ⟨p.2, rfl, by rw [HF.out]; exact HR.out, rfl⟩
      · have dq : ((q.1 : Int) == (s : Int)) = false := by simp; omega
        have HF : Hid (lookF M.cache s m = lookF M.cache s j) := hid_of (by rw [hl.out, lookF, hq]; simp [he])
        clear r2 he
        go_wp2
        go_roundw
        case rel => exact ⟨by first | rfl | trivial, by first | rfl | trivial, j, by omega, by first | rfl | rw [dw], HF⟩
        case measure => first | (simp [intOf]; done) | (simp [intOf]; omega)
end
end Rf
end Go.Proofs.Yteceljhhhbmemaa

/- The reference's disk: Read and Write. Bounds on sizes alone. -/
namespace Go.Proofs.Yteceljhhhbmemaa
open Go.RowKit
set_option maxRecDepth 100000
set_option maxHeartbeats 3200000

theorem fits_at {M : DM} {s : Int} (h : M.fits s = true) : ∃ n : Nat, s = n ∧ n < M.secs.length ∧ s.toNat = n := by
  simp only [DM.fits, decide_eq_true_eq] at h
  exact ⟨s.toNat, by omega, by omega, rfl⟩
theorem fits_no {M : DM} {s : Int} (h : M.fits s = false) : s < 0 ∨ (M.secs.length : Int) ≤ s := by
  simp only [DM.fits, decide_eq_false_iff_not] at h
  omega
/-- What is new between two worlds, and S. -/
abbrev Nw (S : Nat → Prop) (w w' : World) : Nat → Prop := fun k => S k ∨ (w.heap.size ≤ k ∧ k < w'.heap.size)
/-- What Read gives. -/
def RdQ (l : List Int) (err : Int) (w : World) (e : Ending) (w' : World) : Prop := ∃ x n c, e = .returned (.tuple #[.slice x n c, .int .i64 err]) ∧ Rd w' (.slice x n c) (by8 l) ∧ Below w.heap.size w w'
theorem src_by8 {W : World} {v : Value} {l : List Int} (h : Rd W v (by8 l)) : Src Try.prog 1 32 v l.length (by8 l) W := by
  have h1 := h.srcs u8E (by8_cells l)
  rwa [by8_length] at h1
theorem src_rw (W : World) (u v : Value) (hu : u.oneCell' = true) (hv : v.oneCell' = true) : Src Try.prog 2 40 (.slice (some ⟨W.heap.size, 0, none⟩) 1 1) 1 (prs [(u, v)]) (W.alloc (.cells #[u, v] 68)) :=
  prd_new.src rwL2 (by intro x hx; simp [prs] at hx; rcases hx with rfl | rfl <;> assumption)
/-- A copy of bytes has been made. -/
theorem Rf.DK.fresh {S : Nat → Prop} {w1 : World} {b : Nat} {M : DM} {vs vc : Value} {xs : List Value} {ps : List PV} (h : Rf.DK S w1 b M vs vc xs ps) {l : List Int} (hl : l.length ≤ 140737488355328) {ao : Option Addr} {cap : Nat} {w5 : World} (ga : GA w1.heap.size 5 1 (w1.alloc (.cells #[] 5)).drew w5 (.slice (some ⟨w1.heap.size, 0, none⟩) 0 0) (.slice ao (0 + l.length) cap) (0 + l.length) ([] ++ by8 l)) :
    Rf.DK (Nw S w1 w5) w5 b M vs vc xs ps ∧ CR (Qt (Nw S w1 w5) b vs vc) w5 (.slice ao l.length cap) l ∧ Kept S w1 w5 := by
  have hb : Below w1.heap.size w1 w5 := (bel_alloc w1 (.cells #[] 5)).drew.trans (ga_bel ga (ow_empty 5 w1).own.drew (by simp))
  have hown := ga.own
  rw [Nat.zero_add, List.nil_append] at hown
  have hrd : Rd w5 (.slice ao l.length cap) (by8 l) := (show Ow 5 0 w5 w5 (.slice ao l.length cap) (by8 l) from ⟨Nat.zero_le _, Below.refl _ _, by
    have e := hown
    rw [← by8_length l] at e
    rw [by8_length] at e ⊢
    rcases e.2 with h2 | ⟨g, c, cur, q1, q2, q3⟩
    · exact ⟨e.1, .inl h2⟩
    · exact ⟨e.1, .inr ⟨g, c, cur, q1, Nat.zero_le _, q3⟩⟩⟩).rd (by rw [by8_length]; exact hl)
  refine ⟨(h.keep ⟨hb.size, fun k _ hl => hb.block k hl⟩).mono fun k hk => Or.inl hk, ⟨hrd, fun _ a n c e => ?_⟩, Kept.ofBelow hb⟩
  have hlt := hown.lt a.block (by rw [e]; rfl)
  refine ⟨Or.inr hlt, by have := h.blt; omega, fun e2 => ?_, fun e2 => ?_⟩
  · have := (h.sec.lt _ e2).2; omega
  · have := (h.cac.lt _ e2).2; omega
namespace Rf
section
variable (S : Nat → Prop) (w : World) (b : Nat) (M : DM) (vs vc : Value) (xs : List Value) (ps : List PV)
theorem read_any (s : Int) (hs : R64 s) (hc : M.cache.length ≤ 1000000) (h : DK S w b M vs vc xs ps) : Calls Try.prog 20 #[.pointer (some ⟨b, 0, none⟩), .int .i64 s] w (RdQ (readF M s).1 (readF M s).2 w) := by
  obtain ⟨aS, cs, rfl⟩ := own_shape h.sec
  obtain ⟨c0, c1, c2, c3, c4⟩ := h.cells
  obtain ⟨n, hn⟩ : ∃ n, n = M.secs.length := ⟨_, rfl⟩
  by_cases hf : M.fits s = false
  · have HE : Hid (readF M s = ([], 1)) := hid_of (by rw [readF, if_pos hf])
    rw [HE.out]
    rw [← hn] at c1
    have hno := fits_no hf
    rw [← hn] at hno
    clear h hf hn
    by_cases h0 : s < 0
    · have d0 : decide (s < 0) = true := by simpa using h0
      clear hno h0
      go_enter Try.func20, Try.ntmps20
      go_wp2
      go_ret2
      exact ⟨none, 0, 0, rfl, ⟨none, 0, rfl, Nat.le_refl _, by omega, fun h => by simp [by8] at h⟩, Below.refl _ _⟩
    · have d0 : decide (s < 0) = false := by simpa using h0
      have d1 : decide (s ≥ (n : Int)) = true := by simp; omega
      have d2 : decide ((n : Int) ≤ s) = true := by simp; omega
      clear hno h0
      go_enter Try.func20, Try.ntmps20
      go_wp2
      go_ret2
      exact ⟨none, 0, 0, rfl, ⟨none, 0, rfl, Nat.le_refl _, by omega, fun h => by simp [by8] at h⟩, Below.refl _ _⟩
  · obtain ⟨k, rfl, hk, hkn⟩ := fits_at (by simpa using hf)
    have d0 : decide ((k : Int) < 0) = false := decide_eq_false (by omega)
    have d1 : decide ((k : Int) ≥ (n : Int)) = false := by simp; omega
    have d2 : decide ((n : Int) ≤ (k : Int)) = false := by simp; omega
    have d3 : decide (n ≤ k) = false := by simp; omega
    by_cases ho : M.off = true
    · have HE : Hid (readF M k = ([], 8)) := hid_of (by rw [readF, if_neg hf, if_pos ho])
      rw [HE.out]
      rw [← hn] at c1
      rw [ho] at c3
      clear h hf hn hk ho
      go_enter Try.func20, Try.ntmps20
      go_wp2
      go_ret2
      exact ⟨none, 0, 0, rfl, ⟨none, 0, rfl, Nat.le_refl _, by omega, fun h => by simp [by8] at h⟩, Below.refl _ _⟩
    · have ho' : M.off = false := by simpa using ho
      have HE : Hid (readF M k = (M.content k, 0)) := hid_of (by rw [readF, if_neg hf, if_neg ho, hkn])
      rw [HE.out]
      have HL : Hid ((M.content k).length ≤ 4096) := hid_of (by rw [h.ok.content_len hk]; exact h.ok.sz)
      obtain ⟨W, hW⟩ : ∃ W, W = w.alloc (.cells #[] 5) := ⟨_, rfl⟩
      have CC := hid_of (fun (X : World) (hX : Below w.heap.size w X) => content_any S X b M _ vc xs ps k hk hc (h.keep ⟨hX.size, fun q _ hl => hX.block q hl⟩))
      rw [← hn] at c1 CC
      rw [ho'] at c3
      obtain ⟨L, hL⟩ : ∃ L, L = M.content k := ⟨_, rfl⟩
      rw [← hL] at CC HL ⊢
      clear h hf hn hk ho ho' hkn hL hW
      go_enter Try.func20, Try.ntmps20
      go_wp2_with (first
        | (go_at_call 34; ((with_reducible refine (CC.out _ (bel_alloc w (.cells #[] 5))).mono ?_); (rintro e w2 ⟨v, rfl, q1, rfl⟩)); have RV := hid_of q1.1; clear q1)
        | (at_builtin; (refine wpList_app u8E rfl _ _ rfl (v := .slice (some ⟨w.heap.size, 0, none⟩) 0 0) (l := []) rfl (ow_empty 5 w) (vx := v) (m := by8 L) rfl RV.out (by8_cells L) (by have := HL.out; simp [by8_length]; omega) (by have := HL.out; simp [by8_length]; omega) ?_); intro xo1 n1 c1 w1 hn1 h1; have H1 := hid_of h1; clear hn1 h1))
      go_ret2
      have h9 := H1.out.rd (by have := HL.out; simp [by8_length]; omega)
      exact ⟨_, _, _, rfl, by simpa using h9, H1.out.bel⟩
theorem write_any (U : Nat → Prop) (s : Int) (hs : R64 s) (bo : Option Addr) (bn bc : Nat) (l : List Int) (hc : M.cache.length < 1000000) (hin : CR U w (.slice bo bn bc) l) (hU : ∀ k, U k → ¬ S k) (h : DK S w b M vs vc xs ps) :
    Calls Try.prog 28 #[.pointer (some ⟨b, 0, none⟩), .int .i64 s, .slice bo bn bc] w fun e w' => e = .returned (.int .i64 (writeF M s l).1) ∧ DS (Nw S w w') w' b (writeF M s l).2 ∧ Kept S w w' := by
  have hkeep : DS (Nw S w w) w b M := ⟨vs, vc, xs, ps, h.mono fun k hk => Or.inl hk⟩
  obtain ⟨aS, cs, rfl⟩ := own_shape h.sec
  obtain ⟨c0, c1, c2, c3, c4⟩ := h.cells
  have hbl : bn = l.length := by have := (rd_cut hin.1).1; rwa [by8_length] at this
  subst hbl
  obtain ⟨n, hn⟩ : ∃ n, n = M.secs.length := ⟨_, rfl⟩
  have hz := h.ok.sz
  obtain ⟨z, hz2⟩ : ∃ z, z = M.sz := ⟨_, rfl⟩
  rw [← hz2] at c0
  by_cases hf : M.fits s = false
  · have HE : Hid (writeF M s l = (1, M)) := hid_of (by rw [writeF, if_pos (Or.inl hf)])
    rw [HE.out]
    rw [← hn] at c1
    have hno := fits_no hf
    rw [← hn] at hno
    have HK := hid_of hkeep
    clear h hf hn hkeep hin hz hz2
    by_cases h0 : s < 0
    · have d0 : decide (s < 0) = true := by simpa using h0
      clear hno h0
      go_enter Try.func28, Try.ntmps28
      go_wp2
      go_ret
      exact ⟨rfl, HK.out, Kept.refl _ _⟩
    · have d0 : decide (s < 0) = false := by simpa using h0
      have d1 : decide (s ≥ (n : Int)) = true := by simp; omega
      have d2 : decide ((n : Int) ≤ s) = true := by simp; omega
      clear hno h0
      go_enter Try.func28, Try.ntmps28
      go_wp2
      go_ret
      exact ⟨rfl, HK.out, Kept.refl _ _⟩
  obtain ⟨k, rfl, hk, hkn⟩ := fits_at (by simpa using hf)
  have d0 : decide ((k : Int) < 0) = false := decide_eq_false (by omega)
  have d1 : decide ((k : Int) ≥ (n : Int)) = false := by simp; omega
  have d2 : decide ((n : Int) ≤ (k : Int)) = false := by simp; omega
  have d3 : decide (n ≤ k) = false := by simp; omega
  by_cases hl : l.length = M.sz
  · have e0 : ((l.length : Int) != (z : Int)) = false := by simp; omega
    have e1 : ((l.length : Int) == (z : Int)) = true := by simp; omega
    have CS := hid_of (step_any S w b M _ vc xs ps h)
    have HKB : Hid (∀ w1, Kept (fun k => k = b) w w1 → Kept S w w1) := hid_of (fun w1 q => q.mono fun k e => by rw [e]; exact h.sb)
    by_cases hst : (stepF M).1 = false
    · have HE : Hid (writeF M k l = (8, (stepF M).2)) := hid_of (by rw [writeF, if_neg (by simp [hf, hl]), if_pos hst])
      rw [HE.out]
      rw [hst] at CS
      rw [← hn] at c1
      clear h hf hn hk hst hl hkeep hin hz hz2
      go_enter Try.func28, Try.ntmps28
      go_wp2_with (go_at_call 37; ((with_reducible refine (CS.out).mono ?_); (rintro e w1 ⟨rfl, q1, q2⟩)); have D1 := hid_of q1; have K1 := hid_of q2; clear q1 q2)
      go_ret
      exact ⟨rfl, ⟨_, _, _, _, D1.out.mono fun k hk => Or.inl hk⟩, HKB.out _ K1.out⟩
    · have hst' : (stepF M).1 = true := by simpa using hst
      obtain ⟨M1, hM1⟩ : ∃ M1, M1 = (stepF M).2 := ⟨_, rfl⟩
      obtain ⟨s1, s2, s3⟩ := stepF_same M
      rw [← hM1] at s1 s2 s3
      have HE : Hid (writeF M k l = (0, { M1 with cache := M1.cache ++ [(k, l)] })) := hid_of (by rw [writeF, if_neg (by simp [hf, hl]), if_neg hst, hM1, ← s3, hM1, hkn])
      rw [HE.out]
      rw [hst', ← hM1] at CS
      have HIN : Hid (∀ w1, Kept (fun k => k = b) w w1 → CR U w1 (.slice bo l.length bc) l) := hid_of (fun w1 q => hin.keep (keeps_kept q fun k hu e => hU k hu (by rw [e]; exact h.sb)))
      have HL : Hid (l.length ≤ 4096) := hid_of (by omega)
      have HF : Hid (k < M1.secs.length ∧ l.length = M1.sz ∧ M1.cache.length < 1000000) := hid_of (by rw [s2, s1, s3]; exact ⟨hk, hl, hc⟩)
      rw [← hn] at c1
      have HU := hid_of hU
      clear h hf hn hk hst hst' hl hkeep hin hz hz2 hM1 s1 s2 s3 hc hU
      go_enter Try.func28, Try.ntmps28
      go_wp2_with (go_at_call 37; ((with_reducible refine (CS.out).mono ?_); (rintro e w1 ⟨rfl, q1, q2⟩)); have D1 := hid_of q1; have K1 := hid_of q2; clear q1 q2)
      obtain ⟨aC, cc, rfl⟩ := own_shape D1.out.cac
      obtain ⟨m, hm⟩ : ∃ m, m = M1.cache.length := ⟨_, rfl⟩
      have HM := hid_of hm
      have hm6 : m < 1000000 := by have := HF.out; omega
      obtain ⟨y0, y1, y2, y3, y4⟩ := D1.out.cells
      rw [← hm] at y2 D1
      clear hm
      have D2 := hid_of (D1.out.keep (w' := w1.drew) ⟨Nat.le_refl _, fun _ _ _ => rfl⟩)
      have RB1 := hid_of ((HIN.out w1 K1.out).1)
      have D3 := hid_of (D1.out.keep (w' := (w1.alloc (.cells #[] 5)).drew) ⟨by simp, fun k _ hl => (bel_alloc w1 _).block k hl⟩)
      have OW3 : Hid ((w1.alloc (.cells #[] 5)).drew.ownsRow w1.heap.size 5 1 (.slice (some ⟨w1.heap.size, 0, none⟩) 0 0) 0 []) := hid_of ((ow_empty 5 w1).own.drew)
      have RB3 : Hid (Rd (w1.alloc (.cells #[] 5)).drew (.slice bo l.length bc) (by8 l)) := hid_of (RB1.out.at (bel_alloc w1 (.cells #[] 5)).drew)
      obtain ⟨x0, x1, x2, x3, x4⟩ := D3.out.cells
      obtain ⟨p0, p1, p2, p3, p4⟩ := D2.out.cells
      have HN5 := hid_of (fun ao5 cap5 w5 => D1.out.fresh (l := l) (by have := HL.out; omega) (ao := ao5) (cap := cap5) (w5 := w5))
      have HP : Hid (∀ w5 ao5 cap5 ao cap w7, DK (Nw S w1 w5) (w5.alloc (.cells #[.int .i64 k, .slice ao5 l.length cap5] 68)) b M1 (.slice aS M.secs.length cs) (.slice aC m cc) xs ps → CR (Qt (Nw S w1 w5) b (.slice aS M.secs.length cs) (.slice aC m cc)) (w5.alloc (.cells #[.int .i64 k, .slice ao5 l.length cap5] 68)) (.slice ao5 l.length cap5) l → GA 0 68 2 (w5.alloc (.cells #[.int .i64 k, .slice ao5 l.length cap5] 68)) w7 (.slice aC m cc) (.slice ao (m + 1) cap) (m + 1) (prs ps ++ prs [(.int .i64 k, .slice ao5 l.length cap5)]) → _) := hid_of (fun w5 ao5 cap5 ao cap w7 d n ga => by
        have h9 := d.push (s := k) (l := l) HF.out.1 HF.out.2.1 n (ao := ao) (cap := cap) (w4 := w7)
        rw [← HM.out] at h9
        exact h9 ga)
      go_region_law (first
        | (refine step_gen 32 5 (.int .u8 0) 1 1 u8E.und u8E.info u8E.one (by decide) (by kernel_rfl) (.tmp 36) (.tmp 37) (by kernel_rfl) (B := w1.heap.size) (v := .slice (some ⟨w1.heap.size, 0, none⟩) 0 0) (l := []) (by kernel_rfl) OW3.out (by simp) (vx := .slice bo l.length bc) (by kernel_rfl) (src_by8 RB3.out) (by have := HL.out; omega) (by have := HL.out; omega) ?_; intro ao5 cap5 w5 ga; obtain ⟨dt, nt⟩ := HN5.out ao5 cap5 w5 ga; obtain ⟨q0, q1, q2, q3, q4⟩ := DK.cells dt; have D6 := hid_of (DK.keep dt (keeps_alloc _ w5 (.cells #[.int .i64 k, .slice ao5 l.length cap5] 68))); have N6 := hid_of (nt.1.keep (keeps_alloc _ w5 (.cells #[.int .i64 k, .slice ao5 l.length cap5] 68))); have K5 := hid_of nt.2; clear dt nt ga; have OC6 := hid_of (show (w5.alloc (.cells #[.int .i64 k, .slice ao5 l.length cap5] 68)).ownsRow 0 68 2 (.slice aC m cc) m (prs ps) from by have h9 := D6.out.cac; rwa [← HM.out] at h9); obtain ⟨z0, z1, z2, z3, z4⟩ := D6.out.cells)
        | (go_loud (refine step_gen 40 68 (.agg #[.int .i64 0, .slice none 0 0]) 32 2 rwL2.und rwL2.info rwL2.two (by decide) (by kernel_rfl) (.tmp 34) (.tmp 40) (by kernel_rfl) (B := 0) (v := .slice aC m cc) (by kernel_rfl) OC6.out (Nat.zero_le _) (vx := .slice (some ⟨w5.heap.size, 0, none⟩) 1 1) (by kernel_rfl) (src_rw w5 (.int .i64 k) (.slice ao5 l.length cap5) rfl rfl) (by omega) (by omega) ?_; intro ao cap w7 ga; have D8 := hid_of (HP.out w5 ao5 cap5 ao cap w7 D6.out N6.out ga); have X7 := hid_of (D6.out.box4 ga.gr); have f7 := fr_blk X7.out 2; have c7 := cell_blk (cs := [.int .i64 M1.sz, .slice aS M.secs.length cs, .slice aC m cc, .bool M1.off, .int .i64 M1.cnt]) (j := 2) X7.out rfl; have K7 := hid_of (((K5.out.alloc (.cells #[.int .i64 k, .slice ao5 l.length cap5] 68)).grown ga.gr (fun q hq => Or.inl (D1.out.ci q hq).1))); clear ga)))
      all_goals go_wp2
      all_goals go_ret
      all_goals exact ⟨rfl, ⟨_, _, _, _, D8.out.lt.mono fun q hq => by
        have s1 := K1.out.size
        have s5 := K5.out.size
        rcases hq.1 with h1 | h1
        · rcases h1 with h1 | h1
          · exact Or.inl h1
          · exact Or.inr ⟨by omega, hq.2⟩
        · exact Or.inr ⟨by simp at h1; omega, hq.2⟩⟩, (HKB.out _ K1.out).trans (K7.out.setCell b 2 _ (Or.inl D1.out.sb))⟩
  · have HE : Hid (writeF M k l = (1, M)) := hid_of (by rw [writeF, if_pos (Or.inr hl)])
    rw [HE.out]
    have e0 : ((l.length : Int) != (z : Int)) = true := by simp; omega
    have e1 : ((l.length : Int) == (z : Int)) = false := by simp; omega
    rw [← hn] at c1
    have HK := hid_of hkeep
    clear h hf hn hk hl hkeep hin hz hz2
    go_enter Try.func28, Try.ntmps28
    go_wp2
    go_ret
    exact ⟨rfl, HK.out, Kept.refl _ _⟩
end
end Rf
end Go.Proofs.Yteceljhhhbmemaa

/- The reference's disk: Sync and Crash. Bounds on sizes alone. -/
namespace Go.Proofs.Yteceljhhhbmemaa
open Go.RowKit
set_option maxRecDepth 100000
set_option maxHeartbeats 3200000
namespace Rf
section
variable (S : Nat → Prop) (w : World) (b : Nat) (M : DM) (vs vc : Value) (xs : List Value) (ps : List PV)
theorem sync_any (hc : M.cache.length ≤ 1000000) (h : DK S w b M vs vc xs ps) : Calls Try.prog 29 #[.pointer (some ⟨b, 0, none⟩)] w fun e w' => e = .returned (.int .i64 (syncF M).1) ∧ DS S w' b (syncF M).2 ∧ Kept S w w' := by
  have CS := hid_of (step_any S w b M vs vc xs ps h)
  have HKB : Hid (∀ w1, Kept (fun k => k = b) w w1 → Kept S w w1) := hid_of (fun w1 q => q.mono fun k e => by rw [e]; exact h.sb)
  by_cases hst : (stepF M).1 = false
  · have HE : Hid (syncF M = (8, (stepF M).2)) := hid_of (by rw [syncF, if_pos hst])
    rw [HE.out]
    rw [hst] at CS
    clear h hst
    go_enter Try.func29, Try.ntmps29
    go_wp2_with (go_at_call 37; ((with_reducible refine (CS.out).mono ?_); (rintro e w1 ⟨rfl, q1, q2⟩)); have D1 := hid_of q1; have K1 := hid_of q2; clear q1 q2)
    go_ret
    exact ⟨rfl, ⟨_, _, _, _, D1.out⟩, HKB.out _ K1.out⟩
  · have hst' : (stepF M).1 = true := by simpa using hst
    obtain ⟨M1, hM1⟩ : ∃ M1, M1 = (stepF M).2 := ⟨_, rfl⟩
    obtain ⟨s1, s2, s3⟩ := stepF_same M
    rw [← hM1] at s1 s2 s3
    have HE : Hid (syncF M = (0, { M1 with secs := putF M1.secs M1.cache, cache := [] })) := hid_of (by rw [syncF, if_neg hst, ← hM1, s2, s3])
    rw [HE.out]
    rw [hst', ← hM1] at CS
    obtain ⟨m, hm⟩ : ∃ m, m = M1.cache.length := ⟨_, rfl⟩
    obtain ⟨n, hn⟩ : ∃ n, n = M1.secs.length := ⟨_, rfl⟩
    have HM := hid_of hm
    have HN := hid_of hn
    have hm6 : m ≤ 1000000 := by rw [hm, s3]; exact hc
    clear h hst hst' hM1 s1 s2 s3 hc hm hn
    go_enter Try.func29, Try.ntmps29
    go_wp2_with (go_at_call 37; ((with_reducible refine (CS.out).mono ?_); (rintro e w1 ⟨rfl, q1, q2⟩)); have D1 := hid_of q1; have K1 := hid_of q2; clear q1 q2)
    obtain ⟨aS, cs, rfl⟩ := own_shape D1.out.sec
    obtain ⟨aC, cc, rfl⟩ := own_shape D1.out.cac
    rw [← HM.out, ← HN.out] at D1
    have hsc := rd_cut D1.out.rd
    have hcc := D1.out.prd.cut.2
    have HPL := hid_of D1.out.pl
    have hn9 : n ≤ 65536 := by have := D1.out.ok.secs; have := HN.out; omega
    have hncs := hsc.2
    clear hsc
    have HQ := hid_of (fun j q (hq : M1.cache[j]? = some q) => D1.out.ok.ent q (List.mem_of_getElem? hq))
    go_loopw [3] (fun iv wr => ∃ (j : Nat) (xr : List Value), j ≤ m ∧ iv = .int .i64 j ∧ Hid (DK S wr b { M1 with secs := putF M1.secs (M1.cache.take j) } (.slice aS n cs) (.slice aC m cc) xr ps) ∧ Hid (Kept S w wr)) (fun iv _ => m - (intOf iv).toNat)
    case atStart => exact ⟨0, xs, Nat.zero_le _, rfl, hid_of D1.out, hid_of (HKB.out _ K1.out)⟩
    case round =>
      obtain ⟨j, xr, hj, rfl, hk, hkk⟩ := hrel
      obtain ⟨y0, y1, y2, y3, y4⟩ := hk.out.cells
      by_cases hlt : j < m
      · have hdd : decide (j < m) = true := by simp; omega
        obtain ⟨p, hp⟩ : ∃ p, ps[j]? = some p := ⟨_, List.getElem?_eq_getElem (by have := HPL.out; have := HM.out; omega)⟩
        obtain ⟨q, hq⟩ : ∃ q, M1.cache[j]? = some q := ⟨_, List.getElem?_eq_getElem (by have := HM.out; omega)⟩
        obtain ⟨hq1, hq2⟩ := HQ.out j q hq
        rw [← HN.out] at hq1
        obtain ⟨r1, r2⟩ := hk.out.ent j p q hp hq
        have hlen : (putF M1.secs (M1.cache.take j)).length = n := by rw [putF_len, HN.out]
        obtain ⟨gs, rfl, hgs, hfr⟩ := own_addr (show wr.ownsRow 0 32 1 (.slice aS n cs) n xr from by have h9 := hk.out.sec; rw [show ({ M1 with secs := putF M1.secs (M1.cache.take j) } : DM).secs.length = n from hlen] at h9; exact h9) (by omega)
        have J := hid_of (hk.out.drew)
        have HST : Hid (DK S (wr.drew.setCell ⟨gs, q.1, none⟩ p.2) b { M1 with secs := putF M1.secs (M1.cache.take (j + 1)) } (.slice (some ⟨gs, 0, none⟩) n cs) (.slice aC m cc) (xr.set q.1 p.2) ps) := hid_of (by
          have h9 := J.out.store (s := q.1) (v := p.2) (l := q.2) (by show q.1 < (putF M1.secs (M1.cache.take j)).length; omega) hq2 (r2.keep ⟨Nat.le_refl _, fun _ _ _ => rfl⟩)
          rw [putF_take _ _ _ _ hq]
          exact h9)
        have HKS : Hid (Kept S w (wr.drew.setCell ⟨gs, q.1, none⟩ p.2)) := hid_of (hkk.out.drew.setCell gs q.1 _ (Or.inl (J.out.si gs rfl).1))
        obtain ⟨gc, oc, rfl, k0, k1⟩ := J.out.prd.get hp
        rw [r1] at k0
        obtain ⟨x0, x1, x2, x3, x4⟩ := J.out.cells
        obtain ⟨vo, hvo⟩ : ∃ vo, xr[q.1]? = some vo := ⟨_, List.getElem?_eq_getElem (by rw [J.out.xl]; show q.1 < (putF M1.secs (M1.cache.take j)).length; omega)⟩
        obtain ⟨_, _, e9, k9⟩ := rd_at J.out.rd hvo
        cases e9
        rw [Nat.zero_add] at k9
        have hf9 : wr.drew.frozen? ⟨gs, q.1, none⟩ = false := hfr q.1
        obtain ⟨ap, cp, ep, _⟩ := r2.1
        rw [ep] at k1 HST HKS
        have hq1i : (q.1 : Int) < (n : Int) := by omega
        clear r1 r2 hlen hfr hq2 hp hq hvo
        go_wp2
        go_still_tail 21, (by kernel_rfl)
        change wpList _ _ _ _ _ wr.drew
        generalize wr.drew = w2 at *
        go_wp2
        go_roundw
        case rel => exact ⟨j + 1, _, by omega, by go_num, HST, HKS⟩
        case measure => simp [intOf]; omega
      · have hdd : decide (j < m) = false := by simp; omega
        obtain rfl : m = j := by omega
        have HF : Hid (DK S (wr.setCell ⟨b, 2, none⟩ (.slice none 0 0)) b { M1 with secs := putF M1.secs M1.cache, cache := [] } (.slice aS n cs) (.slice none 0 0) xr []) := hid_of (by
          have h9 := hk.out.drop
          rw [show M1.cache.take m = M1.cache from List.take_of_length_le (by have := HM.out; omega)] at h9
          exact h9)
        have HKS := hid_of (hkk.out.setCell b 2 (.slice none 0 0) (Or.inl hk.out.sb))
        have f2 := hk.out.free 2
        go_wp2
        go_ret
        exact ⟨rfl, ⟨_, _, _, _, HF.out⟩, HKS.out⟩
theorem keepF_step {S : List (List Int)} {c : List (Nat × List Int)} {keep : List Bool} {j : Nat} {q : Nat × List Int} (hq : c[j]? = some q) : (keep[j]? = some true → keepF S c keep (j + 1) = (keepF S c keep j).set q.1 q.2) ∧ (keep[j]? = some false → keepF S c keep (j + 1) = keepF S c keep j) :=
  ⟨fun h => by rw [keepF, hq, h], fun h => by rw [keepF, hq, h]⟩
theorem crash_any (U : Nat → Prop) (ko : Option Addr) (kn kc : Nat) (keep : List Bool) (hc : M.cache.length ≤ 1000000) (hin : Rd w (.slice ko kn kc) (bls keep) ∧ (0 < (bls keep).length → In U (.slice ko kn kc))) (hU : ∀ k, U k → ¬ S k) (h : DK S w b M vs vc xs ps) :
    Calls Try.prog 31 #[.pointer (some ⟨b, 0, none⟩), .slice ko kn kc] w fun e w' => e = .returned (.tuple #[]) ∧ DS S w' b (crashF M keep) ∧ Kept S w w' := by
  obtain ⟨aS, cs, rfl⟩ := own_shape h.sec
  obtain ⟨aC, cc, rfl⟩ := own_shape h.cac
  obtain ⟨m, hm⟩ : ∃ m, m = M.cache.length := ⟨_, rfl⟩
  obtain ⟨n, hn⟩ : ∃ n, n = M.secs.length := ⟨_, rfl⟩
  have HM := hid_of hm
  have HN := hid_of hn
  have hm6 : m ≤ 1000000 := by rw [hm]; exact hc
  have hkn : kn = keep.length := by have := (rd_cut hin.1).1; rwa [bls_length] at this
  subst hkn
  have hkc := (rd_cut hin.1).2
  have HIN : Hid (∀ w1, Kept S w w1 → Rd w1 (.slice ko keep.length kc) (bls keep)) := hid_of (fun w1 q => hin.1.keepN hin.2 (S := U) q.size fun k hu hl => q.block k hl (hU k hu))
  have D1 := hid_of h
  have K1 := hid_of (Kept.refl S w)
  rw [← HM.out, ← HN.out] at D1
  have hcc := h.prd.cut.2
  have HPL := hid_of h.pl
  have hn9 : n ≤ 65536 := by have := h.ok.secs; omega
  have hncs := (rd_cut h.rd).2
  rw [← hn] at hncs
  have HQ := hid_of (fun j q (hq : M.cache[j]? = some q) => h.ok.ent q (List.mem_of_getElem? hq))
  have HK6 : Hid (keep.length ≤ 9223372036854775807) := hid_of (by omega)
  rw [← hm] at hcc
  obtain ⟨l, hl⟩ : ∃ l, l = keep.length := ⟨_, rfl⟩
  have HL := hid_of hl
  have hl9 : l ≤ 9223372036854775807 := by omega
  rw [← hl] at hkc HIN ⊢
  clear hm hn hc hin h hU hl
  go_enter Try.func31, Try.ntmps31
  go_wp2
  go_loopw [4] (fun iv wr => ∃ (j : Nat) (xr : List Value), j ≤ m ∧ j ≤ l ∧ iv = .int .i64 j ∧ Hid (DK S wr b { M with secs := keepF M.secs M.cache keep j } (.slice aS n cs) (.slice aC m cc) xr ps) ∧ Hid (Kept S w wr)) (fun iv _ => m - (intOf iv).toNat)
  case atStart => exact ⟨0, xs, Nat.zero_le _, Nat.zero_le _, rfl, hid_of D1.out, K1⟩
  case round =>
    obtain ⟨j, xr, hj, hjl, rfl, hk, hkk⟩ := hrel
    obtain ⟨y0, y1, y2, y3, y4⟩ := hk.out.cells
    by_cases hlt : j < m ∧ j < l
    · obtain ⟨hl1, hl2⟩ := hlt
      have hdd : decide (j < m) = true := by simp; omega
      have hdd2 : decide (j < l) = true := by simp; omega
      obtain ⟨p, hp⟩ : ∃ p, ps[j]? = some p := ⟨_, List.getElem?_eq_getElem (by have := HPL.out; have := HM.out; omega)⟩
      obtain ⟨q, hq⟩ : ∃ q, M.cache[j]? = some q := ⟨_, List.getElem?_eq_getElem (by have := HM.out; omega)⟩
      obtain ⟨kb, hkb⟩ : ∃ kb, keep[j]? = some kb := ⟨_, List.getElem?_eq_getElem (by have := HL.out; omega)⟩
      obtain ⟨gk, ok, rfl, kk⟩ := rd_at (HIN.out wr hkk.out) (i := j) (t := .bool kb) (by rw [bls, List.getElem?_map, hkb]; rfl)
      cases kb with
      | false =>
        have HST : Hid (DK S wr b { M with secs := keepF M.secs M.cache keep (j + 1) } (.slice aS n cs) (.slice aC m cc) xr ps) := hid_of (by rw [(keepF_step hq).2 hkb]; exact hk.out)
        clear hp hq hkb
        go_wp2
        go_roundw
        case rel => exact ⟨j + 1, _, by omega, by omega, by go_num, HST, hkk⟩
        case measure => simp [intOf]; omega
      | true =>
        obtain ⟨hq1, hq2⟩ := HQ.out j q hq
        rw [← HN.out] at hq1
        obtain ⟨r1, r2⟩ := hk.out.ent j p q hp hq
        have hlen : (keepF M.secs M.cache keep j).length = n := by rw [keepF_len, HN.out]
        obtain ⟨gs, rfl, hgs, hfr⟩ := own_addr (show wr.ownsRow 0 32 1 (.slice aS n cs) n xr from by have h9 := hk.out.sec; rw [show ({ M with secs := keepF M.secs M.cache keep j } : DM).secs.length = n from hlen] at h9; exact h9) (by omega)
        have J := hid_of (hk.out.drew)
        have HST : Hid (DK S (wr.drew.setCell ⟨gs, q.1, none⟩ p.2) b { M with secs := keepF M.secs M.cache keep (j + 1) } (.slice (some ⟨gs, 0, none⟩) n cs) (.slice aC m cc) (xr.set q.1 p.2) ps) := hid_of (by
          have h9 := J.out.store (s := q.1) (v := p.2) (l := q.2) (by show q.1 < (keepF M.secs M.cache keep j).length; omega) hq2 (r2.keep ⟨Nat.le_refl _, fun _ _ _ => rfl⟩)
          rw [(keepF_step hq).1 hkb]
          exact h9)
        have HKS : Hid (Kept S w (wr.drew.setCell ⟨gs, q.1, none⟩ p.2)) := hid_of (hkk.out.drew.setCell gs q.1 _ (Or.inl (J.out.si gs rfl).1))
        obtain ⟨gc, oc, rfl, k0, k1⟩ := J.out.prd.get hp
        rw [r1] at k0
        obtain ⟨x0, x1, x2, x3, x4⟩ := J.out.cells
        obtain ⟨vo, hvo⟩ : ∃ vo, xr[q.1]? = some vo := ⟨_, List.getElem?_eq_getElem (by rw [J.out.xl]; show q.1 < (keepF M.secs M.cache keep j).length; omega)⟩
        obtain ⟨_, _, e9, k9⟩ := rd_at J.out.rd hvo
        cases e9
        rw [Nat.zero_add] at k9
        have hf9 : wr.drew.frozen? ⟨gs, q.1, none⟩ = false := hfr q.1
        obtain ⟨ap, cp, ep, _⟩ := r2.1
        rw [ep] at k1 HST HKS
        have hq1i : (q.1 : Int) < (n : Int) := by omega
        clear r1 r2 hlen hfr hq2 hp hq hvo hkb
        go_wp2
        go_still_tail 21, (by kernel_rfl)
        change wpList _ _ _ _ _ wr.drew
        generalize wr.drew = w2 at *
        go_wp2
        go_roundw
        case rel => exact ⟨j + 1, _, by omega, by omega, by go_num, HST, HKS⟩
        case measure => simp [intOf]; omega
    · have HJ : Hid (j = min m l) := hid_of (by omega)
      have HF : Hid (DK S (((wr.setCell ⟨b, 2, none⟩ (.slice none 0 0)).setCell ⟨b, 3, none⟩ (.bool false)).setCell ⟨b, 4, none⟩ (.int .i64 (-1))) b (crashF M keep) (.slice aS n cs) (.slice none 0 0) xr []) := hid_of (by
        have h9 := hk.out.drop
        rw [show j = min M.cache.length keep.length by rw [HJ.out, HM.out, HL.out]] at h9
        have h8 := h9.set (M2 := { sz := M.sz, secs := keepF M.secs M.cache keep (min M.cache.length keep.length), cache := [], off := false, cnt := M.cnt }) 3 (.bool false) rfl rfl rfl ⟨h9.ok.sz, h9.ok.secs, h9.ok.con, h9.ok.ent, h9.ok.cnt⟩
        exact h8.set (M2 := crashF M keep) 4 (.int .i64 (-1)) rfl rfl rfl ⟨h9.ok.sz, h9.ok.secs, h9.ok.con, h9.ok.ent, by show (-1 : Int) ≤ -1 ∧ (-1 : Int) ≤ _; omega⟩)
      have HKS := hid_of (((hkk.out.setCell b 2 (.slice none 0 0) (Or.inl hk.out.sb)).setCell b 3 (.bool false) (Or.inl hk.out.sb)).setCell b 4 (.int .i64 (-1)) (Or.inl hk.out.sb))
      have H2 := hid_of hk.out.drop
      have f2 := hk.out.free 2
      have f3 := H2.out.free 3
      obtain ⟨x0, x1, x2, x3, x4⟩ := H2.out.cells
      have H3 := hid_of (H2.out.set (M2 := { sz := M.sz, secs := keepF M.secs M.cache keep j, cache := [], off := false, cnt := M.cnt }) 3 (.bool false) rfl rfl rfl ⟨H2.out.ok.sz, H2.out.ok.secs, H2.out.ok.con, H2.out.ok.ent, H2.out.ok.cnt⟩)
      have f4 := H3.out.free 4
      obtain ⟨z0, z1, z2, z3, z4⟩ := H3.out.cells
      by_cases hl1 : j < m
      · have hdd : decide (j < m) = true := by simp; omega
        have hdd2 : decide (j < l) = false := by simp; omega
        go_wp2
        go_end0
        exact ⟨rfl, ⟨_, _, _, _, HF.out⟩, HKS.out⟩
      · have hdd : decide (j < m) = false := by simp; omega
        go_wp2
        go_end0
        exact ⟨rfl, ⟨_, _, _, _, HF.out⟩, HKS.out⟩
end
end Rf
end Go.Proofs.Yteceljhhhbmemaa

/- The reference's disk: New. Bounds on sizes alone. -/
namespace Go.Proofs.Yteceljhhhbmemaa
open Go.RowKit
set_option maxRecDepth 100000
set_option maxHeartbeats 3200000
namespace Rf
section
variable {S T : Nat → Prop} {w w' : World} {b : Nat} {M : DM} {vs vc : Value} {xs : List Value} {ps : List PV}
theorem DK.box5 {w4 : World} (h : DK S w b M vs vc xs ps) (gr : w.grownBy w4 vs.ownBlock) : w4.heap[b]? = some (.cells [.int .i64 M.sz, vs, vc, .bool M.off, .int .i64 M.cnt].toArray 42 (0, 0)) :=
  (gr.block b h.blt (fun e => (h.si b e.symm).2 rfl)).trans h.box
/-- A sector more. -/
theorem DK.grow (h : DK S w b M vs vc xs ps) {v : Value} {l : List Int} (hs : M.secs.length < 65536) (hl : l.length = M.sz) (hv : CR (Qt S b vs vc) w v l) {ao : Option Addr} {cap : Nat} {w4 : World} (ga : GA 0 32 1 w w4 vs (.slice ao (M.secs.length + 1) cap) (M.secs.length + 1) (xs ++ [v])) :
    DK (fun k => S k ∨ k = w.heap.size) (w4.setCell ⟨b, 1, none⟩ (.slice ao (M.secs.length + 1) cap)) b { M with secs := M.secs ++ [l] } (.slice ao (M.secs.length + 1) cap) vc (xs ++ [v]) ps := by
  have hfr : ∀ k, (Value.slice ao (M.secs.length + 1) cap).ownBlock = some k → vs.ownBlock = some k ∨ k = w.heap.size := fun k hk => by
    rcases ga.fr with e | e
    · exact Or.inl (by rw [← e]; exact hk)
    · rw [e] at hk; exact Or.inr (Option.some.inj hk).symm
  have hlt := h.blt
  have kg : ∀ k, k < w.heap.size → vs.ownBlock ≠ some k → w4.heap[k]? = w.heap[k]? := fun k hk hn => ga.gr.block k hk (fun e => hn e.symm)
  have ko : ∀ k, k ≠ b → (w4.setCell ⟨b, 1, none⟩ (.slice ao (M.secs.length + 1) cap)).heap[k]? = w4.heap[k]? := fun k hk => set_blk (Ne.symm hk)
  have hbx : w4.heap[b]? = w.heap[b]? := kg b hlt (fun e => (h.si b e).2 rfl)
  have kq : ∀ {v' : Value} {l' : List Int}, CR (Qt S b vs vc) w v' l' → CR (Qt (fun k => S k ∨ k = w.heap.size) b (.slice ao (M.secs.length + 1) cap) vc) (w4.setCell ⟨b, 1, none⟩ (.slice ao (M.secs.length + 1) cap)) v' l' := by
    intro v' l' h'
    exact (CR.keep h'.lt ⟨by have := ga.gr.size; simp; omega, fun k hk hl => (ko k hk.1.2.1).trans (kg k hl hk.1.2.2.1)⟩).mono fun k hk => ⟨Or.inl hk.1.1, hk.1.2.1, fun e => by
      rcases hfr k e with h1 | h1
      · exact hk.1.2.2.1 h1
      · omega, hk.1.2.2.2⟩
  have hok : DM.Ok { M with secs := M.secs ++ [l] } := ⟨h.ok.sz, by show (M.secs ++ [l]).length ≤ _; simp; omega, fun x hx => by
    rcases List.mem_append.1 hx with h1 | h1
    · exact h.ok.con x h1
    · rw [List.mem_singleton.1 h1]; exact hl, fun p hp => ⟨by show p.1 < (M.secs ++ [l]).length; have := (h.ok.ent p hp).1; simp; omega, (h.ok.ent p hp).2⟩, h.ok.cnt⟩
  refine ⟨Or.inl h.sb, ?_, ?_, ?_, ?_, ?_, fun k hk => ⟨Or.inl (h.ci k hk).1, (h.ci k hk).2⟩, fun i p q hp hq => ⟨(h.ent i p q hp hq).1, kq (h.ent i p q hp hq).2⟩, hok⟩
  · exact Go.Proofs.Yteceljhhhbmemaa.blk_setCell (k := 1) (hbx.trans h.box)
  · show World.ownsRow _ 0 32 1 _ (M.secs ++ [l]).length _
    rw [List.length_append]
    refine own_same ga.own fun k hk => ko k fun e => ?_
    rcases hfr k hk with h1 | h1
    · exact (h.si k h1).2 e
    · omega
  · intro k hk
    rcases hfr k hk with h1 | h1
    · exact ⟨Or.inl (h.si k h1).1, (h.si k h1).2⟩
    · exact ⟨Or.inr h1, by omega⟩
  · intro i v' l' hx hm
    have hm : (M.secs ++ [l])[i]? = some l' := hm
    have hxl := h.xl
    by_cases e : i < xs.length
    · rw [List.getElem?_append_left e] at hx
      rw [List.getElem?_append_left (by omega)] at hm
      exact kq (h.con i v' l' hx hm)
    · rw [List.getElem?_append_right (by omega)] at hx
      rw [List.getElem?_append_right (by omega)] at hm
      have hi : i = xs.length := by have := (List.getElem?_eq_some_iff.1 hx).1; simp at this; omega
      subst hi
      rw [hxl] at hm
      simp at hx hm
      subst hx hm
      exact kq hv
  · exact own_same h.cac fun k hk => (ko k (h.ci k hk).2).trans (kg k (h.cac.lt k hk).2 fun e => own_ne h.cac h.sec (by decide) hk e)
theorem dk_start (w : World) (sz : Nat) (hz : sz ≤ 4096) : DK (fun k => w.heap.size ≤ k) (w.alloc (.cells #[.int .i64 sz, .slice none 0 0, .slice none 0 0, .bool false, .int .i64 (-1)] 42)) w.heap.size (newF 0 sz) (.slice none 0 0) (.slice none 0 0) [] [] :=
  ⟨Nat.le_refl _, heap_alloc_new w _, World.ownsRow_nil _ _ _ _, fun k hk => by simp [Value.ownBlock] at hk, fun i v l hx => by simp at hx, World.ownsRow_nil _ _ _ _, fun k hk => by simp [Value.ownBlock] at hk, fun i p q hp => by simp at hp, newF_ok 0 sz (by omega) hz⟩
end
theorem rd_made (w : World) (sz : Nat) (hz : sz ≤ 4096) : Rd (w.alloc (.cells (madeCells #[.int .u8 0] sz) 5)) (.slice (some ⟨w.heap.size, 0, none⟩) sz sz) (by8 (List.replicate sz 0)) :=
  rd_new (by simp [by8]) (by rw [← Array.toList_inj]; simp [toList_madeCells_one, by8]) (by simp [by8]; omega)
theorem src_sl (W : World) (v : Value) (hv : v.oneCell' = true) : Src Try.prog 1 39 (.slice (some ⟨W.heap.size, 0, none⟩) 1 1) 1 [v] (W.alloc (.cells #[v] 32)).drew :=
  ((rd_new (l := [v]) rfl rfl (by simp)).at (Below.refl _ _).drew).srcs slE (by intro u hu; rw [List.mem_singleton.1 hu]; exact hv)
theorem newF_snoc (j sz : Nat) : newF (j + 1) sz = { newF j sz with secs := (newF j sz).secs ++ [List.replicate sz 0] } := by
  simp only [newF, List.replicate_succ']
theorem new_any (n sz : Nat) (hn : n ≤ 65536) (hz : sz ≤ 4096) (w : World) : Calls Try.prog 14 #[.int .i64 n, .int .i64 sz] w fun e w' => e = .returned (.pointer (some ⟨w.heap.size, 0, none⟩)) ∧ DS (fun k => w.heap.size ≤ k ∧ k < w'.heap.size) w' w.heap.size (newF n sz) ∧ Below w.heap.size w w' := by
  have D0 := hid_of (dk_start w sz hz)
  have B0 := hid_of (bel_alloc w (.cells #[.int .i64 sz, .slice none 0 0, .slice none 0 0, .bool false, .int .i64 (-1)] 42))
  go_enter Try.func14, Try.ntmps14
  go_wp2
  go_loopw [6] (fun iv wr => ∃ (j : Nat) (vs vc : Value) (xs : List Value) (ps : List PV), j ≤ n ∧ iv = .int .i64 j ∧ Hid (DK (fun k => w.heap.size ≤ k) wr w.heap.size (newF j sz) vs vc xs ps) ∧ Hid (Below w.heap.size w wr)) (fun iv _ => n - (intOf iv).toNat)
  case atStart => exact ⟨0, _, _, _, _, Nat.zero_le _, rfl, D0, B0⟩
  case round =>
    obtain ⟨j, vs, vc, xs, ps, hj, rfl, hk, hb⟩ := hrel
    by_cases hlt : j < n
    · have hdd : decide (j < n) = true := by simp; omega
      obtain ⟨aS, cs, rfl⟩ := own_shape hk.out.sec
      obtain ⟨m, hm⟩ : ∃ m, m = (newF j sz).secs.length := ⟨_, rfl⟩
      have hmj : m = j := by rw [hm]; simp [newF]
      rw [← hm] at hk
      obtain ⟨y0, y1, y2, y3, y4⟩ := hk.out.cells
      obtain ⟨x0, x1, x2, x3, x4⟩ := hk.out.drew.cells
      obtain ⟨z0, z1, z2, z3, z4⟩ := (hk.out.keep (keeps_alloc _ wr (.cells (madeCells #[.int .u8 0] sz) 5))).drew.cells
      have HBL := hid_of hk.out.blt
      have hcs := (rd_cut hk.out.rd).2
      have D3 : Hid (DK (fun k => w.heap.size ≤ k) ((wr.alloc (.cells (madeCells #[.int .u8 0] sz) 5)).alloc (.cells #[.slice (some ⟨wr.heap.size, 0, none⟩) sz sz] 32)).drew w.heap.size (newF j sz) (.slice aS m cs) vc xs ps) := hid_of (((hk.out.keep (keeps_alloc _ wr _)).keep (keeps_alloc _ _ _)).drew)
      obtain ⟨u0, u1, u2, u3, u4⟩ := D3.out.cells
      have C3 : Hid (CR (Qt (fun k => w.heap.size ≤ k) w.heap.size (.slice aS m cs) vc) ((wr.alloc (.cells (madeCells #[.int .u8 0] sz) 5)).alloc (.cells #[.slice (some ⟨wr.heap.size, 0, none⟩) sz sz] 32)).drew (.slice (some ⟨wr.heap.size, 0, none⟩) sz sz) (List.replicate sz 0)) := hid_of ⟨(rd_made wr sz hz).at (bel_alloc _ _).drew, fun _ a n c e => by
        cases e
        have h1 := hk.out.blt
        exact ⟨by show w.heap.size ≤ wr.heap.size; omega, by show wr.heap.size ≠ w.heap.size; omega, fun e2 => absurd (hk.out.sec.lt _ e2).2 (Nat.lt_irrefl _), fun e2 => absurd (hk.out.cac.lt _ e2).2 (Nat.lt_irrefl _)⟩⟩
      have OC3 : Hid (((wr.alloc (.cells (madeCells #[.int .u8 0] sz) 5)).alloc (.cells #[.slice (some ⟨wr.heap.size, 0, none⟩) sz sz] 32)).drew.ownsRow 0 32 1 (.slice aS m cs) m xs) := hid_of (by have h9 := D3.out.sec; rwa [← hm] at h9)
      have HP : Hid (∀ ao cap w7, GA 0 32 1 ((wr.alloc (.cells (madeCells #[.int .u8 0] sz) 5)).alloc (.cells #[.slice (some ⟨wr.heap.size, 0, none⟩) sz sz] 32)).drew w7 (.slice aS m cs) (.slice ao (m + 1) cap) (m + 1) (xs ++ [.slice (some ⟨wr.heap.size, 0, none⟩) sz sz]) → DK (fun k => w.heap.size ≤ k) (w7.setCell ⟨w.heap.size, 1, none⟩ (.slice ao (m + 1) cap)) w.heap.size (newF (j + 1) sz) (.slice ao (m + 1) cap) vc (xs ++ [.slice (some ⟨wr.heap.size, 0, none⟩) sz sz]) ps) := hid_of (fun ao cap w7 ga => by
        have h9 := D3.out.grow (v := .slice (some ⟨wr.heap.size, 0, none⟩) sz sz) (l := List.replicate sz 0) (by omega) (by simp [newF]) C3.out (ao := ao) (cap := cap) (w4 := w7)
        rw [← hm, ← newF_snoc] at h9
        exact (h9 ga).mono fun k hk => by
          rcases hk with h1 | h1
          · exact h1
          · simp at h1; have := HBL.out; omega)
      have SR3 : Hid (Src Try.prog 1 39 (.slice (some ⟨wr.heap.size + 1, 0, none⟩) 1 1) 1 [.slice (some ⟨wr.heap.size, 0, none⟩) sz sz] ((wr.alloc (.cells (madeCells #[.int .u8 0] sz) 5)).alloc (.cells #[.slice (some ⟨wr.heap.size, 0, none⟩) sz sz] 32)).drew) := hid_of (by
        have h9 := src_sl (wr.alloc (.cells (madeCells #[.int .u8 0] sz) 5)) (.slice (some ⟨wr.heap.size, 0, none⟩) sz sz) rfl
        rw [show (wr.alloc (.cells (madeCells #[.int .u8 0] sz) 5)).heap.size = wr.heap.size + 1 by simp] at h9
        exact h9)
      have B3 : Hid (Below w.heap.size w ((wr.alloc (.cells (madeCells #[.int .u8 0] sz) 5)).alloc (.cells #[.slice (some ⟨wr.heap.size, 0, none⟩) sz sz] 32)).drew) := hid_of (hb.out.trans (((bel_alloc wr (.cells (madeCells #[.int .u8 0] sz) 5)).trans ((bel_alloc (wr.alloc (.cells (madeCells #[.int .u8 0] sz) 5)) (.cells #[.slice (some ⟨wr.heap.size, 0, none⟩) sz sz] 32)).mono (by simp))).drew.mono (Nat.le_of_lt hk.out.blt)))
      have hm9 : m < 65536 := by omega
      clear hm hmj
      have MK := run_make_row' (P := Try.prog) 32 5 (.int .u8 0) 1 u8E.und u8E.info rfl .i64 .i64 sz (by omega) (by omega)
      go_wp2
      go_region_law (refine step_gen 39 32 (.slice none 0 0) 24 1 slE.und slE.info slE.one (by decide) (by kernel_rfl) (.tmp 19) (.tmp 22) (by kernel_rfl) (B := 0) (v := .slice aS m cs) (by kernel_rfl) OC3.out (Nat.zero_le _) (vx := .slice (some ⟨wr.heap.size + 1, 0, none⟩) 1 1) (by kernel_rfl) SR3.out (by omega) (by omega) ?_; intro ao cap w7 ga; have D8 := hid_of (HP.out ao cap w7 ga); have X7 := hid_of (D3.out.box5 ga.gr); have f7 := fr_blk X7.out 1; have c7 := cell_blk (cs := [.int .i64 (newF j sz).sz, .slice aS m cs, vc, .bool (newF j sz).off, .int .i64 (newF j sz).cnt]) (j := 1) X7.out rfl; have B7 : Hid (Below w.heap.size w w7) := hid_of (B3.out.trans ⟨ga.gr.os, ga.gr.tape, ga.gr.output, ga.gr.size, fun k hk => ga.gr.block k (by have := B3.out.size; omega) (fun e => by have := D3.out.si k e.symm; omega)⟩); clear ga)
      all_goals go_wp2
      all_goals go_roundw
      all_goals first
        | (exact ⟨j + 1, _, _, _, _, by omega, by go_num, D8, hid_of (B7.out.setCell (Nat.le_refl _) _)⟩)
        | (simp [intOf]; omega)
    · have hdd : decide (j < n) = false := by simp; omega
      obtain rfl : n = j := by omega
      go_wp2
      go_ret
      exact ⟨rfl, ⟨_, _, _, _, hk.out.lt⟩, hb.out⟩
end Rf
end Go.Proofs.Yteceljhhhbmemaa

/- Maps from sectors to contents: what a map of the program's disk holds. maps.Copy laid at this program. Bounds on sizes alone. -/
namespace Go.Proofs.Yteceljhhhbmemaa
open Go.RowKit Go.Maps Go.Shelf
set_option maxRecDepth 100000
set_option maxHeartbeats 1600000

def copy_ren : Go.Shelf.Ren := ⟨fun | 5 => 38 | n => n, fun | 23 => 56 | 24 => 56 | 26 => 3 | 27 => 32 | 0 => 0 | 4 => 4 | n => n, fun n => n⟩
theorem copy_lay : SlLaysX.n5 Try.prog copy_ren where
  mixed := by kernel_rfl
  f5 := ⟨"maps.Copy[map[int][]byte,map[int][]byte,int,[]byte]", by decide, Try.func38.trans (congrArg some (by kernel_rfl))⟩
  t0 := Try.underlying0
  a0 := Try.isAgg0
  z0 := Try.sizeOf0
  v0 := Try.zeroValue0
  t4 := Try.underlying4
  a4 := Try.isAgg4
  z4 := Try.sizeOf4
  v4 := Try.zeroValue4
  t23 := Try.underlying56
  a23 := Try.isAgg56
  z23 := Try.sizeOf56
  v23 := Try.zeroValue56
  t24 := Try.underlying56
  a24 := Try.isAgg56
  z24 := Try.sizeOf56
  v24 := Try.zeroValue56
  a26 := Try.isAgg3
  z26 := Try.sizeOf3
  a27 := Try.isAgg32
  z27 := Try.sizeOf32

abbrev DU := DataW Unit
theorem lawK : Keyed Try.prog 3 := int_keyed Try.underlying3
def kL (s : Nat) : Lit := .int .i64 s
theorem kL_inj {s t : Nat} (h : kL s = kL t) : s = t := by
  simp only [kL, Lit.int.injEq] at h
  omega
theorem kL_key (s : Nat) : WideAt.IsKeyLit (kL s) := trivial
theorem keyOf_kL (s : Nat) (hs : s ≤ 9223372036854775807) : keyOf Try.prog 3 (.int .i64 s) = some (kL s) := keyOf_int_mk Try.underlying3 (by simp only [Lit.wf, Bool.and_eq_true, decide_eq_true_eq]; exact ⟨by show (-9223372036854775808 : Int) ≤ _; omega, by show _ ≤ (9223372036854775807 : Int); omega⟩)
/-- How a slice in such a map reads: by its block alone. -/
def RS (sz : Nat) (v : Value) : Option (DU × List MemPlace) :=
  match v with
  | .slice none n c => if n = 0 ∧ c = 0 then some (.nil, []) else none
  | .slice (some ⟨g, o, none⟩) n c => if o = 0 ∧ n = sz ∧ c = sz then some (.lit (.int .i64 g), []) else none
  | _ => none
theorem rs_nil (sz : Nat) : RS sz (.slice none 0 0) = some (.nil, []) := rfl
theorem rs_at (sz g : Nat) : RS sz (.slice (some ⟨g, 0, none⟩) sz sz) = some (.lit (.int .i64 g), []) := by simp [RS]
theorem rs_nil_inv {sz : Nat} {v : Value} {ps : List MemPlace} (h : RS sz v = some (.nil, ps)) : v = .slice none 0 0 := by
  unfold RS at h
  split at h
  · split at h
    · rename_i h1; rw [h1.1, h1.2]
    · cases h
  · split at h
    · simp at h
    · cases h
  · cases h
theorem rs_at_inv {sz g : Nat} {v : Value} {ps : List MemPlace} (h : RS sz v = some (.lit (.int .i64 g), ps)) : v = .slice (some ⟨g, 0, none⟩) sz sz := by
  unfold RS at h
  split at h
  · split at h
    · simp at h
    · cases h
  · split at h
    · rename_i h1
      obtain ⟨rfl, rfl, rfl⟩ := h1
      simp only [Option.some.injEq, Prod.mk.injEq, DataW.lit.injEq, Lit.int.injEq, true_and] at h
      have := h.1
      simp only [Value.slice.injEq, Option.some.injEq, Addr.mk.injEq, and_true]
      omega
    · cases h
  · cases h
theorem rs_shape {sz : Nat} {v : Value} {d : DU} {ps : List MemPlace} (h : RS sz v = some (d, ps)) : v = .slice none 0 0 ∨ ∃ g, v = .slice (some ⟨g, 0, none⟩) sz sz := by
  unfold RS at h
  split at h
  · split at h
    · rename_i h1; rw [h1.1, h1.2]; exact Or.inl rfl
    · cases h
  · split at h
    · rename_i h1
      obtain ⟨rfl, rfl, rfl⟩ := h1
      exact Or.inr ⟨_, rfl⟩
    · cases h
  · cases h
/-- The map in block b holds the contents f of sectors below N, in rows of Q. -/
structure MapR (Q : Nat → Prop) (w : World) (sz N b : Nat) (D : DU) (f : Nat → Option (List Int)) : Prop where
  own : w.ownsMap Try.prog 3 (RS sz) b (Maps.size D) D
  has : ∀ s, s < N → Maps.has D (kL s) = (f s).isSome
  at' : ∀ s l v ps, s < N → f s = some l → RS sz v = some (D.atKey (kL s) .nil, ps) → CR Q w v l
  keys : ∀ k, Maps.has D k = true → ∃ s, s < N ∧ k = kL s
theorem owns_tight {w : World} {k : TypeId} {R : Value → Option (DU × List MemPlace)} {b n : Nat} {D : DU} (h : w.ownsMap Try.prog k R b n D) : w.ownsMap Try.prog k R b (Maps.size D) D := by
  obtain ⟨es, clock, h1, h2, h3, rfl⟩ := h
  exact ⟨es, clock, h1, h2, by simp [Maps.size, length_sorted], rfl⟩
theorem rise_len (N : Nat) : ∀ (es : List (Lit × DU)) (a : Nat), es.Pairwise (fun p q => p.1.before q.1 = true) → (∀ p ∈ es, ∃ s, a ≤ s ∧ s < N ∧ p.1 = kL s) → es.length ≤ N - a
  | [], _, _, _ => Nat.zero_le _
  | p :: r, a, hp, hk => by
    obtain ⟨h1, h2⟩ := List.pairwise_cons.1 hp
    obtain ⟨s, s1, s2, s3⟩ := hk p (by simp)
    have := rise_len N r (s + 1) h2 fun q hq => by
      obtain ⟨t, _, t2, t3⟩ := hk q (by simp [hq])
      have hb := h1 q hq
      rw [s3, t3] at hb
      simp only [kL, Lit.before, decide_eq_true_eq] at hb
      exact ⟨t, by omega, t2, t3⟩
    simp only [List.length_cons]
    omega
section
variable {Q Q' : Nat → Prop} {w w' : World} {sz N b : Nat} {D : DU} {f : Nat → Option (List Int)}
theorem MapR.len (h : MapR Q w sz N b D f) : Maps.size D ≤ N := by
  obtain ⟨es, rfl, h1, h2⟩ := h.own.canonK lawK
  have := rise_len N es 0 h1 fun p hp => by
    have hx : Maps.has (DataW.map es) p.1 = true := by
      rw [Maps.has_eq]
      obtain ⟨v, hv⟩ := h2 p hp
      exact List.any_eq_true.2 ⟨p, hp, WideAt.sameKey_self (lawK.key hv)⟩
    obtain ⟨s, s1, s2⟩ := h.keys p.1 hx
    exact ⟨s, Nat.zero_le _, s1, s2⟩
  rw [Maps.size_eq]
  omega
theorem MapR.blt (h : MapR Q w sz N b D f) : b < w.heap.size := h.own.lt
theorem owns_keep {n : Nat} (h : w.ownsMap Try.prog 3 (RS sz) b n D) (hb : w'.heap[b]? = w.heap[b]?) : w'.ownsMap Try.prog 3 (RS sz) b n D := by
  obtain ⟨es, clock, h1, h2⟩ := h
  exact ⟨es, clock, hb.trans h1, h2⟩
theorem MapR.keep (h : MapR Q w sz N b D f) (hb : w'.heap[b]? = w.heap[b]?) (k : Keeps Q w w') : MapR Q w' sz N b D f :=
  ⟨owns_keep h.own hb, h.has, fun s l v ps hs hf hv => (h.at' s l v ps hs hf hv).keep k, h.keys⟩
theorem MapR.mono (h : MapR Q w sz N b D f) (hq : ∀ k, Q k → Q' k) : MapR Q' w sz N b D f :=
  ⟨h.own, h.has, fun s l v ps hs hf hv => (h.at' s l v ps hs hf hv).mono hq, h.keys⟩
theorem MapR.lt (h : MapR Q w sz N b D f) : MapR (fun k => Q k ∧ k < w.heap.size) w sz N b D f :=
  ⟨h.own, h.has, fun s l v ps hs hf hv => (h.at' s l v ps hs hf hv).lt, h.keys⟩
theorem MapR.made (Q : Nat → Prop) (w : World) (sz N : Nat) : MapR Q (w.alloc (.map #[] 0)) sz N w.heap.size (.map []) (fun _ => none) :=
  ⟨World.ownsMap_made w _ _ _, fun s _ => rfl, fun s l v ps _ hf => (by cases hf), fun k hk => (by cases hk)⟩
/-- A sector is set. -/
theorem MapR.put {n : Nat} (h : MapR Q w sz N b D f) {s g : Nat} {l : List Int} (hs : s < N) (hv : CR Q w (.slice (some ⟨g, 0, none⟩) sz sz) l) (ho : w'.ownsMap Try.prog 3 (RS sz) b n (D.put (kL s) (.lit (.int .i64 g)))) (hg : w.grownBy w' (some b)) (hq : ¬ Q b) :
    MapR Q w' sz N b (D.put (kL s) (.lit (.int .i64 g))) (fun x => if x = s then some l else f x) := by
  have hm := h.own.isMap
  have kq : Keeps Q w w' := keeps_grown hg fun k hk e => hq (by cases e; exact hk)
  refine ⟨owns_tight ho, fun x hx => ?_, fun x l' v ps hx hf hr => ?_, fun k hk => ?_⟩
  · by_cases e : x = s
    · subst e
      rw [has_put_same hm (kL_key x), if_pos rfl]
      rfl
    · rw [has_put_other (fun e2 => e (kL_inj e2)), if_neg e]
      exact h.has x hx
  · by_cases e : x = s
    · subst e
      rw [atKey_put_same hm (kL_key x)] at hr
      rw [if_pos rfl] at hf
      cases hf
      rw [rs_at_inv hr]
      exact hv.keep kq
    · rw [atKey_put_other (fun e2 => e (kL_inj e2))] at hr
      rw [if_neg e] at hf
      exact (h.at' x l' v ps hx hf hr).keep kq
  · by_cases e : k = kL s
    · exact ⟨s, hs, e⟩
    · rw [has_put_other e] at hk
      exact h.keys k hk
theorem merge_has {Dd Ds : DU} (cd : CanonK (KeysOf Try.prog 3) Dd) (cs : CanonK (KeysOf Try.prog 3) Ds) (k : Lit) : Maps.has (Lib.mergeD Dd Ds) k = (Maps.has Dd k || Maps.has Ds k) := by
  obtain ⟨ed, rfl, d1, d2⟩ := cd
  obtain ⟨es, rfl, s1, s2⟩ := cs
  exact has_foldPut k es _ ⟨_, rfl⟩ fun p hp => by obtain ⟨v, hv⟩ := s2 p hp; exact lawK.key hv
theorem merge_at {Dd Ds : DU} (cd : CanonK (KeysOf Try.prog 3) Dd) (cs : CanonK (KeysOf Try.prog 3) Ds) (k : Lit) (z : DU) : (Lib.mergeD Dd Ds).atKey k z = if Maps.has Ds k = true then Ds.atKey k z else Dd.atKey k z := by
  obtain ⟨ed, rfl, d1, d2⟩ := cd
  obtain ⟨es, rfl, s1, s2⟩ := cs
  have h := atKey_foldPut k z es (.map ed) ⟨_, rfl⟩ (fun p hp => by obtain ⟨v, hv⟩ := s2 p hp; exact lawK.key hv) (apart_of_rising s1)
  refine Eq.trans h ?_
  cases hf : es.find? (fun p => p.1.sameKey k) with
  | none =>
    have h0 : Maps.has (.map es : DU) k = false := by
      rw [Maps.has_eq]
      exact List.any_eq_false.2 fun p hp => by simpa using List.find?_eq_none.1 hf p hp
    simp [h0]
  | some p =>
    have h1 : Maps.has (.map es : DU) k = true := by
      rw [Maps.has_eq]
      exact List.any_eq_true.2 ⟨p, List.mem_of_find?_eq_some hf, List.find?_some (p := fun (q : Lit × DU) => q.1.sameKey k) hf⟩
    rw [if_pos h1]
    simp only [DataW.atKey, hf]
/-- What one map holds is laid into another. -/
theorem MapR.merge {n bs : Nat} {Ds : DU} {g : Nat → Option (List Int)} (h : MapR Q w sz N b D f) (hs : MapR Q w sz N bs Ds g) (ho : w'.ownsMap Try.prog 3 (RS sz) b n (Lib.mergeD D Ds)) (hg : w.grownBy w' (some b)) (hq : ¬ Q b) :
    MapR Q w' sz N b (Lib.mergeD D Ds) (fun x => (g x).or (f x)) := by
  have cd := h.own.canonK lawK
  have cs := hs.own.canonK lawK
  have kq : Keeps Q w w' := keeps_grown hg fun k hk e => hq (by cases e; exact hk)
  refine ⟨owns_tight ho, fun x hx => ?_, fun x l v ps hx hf hr => ?_, fun k hk => ?_⟩
  · rw [merge_has cd cs, h.has x hx, hs.has x hx]
    cases g x <;> cases f x <;> rfl
  · rw [merge_at cd cs, hs.has x hx] at hr
    cases e : g x with
    | some l2 =>
      rw [e] at hf hr
      cases hf
      simp only [Option.isSome_some, if_true] at hr
      exact (hs.at' x _ v ps hx e hr).keep kq
    | none =>
      rw [e] at hf hr
      simp only [Option.isSome_none, Bool.false_eq_true, if_false] at hr
      exact (h.at' x l v ps hx (by simpa using hf) hr).keep kq
  · rw [merge_has cd cs, Bool.or_eq_true] at hk
    rcases hk with h1 | h1
    · exact h.keys k h1
    · exact hs.keys k h1
theorem MapR.congr {g : Nat → Option (List Int)} (h : MapR Q w sz N b D f) (e : ∀ s, s < N → f s = g s) : MapR Q w sz N b D g :=
  ⟨h.own, fun s hs => by rw [← e s hs]; exact h.has s hs, fun s l v ps hs hf => h.at' s l v ps hs (by rw [e s hs]; exact hf), h.keys⟩
end
end Go.Proofs.Yteceljhhhbmemaa
