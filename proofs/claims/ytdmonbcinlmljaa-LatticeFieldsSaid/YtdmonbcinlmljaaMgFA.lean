/- Texts in one: AppOwn, Row, NmChr, NmVal, NamSet, NmStr, NmSrt, LatMath, PrRow, SxRow, LatRow, LatDep, LatAll, LatFin, LatStr, LatRul. -/
import Derived.Deep.AppendSrc
import Derived.Deep.AppendLies
import Derived.WalkKit
import Derived.WalkSpells
import Derived.WalkLawsBesides
import Derived.Below
import Derived.Laws.CopyOwn
import Derived.Deep.RegionHeld3
import Derived.Deep.RegionLaw
import Derived.Deep.QuietTactic
import Derived.BigQuiet
import Derived.BigRegion
import Derived.RegionTactic
import Derived.StillTailTactics
import Derived.IntWalk
import Derived.Outline
import Derived.Lib.Hide
import Derived.OpenShut
import Derived.Deep.Draws
import Derived.Test.YtdmonbcinlmljaaProg
import Derived.RowKit
import Derived.Sort.LotA
import Derived.Sort.EncStr
import Derived.Deep.Slices
import Derived.Shelf.Abstract
set_option linter.unusedVariables false
set_option linter.unusedSimpArgs false
/- append of whatever source (a slice, a nil slice, a string) onto a slice that the call owns: the law for the walk. It asks that the sizes fit. -/
namespace Go.Proofs.Ytdmonbcinlmljaa

section
variable {P : Program} (w : World)

theorem run_append_src_own (base : Nat) (t tx ty e : TypeId) (i : TypeInfo) (z : Value) (size bytes : Nat) (ht : P.underlying t = some (.slice e)) (hi : P.info? e = some i) (hz : i.zero = some z)
    (hsize : i.size = size) (hby : i.bytes = bytes) (hzs : z.cells.size = size) (hsz : 0 < size)
    (v : Value) (n : Nat) (xs : List Value) (hown : w.ownsRow base e size v n xs) (x : Value) (m : Nat) (news : List Value) (hs : Src P size tx x m news w)
    (h63 : n + m ≤ maxLen) (hbytes : (n + m) * bytes ≤ 140737488355328) (hbase : base ≤ w.heap.size) :
    ∃ v' w', (Builtin.append_ #[t, tx] ty #[v, x]).run P w = .ok v' w' ∧ w'.ownsRow base e size v' (n + m) (xs ++ news) ∧ w.grownBy w' v.ownBlock ∧
      (v' = .slice none 0 0 ↔ v = .slice none 0 0 ∧ m = 0) ∧ (v'.ownBlock = v.ownBlock ∨ v'.ownBlock = some w.heap.size) := by
  subst hsize
  subst hby
  have hl := hs.newsLen
  have hsmall : n + m ≤ 9223372036854775807 := by simp only [maxLen] at h63; omega
  have hlen : (xs ++ news).length = (n + m) * i.size := by rw [List.length_append, hown.1, hl, Nat.add_mul]
  have grown : ∀ (old : Nat), old < n + m → ∀ (row : Option Nat),
      (w.drew.alloc (.cells ((xs ++ news).toArray ++ Builtin.zeroCells z.cells (grownCap w (n + m) old e - (n + m))) e)).ownsRow base e i.size
        (.slice (some ⟨w.heap.size, 0, none⟩) (n + m) (grownCap w (n + m) old e)) (n + m) (xs ++ news) ∧
      w.grownBy (w.drew.alloc (.cells ((xs ++ news).toArray ++ Builtin.zeroCells z.cells (grownCap w (n + m) old e - (n + m))) e)) row := by
    intro old ho row
    have hge := grownCap_ge w (n + m) old e
    have hcm : grownCap w (n + m) old e ≤ maxLen := grownCap_le_maxLen w (n + m) old e h63
    refine ⟨⟨hlen, .inr ⟨w.heap.size, _, _, rfl, hbase, heap_alloc_new w.drew _, hge, hcm, ?_, ?_⟩⟩, ⟨rfl, rfl, rfl, by simp, fun k hk _ => Go.RowKit.Below.heap_alloc w.drew _ k hk⟩⟩
    · rw [Array.size_append, List.size_toArray, size_zeroCells, hzs, hlen, ← Nat.add_mul]
      congr 1
      omega
    · rw [Array.toList_append, ← hlen]
      exact List.take_left
  rcases hown.2 with ⟨rfl, rfl⟩ | ⟨g, cap, cur, rfl, hbg, hg, hnc, hcm, hcs, htake⟩
  · have hx : xs = [] := List.eq_nil_of_length_eq_zero (by simpa using hown.1)
    subst hx
    by_cases hm : m = 0
    · subst hm
      have hn : news = [] := List.eq_nil_of_length_eq_zero (by simpa using hl)
      subst hn
      refine ⟨.slice none 0 0, w, ?_, World.ownsRow_nil w base e i.size, ⟨rfl, rfl, rfl, Nat.le_refl _, fun _ _ _ => rfl⟩, by simp, Or.inl rfl⟩
      rcases hs.kind with ⟨e', hk⟩ | hk <;> simp [Builtin.append_, run_underlying ht, run_underlying hk, sizeOf, typeInfo, hi, hs.len, hs.cells]
    · have hr := run_append_grow_src (P := P) w t tx ty e i z ht hi hz none 0 0 [] (by simp [Builtin.firstCells]) x m news hs (by omega) (by omega) (growslice_fits (by omega) hbytes)
      have hgr := grown 0 (by omega) (Value.ownBlock (.slice none 0 0))
      exact ⟨_, _, hr, hgr.1, hgr.2, by simp [hm], Or.inr rfl⟩
  · by_cases hroom : n + m ≤ cap
    · have hfit : n * i.size + news.length ≤ cur.size := by rw [hl, hcs, ← Nat.add_mul]; exact Nat.mul_le_mul_right _ hroom
      have hst := run_storeCells_at P g (n * i.size) e news 0 cur w hg (by simpa using hfit) hs.one
      simp only [Nat.add_zero] at hst
      have hr : (Builtin.append_ #[t, tx] ty #[.slice (some ⟨g, 0, none⟩) n cap, x]).run P w =
          .ok (.slice (some ⟨g, 0, none⟩) (n + m) cap) (w.setRow g (cur.toList.take (n * i.size) ++ news ++ cur.toList.drop (n * i.size + news.length)).toArray) := by
        rcases hs.kind with ⟨e', hk⟩ | hk <;> simp [Builtin.append_, run_underlying ht, run_underlying hk, sizeOf, typeInfo, hi, hs.len, hroom, hs.cells, Addr.add_lit, hst]
      refine ⟨_, _, hr, ⟨hlen, .inr ⟨g, cap, _, rfl, hbg, setRow_heap w g cur _ e _ hg, hroom, hcm, ?_, ?_⟩⟩, ⟨rfl, rfl, rfl, by simp, fun k _ hk => setRow_other w g k _ (fun e => hk (by simp [Value.ownBlock, e]))⟩, by simp, Or.inl rfl⟩
      · simp only [List.size_toArray, List.length_append, List.length_take, List.length_drop, Array.length_toList]
        omega
      · rw [htake, ← hlen]
        exact List.take_left
    · have holds : ∀ j u, xs[j]? = some u → w.drew.cell? ((⟨g, 0, none⟩ : Addr).add j) = some u := by simpa using hown.cells (g := g) rfl
      have hr := run_append_grow_src (P := P) w t tx ty e i z ht hi hz (some ⟨g, 0, none⟩) n cap xs (run_firstCells_some w.drew i.size n ⟨g, 0, none⟩ n cap xs hown.1 holds) x m news hs (by omega) (by omega) (growslice_fits (by omega) hbytes)
      have hgr := grown cap (by omega) (Value.ownBlock (.slice (some ⟨g, 0, none⟩) n cap))
      exact ⟨_, _, hr, hgr.1, hgr.2, by simp, Or.inr rfl⟩

theorem wp_append_src {o : Oper} {a : Act} {K : Act → World → Prop} {Q : Exit → Act → World → Prop} (s x : Operand) (t tx : TypeId)
    (ho : o.op = .call { callee := .builtin .append, args := #[s, x], argTypes := #[t, tx] })
    (base : Nat) (e : TypeId) (i : TypeInfo) (z : Value) (size bytes : Nat) (ht : P.underlying t = some (.slice e)) (hi : P.info? e = some i) (hz : i.zero = some z)
    (hsize : i.size = size) (hby : i.bytes = bytes) (hzs : z.cells.size = size) (hsz : 0 < size)
    (v : Value) (n : Nat) (xs : List Value) (he : a.eval s = v) (hown : w.ownsRow base e size v n xs) (y : Value) (m : Nat) (news : List Value) (hx : a.eval x = y) (hs : Src P size tx y m news w)
    (h63 : n + m ≤ maxLen) (hbytes : (n + m) * bytes ≤ 140737488355328) (hbase : base ≤ w.heap.size)
    (h : ∀ v' w', w'.ownsRow base e size v' (n + m) (xs ++ news) → w.grownBy w' v.ownBlock → (v' = .slice none 0 0 ↔ v = .slice none 0 0 ∧ m = 0) → (v'.ownBlock = v.ownBlock ∨ v'.ownBlock = some w.heap.size) → K (a.put o.dst v') w') :
    Oper.wp P o a w K Q := by
  obtain ⟨v', w', hr, h2, h3, h4, h5⟩ := run_append_src_own (P := P) w base t tx o.type e i z size bytes ht hi hz hsize hby hzs hsz v n xs hown y m news hs h63 hbytes hbase
  unfold Oper.wp execOp
  simp only [ho, resolve, invoke, builtin, Sem.run_bind, Sem.run_pure, Result.andThen_ok, List.map_toArray, List.map_cons, List.map_nil, he, hx, hr]
  exact h v' w' h2 h3 h4 h5

theorem wpList_append_src {ops : Array Oper} {rest : List Oper} {o : Oper} {a : Act} {Q : Exit → Act → World → Prop} (hgd : o.guard = none) (s x : Operand) (t tx : TypeId)
    (ho : o.op = .call { callee := .builtin .append, args := #[s, x], argTypes := #[t, tx] })
    (base : Nat) (e : TypeId) (i : TypeInfo) (z : Value) (size bytes : Nat) (ht : P.underlying t = some (.slice e)) (hi : P.info? e = some i) (hz : i.zero = some z)
    (hsize : i.size = size) (hby : i.bytes = bytes) (hzs : z.cells.size = size) (hsz : 0 < size)
    (v : Value) (n : Nat) (xs : List Value) (he : a.eval s = v) (hown : w.ownsRow base e size v n xs) (y : Value) (m : Nat) (news : List Value) (hx : a.eval x = y) (hs : Src P size tx y m news w)
    (h63 : n + m ≤ maxLen) (hbytes : (n + m) * bytes ≤ 140737488355328) (hbase : base ≤ w.heap.size)
    (h : ∀ v' w', w'.ownsRow base e size v' (n + m) (xs ++ news) → w.grownBy w' v.ownBlock → (v' = .slice none 0 0 ↔ v = .slice none 0 0 ∧ m = 0) → (v'.ownBlock = v.ownBlock ∨ v'.ownBlock = some w.heap.size) → wpList P ops Q rest (a.put o.dst v') w') :
    wpList P ops Q (o :: rest) a w :=
  wpList_plain hgd fun _ hK => wp_append_src w s x t tx ho base e i z size bytes ht hi hz hsize hby hzs hsz v n xs he hown y m news hx hs h63 hbytes hbase fun v' w' h2 h3 h4 h5 => hK _ _ (h v' w' h2 h3 h4 h5)

theorem step_append_src {ops : Array Oper} {o : Oper} {a : Act} {K : Act → World → Prop} {Q : Exit → Act → World → Prop} {E : Prop} (hgd : o.guard = none) (s x : Operand) (t tx : TypeId)
    (ho : o.op = .call { callee := .builtin .append, args := #[s, x], argTypes := #[t, tx] })
    (base : Nat) (e : TypeId) (i : TypeInfo) (z : Value) (size bytes : Nat) (ht : P.underlying t = some (.slice e)) (hi : P.info? e = some i) (hz : i.zero = some z)
    (hsize : i.size = size) (hby : i.bytes = bytes) (hzs : z.cells.size = size) (hsz : 0 < size)
    (v : Value) (n : Nat) (xs : List Value) (he : a.eval s = v) (hown : w.ownsRow base e size v n xs) (y : Value) (m : Nat) (news : List Value) (hx : a.eval x = y) (hs : Src P size tx y m news w)
    (h63 : n + m ≤ maxLen) (hbytes : (n + m) * bytes ≤ 140737488355328) (hbase : base ≤ w.heap.size)
    (h : ∀ v' w', w'.ownsRow base e size v' (n + m) (xs ++ news) → w.grownBy w' v.ownBlock → (v' = .slice none 0 0 ↔ v = .slice none 0 0 ∧ m = 0) → (v'.ownBlock = v.ownBlock ∨ v'.ownBlock = some w.heap.size) → K (a.put o.dst v') w') :
    if Region.wanted o (yielded ops a.tmps) = true then Oper.wp P o a w K Q else E := by
  have hw : Region.wanted o (yielded ops a.tmps) = true := by simp [Region.wanted, hgd]
  rw [if_pos hw]
  exact wp_append_src w s x t tx ho base e i z size bytes ht hi hz hsize hby hzs hsz v n xs he hown y m news hx hs h63 hbytes hbase h

end
end Go.Proofs.Ytdmonbcinlmljaa

/- Slices of elements of one cell: what a slice reads as, a slice of the call's own, append of the one onto the other. Bounds on sizes alone. -/
namespace Go.Proofs.Ytdmonbcinlmljaa
open Go.RowKit

theorem hid_of {p : Prop} (h : p) : Hid p := h
theorem bel_alloc (w : World) (o : Obj) : Below w.heap.size w (w.alloc o) := (Below.refl _ _).alloc (Nat.le_refl _) o
theorem bel_fst {w w' : World} {o : Obj} (h : Below (w.alloc o).heap.size (w.alloc o) w') : Below w.heap.size w w' :=
  (bel_alloc w o).trans (h.mono (by simp))

theorem bel_drewN {B : Nat} {w w' : World} (h : Below B w w') (n : Nat) : Below B w (w'.drewN n) := ⟨h.os, h.tape, h.output, h.size, h.block⟩
/-- A slice type S over an element type E of one cell. -/
structure Elem (P : Program) (S E : TypeId) (z : Value) (eb : Nat) : Prop where
  und : P.underlying S = some (.slice E)
  info : (P.info? E).map (fun i => (i.zero, i.size, i.bytes)) = some (some z, 1, eb)
  one : z.cells.size = 1

/-- The slice v reads as the cells xs. -/
def Rd (w : World) (v : Value) (xs : List Value) : Prop :=
  ∃ ao cap, v = .slice ao xs.length cap ∧ xs.length ≤ cap ∧ cap ≤ 9223372036854775807 ∧ (0 < xs.length → ∃ g o, ao = some ⟨g, o, none⟩ ∧ g < w.heap.size ∧ ∀ j u, xs[j]? = some u → w.cell? ⟨g, o + j, none⟩ = some u)
theorem Rd.later {w w' : World} {v : Value} {l : List Value} {B : Nat} (h : Rd w v l) (hb : Below B w w') (hB : w.heap.size ≤ B) : Rd w' v l := by
  obtain ⟨ao, cap, h1, h2, h3, h4⟩ := h
  refine ⟨ao, cap, h1, h2, h3, fun h0 => ?_⟩
  obtain ⟨g, o, q1, q2, q3⟩ := h4 h0
  exact ⟨g, o, q1, Nat.lt_of_lt_of_le q2 hb.size, fun j u hu => (hb.cell (p := ⟨g, o + j, none⟩) (by show g < B; omega)).trans (q3 j u hu)⟩
theorem Rd.at {w w' : World} {v : Value} {l : List Value} (h : Rd w v l) (hb : Below w.heap.size w w') : Rd w' v l := h.later hb (Nat.le_refl _)

theorem spot_none {w : World} {x : Addr} {u : Value} (h : w.cell? x = some u) : x = ⟨x.block, x.off, none⟩ := by
  obtain ⟨b, o, s⟩ := x
  cases s with
  | none => rfl
  | some s =>
    exfalso
    unfold World.cell? at h
    split at h <;> simp at h

/-- What the walk is told of a slice of integers that came in. -/
def IsRow (k : IntKind) (w : World) (a : Option Addr) (len cap : Nat) (zs : List Int) : Prop :=
  (a = none ∧ len = 0 ∧ cap = 0 ∧ zs = []) ∨
  ∃ x, a = some x ∧ len ≤ cap ∧ cap ≤ maxLen ∧ zs.length = cap ∧ (∀ i, i < zs.length → w.cell? (x.add i) = some (.int k (zs.getD i 0))) ∧ ∀ n ∈ zs, (Lit.int k n).wf = true

/-- A row of integers that came in, as a list. -/
theorem IsRow.rd {k : IntKind} {w : World} {a : Option Addr} {len cap : Nat} {zs : List Int} (h : IsRow k w a len cap zs) :
    ∃ l : List Int, l.length = len ∧ (∀ y ∈ l, (Lit.int k y).wf = true) ∧ Rd w (.slice a len cap) (l.map (Value.int k)) := by
  rcases h with ⟨rfl, rfl, rfl, rfl⟩ | ⟨x, rfl, h1, h2, h3, h4, h5⟩
  · exact ⟨[], rfl, by simp, none, 0, rfl, by simp, by omega, fun h => by simp at h⟩
  · unfold maxLen at h2
    have htl : (zs.take len).length = len := by rw [List.length_take]; omega
    refine ⟨zs.take len, htl, fun y hy => h5 y (List.mem_of_mem_take hy), some x, cap, by rw [List.length_map, htl], by rw [List.length_map]; omega, by omega, fun h0 => ?_⟩
    rw [List.length_map, htl] at h0
    have h6 := h4 0 (by omega)
    rw [show x.add 0 = x by rfl] at h6
    have hx := spot_none h6
    refine ⟨x.block, x.off, by rw [← hx], World.block_lt_of_cell? w _ h6, fun j u hu => ?_⟩
    have hj : j < len := by
      have := (List.getElem?_eq_some_iff.1 hu).1
      simp at this; omega
    have h7 := h4 j (by omega)
    rw [hx, Addr.add_mid] at h7
    rw [h7]
    simp only [List.getElem?_map, List.getElem?_take, hj, if_true] at hu
    rw [List.getElem?_eq_getElem (by omega)] at hu
    simp only [Option.map_some, Option.some.injEq] at hu
    rw [← hu]
    simp [List.getD, show j < zs.length by omega]

theorem Rd.srcs {P : Program} {S E : TypeId} {z : Value} {eb : Nat} (T : Elem P S E z eb) {w : World} {v : Value} {l : List Value} (h : Rd w v l) (h1 : ∀ u ∈ l, u.oneCell' = true) : Src P 1 S v l.length l w := by
  obtain ⟨ao, cap, rfl, h2, h3, h4⟩ := h
  cases ao with
  | none =>
    cases l with
    | nil => exact Src.ofNil _ T.und cap
    | cons x r => obtain ⟨g, o, q, _⟩ := h4 (by simp); cases q
  | some a =>
    refine Src.ofSlice _ T.und a l.length cap l (by simp) (fun j u hu => ?_) h1
    have h0 : 0 < l.length := by
      have := (List.getElem?_eq_some_iff.1 hu).1
      omega
    obtain ⟨g, o, q1, q2, q3⟩ := h4 h0
    cases q1
    rw [Addr.add_mid]; exact q3 j u hu

theorem own_shape {w : World} {base e size n : Nat} {v : Value} {xs : List Value} (h : w.ownsRow base e size v n xs) : ∃ ao cap, v = .slice ao n cap := by
  rcases h.2 with ⟨h1, h2⟩ | ⟨g, cap, cur, h1, _⟩
  · exact ⟨none, 0, by rw [h1, h2]⟩
  · exact ⟨_, cap, h1⟩

/-- A slice of the call's own that holds l; below B the world is as w0 was. -/
def Ow (E : TypeId) (B : Nat) (w0 w : World) (v : Value) (l : List Value) : Prop := B ≤ w0.heap.size ∧ Below B w0 w ∧ w.ownsRow B E 1 v l.length l
section
variable {E : TypeId} {B : Nat} {w0 w w' : World} {v : Value} {l : List Value}
theorem Ow.size (h : Ow E B w0 w v l) : B ≤ w.heap.size := Nat.le_trans h.1 h.2.1.size
theorem Ow.own (h : Ow E B w0 w v l) : w.ownsRow B E 1 v l.length l := h.2.2
theorem Ow.bel (h : Ow E B w0 w v l) : Below B w0 w := h.2.1
theorem Ow.alloc (h : Ow E B w0 w v l) (o : Obj) : Ow E B w0 (w.alloc o) v l := ⟨h.1, h.2.1.alloc h.size _, h.2.2.alloc o⟩
theorem Ow.drew (h : Ow E B w0 w v l) : Ow E B w0 w.drew v l := ⟨h.1, h.2.1.drew, h.2.2.drew⟩
theorem Ow.app {n : Nat} {v' : Value} {m : List Value} (h : Ow E B w0 w v l) (hown : w'.ownsRow B E 1 v' n (l ++ m)) (hn : n = l.length + m.length) (hg : w.grownBy w' v.ownBlock) : Ow E B w0 w' v' (l ++ m) := by
  subst hn
  refine ⟨h.1, h.2.1.grown hg h.size (fun k hk => (h.own.lt k hk).1), ?_⟩
  rw [List.length_append]
  exact hown
/-- What is owned stays owned where the row's block is as it was. -/
theorem own_same {w w' : World} {base e size n : Nat} {v : Value} {xs : List Value} (h : w.ownsRow base e size v n xs) (hs : ∀ k, v.ownBlock = some k → w'.heap[k]? = w.heap[k]?) : w'.ownsRow base e size v n xs := by
  obtain ⟨h1, h2⟩ := h
  refine ⟨h1, ?_⟩
  rcases h2 with h2 | ⟨g, cap, cur, hv, hb, hg, r⟩
  · exact .inl h2
  · exact .inr ⟨g, cap, cur, hv, hb, (hs g (by rw [hv]; rfl)).trans hg, r⟩
theorem Ow.later (h : Ow E B w0 w v l) (hb : Below w.heap.size w w') : Ow E B w0 w' v l :=
  ⟨h.1, h.2.1.trans (hb.mono h.size), own_same h.own fun k hk => hb.block k (h.own.lt k hk).2⟩
theorem ow_made {n g : Nat} (hown : w'.ownsRow w.heap.size E 1 (.slice (some ⟨g, 0, none⟩) 0 n) 0 []) (hgrow : w.grownBy w' none) : Ow E w.heap.size w w' (.slice (some ⟨g, 0, none⟩) 0 n) [] :=
  ⟨Nat.le_refl _, (Below.refl _ _).grown hgrow (Nat.le_refl _) (fun k h => by cases h), hown⟩
theorem ow_empty (E : TypeId) (w : World) : Ow E w.heap.size w (w.alloc (.cells #[] E)) (.slice (some ⟨w.heap.size, 0, none⟩) 0 0) [] :=
  ⟨Nat.le_refl _, bel_alloc w _, rfl, .inr ⟨w.heap.size, 0, #[], rfl, Nat.le_refl _, heap_alloc_new w _, Nat.le_refl _, by unfold maxLen; omega, rfl, rfl⟩⟩
theorem ow_nil (E : TypeId) (w : World) : Ow E w.heap.size w w (.slice none 0 0) [] := ⟨Nat.le_refl _, Below.refl _ _, World.ownsRow_nil _ _ _ _⟩
theorem Ow.start (h : Ow E B w0 w v l) {B2 : Nat} {w2 : World} (hB : B2 ≤ w2.heap.size) (hb : Below B2 w2 w0) (hle : B2 ≤ B) : Ow E B2 w2 w v l := by
  refine ⟨hB, hb.trans (h.bel.mono hle), h.own.1, ?_⟩
  rcases h.own.2 with h2 | ⟨g, cap, cur, hv, hb2, hg, r⟩
  · exact .inl h2
  · exact .inr ⟨g, cap, cur, hv, Nat.le_trans hle hb2, hg, r⟩
theorem Ow.rd (h : Ow E B w0 w v l) (_hl : l.length ≤ 140737488355328) : Rd w v l := by
  rcases h.own.2 with ⟨h1, h2⟩ | ⟨g, c, cur, h1, _, hg, hnc, hcm, _, ht⟩
  · exact ⟨none, 0, by rw [h1, h2], by omega, by omega, fun h => by omega⟩
  · unfold maxLen at hcm
    refine ⟨_, _, h1, hnc, by omega, fun h0 => ⟨g, 0, rfl, lt_of_block hg, fun j u hu => ?_⟩⟩
    have := World.news_of_block hg j u (by
      rw [← ht, List.getElem?_take] at hu
      split at hu
      · exact hu
      · cases hu)
    rw [Addr.add_mid] at this
    exact this
end

/-- A slice over a block that was made last. -/
theorem rd_new {w : World} {l : List Value} {n : Nat} {cs : Array Value} {E : TypeId} {m : Nat × Nat} (hn : n = l.length) (hc : cs = l.toArray) (h : l.length ≤ 9223372036854775807) : Rd (w.alloc (.cells cs E m)) (.slice (some ⟨w.heap.size, 0, none⟩) n n) l := by
  subst hn hc
  refine ⟨_, _, rfl, Nat.le_refl _, h, fun _ => ⟨_, _, rfl, by simp, fun j u hu => ?_⟩⟩
  have := World.news_of_block (heap_alloc_new w (.cells l.toArray E m)) j u (by simpa using hu)
  rw [Addr.add_mid] at this
  exact this

/-- append of a row. -/
theorem wpList_app {P : Program} {S E : TypeId} {z : Value} {eb : Nat} (T : Elem P S E z eb) {ops : Array Oper} {rest : List Oper} {o : Oper} {a : Act} {w : World} {Q : Exit → Act → World → Prop} (hgd : o.guard = none) (s x : Operand)
    (ho : o.op = .call { callee := .builtin .append, args := #[s, x], argTypes := #[S, S] })
    {B : Nat} {w0 : World} {v : Value} {l : List Value} (hv : a.eval s = v) (H : Ow E B w0 w v l) {vx : Value} {m : List Value} (hx : a.eval x = vx) (L : Rd w vx m) (h1 : ∀ u ∈ m, u.oneCell' = true) (hl : (l.length + m.length) * eb ≤ 140737488355328) (hl2 : l.length + m.length ≤ 140737488355328)
    (h : ∀ (ao : Option Addr) (n cap : Nat) (w' : World), n = l.length + m.length → Ow E B w0 w' (.slice ao n cap) (l ++ m) → wpList P ops Q rest (a.put o.dst (.slice ao n cap)) w') :
    wpList P ops Q (o :: rest) a w := by
  obtain ⟨i0, hi, hz0, hz1, hz2⟩ := info_parts T.info
  refine wpList_append_src _ hgd s x S S ho B E i0 z 1 eb T.und hi hz0 hz1 hz2 T.one (by decide) v l.length l hv H.own vx m.length m hx (L.srcs T h1) (by unfold maxLen; omega) (by omega) H.size ?_
  intro v2 w2 hown hg _ _
  have H2 := H.app hown rfl hg
  obtain ⟨ao, cap, rfl⟩ := own_shape hown
  exact h ao _ cap w2 rfl H2

/-- Between w and w' nothing has turned but the blocks of S and new ones. -/
structure Kept (S : Nat → Prop) (w w' : World) : Prop where
  os : w'.os = w.os
  tape : w'.tape = w.tape
  output : w'.output = w.output
  size : w.heap.size ≤ w'.heap.size
  block : ∀ k, k < w.heap.size → ¬ S k → w'.heap[k]? = w.heap[k]?
theorem Kept.below {S : Nat → Prop} {w w' : World} {B : Nat} (h : Kept S w w') (hB : B ≤ w.heap.size) (hS : ∀ k, S k → B ≤ k) : Below B w w' :=
  ⟨h.os, h.tape, h.output, h.size, fun k hk => h.block k (by omega) (fun hs => by have := hS k hs; omega)⟩
theorem Kept.drew {S : Nat → Prop} {w w' : World} (h : Kept S w w') : Kept S w w'.drew := ⟨h.os, h.tape, h.output, h.size, h.block⟩
theorem Kept.drewN {S : Nat → Prop} {w w' : World} (h : Kept S w w') (n : Nat) : Kept S w (w'.drewN n) := ⟨h.os, h.tape, h.output, h.size, h.block⟩
theorem Kept.refl (S : Nat → Prop) (w : World) : Kept S w w := ⟨rfl, rfl, rfl, Nat.le_refl _, fun _ _ _ => rfl⟩
theorem Kept.trans {S : Nat → Prop} {w w1 w2 : World} (h : Kept S w w1) (h2 : Kept S w1 w2) : Kept S w w2 :=
  ⟨h2.os.trans h.os, h2.tape.trans h.tape, h2.output.trans h.output, Nat.le_trans h.size h2.size, fun k h1 hs => (h2.block k (Nat.lt_of_lt_of_le h1 h.size) hs).trans (h.block k h1 hs)⟩
theorem Kept.ofBelow {S : Nat → Prop} {w w' : World} (h : Below w.heap.size w w') : Kept S w w' := ⟨h.os, h.tape, h.output, h.size, fun k h1 _ => h.block k h1⟩
theorem Kept.set (w : World) (b o : Nat) (v : Value) : Kept (fun k => k = b) w (w.setCell ⟨b, o, none⟩ v) :=
  ⟨rfl, rfl, rfl, by simp, fun k _ hk => Below.heap_setCell _ _ _ _ hk⟩

theorem blk_setCell {w : World} {g k t : Nat} {cur : List Value} {u : Value} (h : w.heap[g]? = some (.cells cur.toArray t (0, 0))) :
    (w.setCell ⟨g, k, none⟩ u).heap[g]? = some (.cells (cur.set k u).toArray t (0, 0)) := by
  have hlt := lt_of_block h
  have h' : w.heap[g] = .cells cur.toArray t (0, 0) := by simpa [Array.getElem?_eq_getElem hlt] using h
  show (w.heap.modify g _)[g]? = _
  rw [Array.getElem?_eq_getElem (by simpa using hlt), Array.getElem_modify_self, h']
  simp

/-- What make has laid, as a whole block. -/
theorem made_row {w : World} {B g e n : Nat} {z : Value} {xs : List Value} (h : w.ownsRow B e 1 (.slice (some ⟨g, 0, none⟩) n n) n xs) (hx : xs = (madeCells #[z] n).toList := by (first | rfl | simp)) :
    w.heap[g]? = some (.cells (List.replicate n z).toArray e (0, 0)) := by
  obtain ⟨hn0, hn1⟩ := h
  rcases hn1 with ⟨h, _⟩ | ⟨g, cap', cur, h, _, hg, _, _, hsz, ht⟩
  · cases h
  · cases h
    rw [hg]
    have e : cur.toList = (madeCells #[z] n).toList := by
      rw [← hx, ← ht, List.take_of_length_le (by simp [hsz])]
    rw [toList_madeCells_one] at e
    rw [← e]
end Go.Proofs.Ytdmonbcinlmljaa

/- The characters of a name; what a name is. -/
namespace Go.Proofs.Ytdmonbcinlmljaa
open Go.RowKit

def isl (c : Int) : Bool := decide (97 ≤ c) && decide (c ≤ 122)
def inw (c : Int) : Bool := isl c || (decide (48 ≤ c) && decide (c ≤ 57)) || decide (c = 45)
def isName : List Int → Bool
  | [] => false
  | c :: l => decide (l.length < 16) && isl c && (c :: l).all inw
def strBytes (s : ByteArray) : List Int := s.data.toList.map fun b => (b.toNat : Int)
theorem strBytes_length (s : ByteArray) : (strBytes s).length = s.size := by simp [strBytes]
theorem strBytes_at (s : ByteArray) (k : Nat) (h : k < s.size) : (strBytes s)[k]? = some ((s[k]).toNat : Int) := by
  have h2 : k < s.data.toList.length := by simpa using h
  simp only [strBytes, List.getElem?_map, List.getElem?_eq_getElem h2]
  rfl

set_option maxRecDepth 100000 in
theorem isLetter_any (c : Int) (w : World) : Calls Try.prog 72 #[.int .u8 c] w fun e w' => e = .returned (.bool (isl c)) ∧ w' = w := by
  obtain ⟨r, hr⟩ : ∃ r, r = isl c := ⟨_, rfl⟩
  rw [← hr]
  have HR := hid_of hr
  clear hr
  go_enter Try.func72, Try.ntmps72
  go_wp2
  all_goals go_ret
  all_goals
    refine ⟨congrArg (fun b => Ending.returned (Value.bool b)) ?_, rfl⟩
    rw [HR.out, Bool.eq_iff_iff]
    simp [isl]
    try omega
set_option maxRecDepth 100000 in
theorem inWord_any (c : Int) (w : World) : Calls Try.prog 73 #[.int .u8 c] w fun e w' => e = .returned (.bool (inw c)) ∧ w' = w := by
  obtain ⟨q, hq⟩ : ∃ q, q = isl c := ⟨_, rfl⟩
  have LET := hid_of (fun w => isLetter_any c w)
  rw [← hq] at LET
  obtain ⟨r, hr⟩ : ∃ r, r = inw c := ⟨_, rfl⟩
  rw [← hr]
  have HR := hid_of hr
  have HQ := hid_of hq
  clear hr hq
  go_enter Try.func73, Try.ntmps73
  cases q
  all_goals go_wp2_with (go_at_call 72; ((with_reducible refine (LET.out w).mono ?_); (rintro e w' ⟨rfl, rfl⟩)))
  all_goals go_ret
  all_goals
    refine ⟨congrArg (fun b => Ending.returned (Value.bool b)) ?_, rfl⟩
    rw [HR.out]
    unfold inw
    rw [← HQ.out, Bool.eq_iff_iff]
    simp
    try omega
end Go.Proofs.Ytdmonbcinlmljaa

/- Valid of package names, and of its reference. No condition. -/
namespace Go.Proofs.Ytdmonbcinlmljaa
open Go.RowKit

theorem isName_iff (l : List Int) : isName l = true ↔ 0 < l.length ∧ l.length ≤ 16 ∧ (∀ c : Int, l[0]? = some c → isl c = true) ∧ ∀ (j : Nat) (c : Int), l[j]? = some c → inw c = true := by
  cases l with
  | nil => simp [isName]
  | cons c l =>
    have h : (∀ (j : Nat) (y : Int), (c :: l)[j]? = some y → inw y = true) ↔ (c :: l).all inw = true := by
      rw [List.all_eq_true]
      constructor
      · intro h y hy
        obtain ⟨j, hj⟩ := List.getElem?_of_mem hy
        exact h j y hj
      · intro h j y hj
        exact h y (List.mem_of_getElem? hj)
    rw [h]
    simp only [isName, Bool.and_eq_true, decide_eq_true_eq, List.length_cons]
    constructor
    · rintro ⟨⟨h1, h2⟩, h3⟩
      exact ⟨by omega, by omega, fun y hy => by simp at hy; rw [← hy]; exact h2, h3⟩
    · rintro ⟨_, h1, h2, h3⟩
      exact ⟨⟨by omega, h2 c (by simp)⟩, h3⟩

set_option maxRecDepth 100000 in
theorem valid_any (s : ByteArray) (w : World) (hs : s.size ≤ maxLen) : Calls Try.prog 62 #[.string s] w fun e w' => e = .returned (.bool (isName (strBytes s))) ∧ w' = w := by
  unfold maxLen at hs
  obtain ⟨r, hr⟩ : ∃ r, r = isName (strBytes s) := ⟨_, rfl⟩
  rw [← hr]
  have HR := hid_of hr
  have LET := hid_of isLetter_any
  have INW := hid_of inWord_any
  clear hr
  by_cases h0 : s.size = 0
  · have RF : Hid (r = false) := hid_of (by
      rw [HR.out, Bool.eq_false_iff]; intro h; have := ((isName_iff _).1 h).1; rw [strBytes_length] at this; omega)
    have d0 : decide ((s.size : Int) = 0) = true := decide_eq_true (by omega)
    go_enter Try.func62, Try.ntmps62
    go_wp2
    go_ret
    exact ⟨by rw [RF.out] <;> rfl, rfl⟩
  by_cases h16 : 16 < s.size
  · have RF : Hid (r = false) := hid_of (by
      rw [HR.out, Bool.eq_false_iff]; intro h; have := ((isName_iff _).1 h).2.1; rw [strBytes_length] at this; omega)
    have d0 : decide ((s.size : Int) = 0) = false := decide_eq_false (by omega)
    have d1 : decide ((s.size : Int) > 16) = true := decide_eq_true (by omega)
    go_enter Try.func62, Try.ntmps62
    go_wp2
    go_ret
    exact ⟨by rw [RF.out] <;> rfl, rfl⟩
  have d0 : decide ((s.size : Int) = 0) = false := decide_eq_false (by omega)
  have d1 : decide ((s.size : Int) > 16) = false := decide_eq_false (by omega)
  have d0b : ((s.size : Int) == 0) = false := beq_eq_false_iff_ne.2 (by omega)
  have hp : 0 < s.size := by omega
  obtain ⟨y, hy⟩ : ∃ y : Int, y = ((s[0]).toNat : Int) := ⟨_, rfl⟩
  have HY : Hid ((strBytes s)[0]? = some y) := hid_of (by rw [strBytes_at s 0 hp, hy])
  have hys : ((s[0]).toNat : Int) = y := hy.symm
  clear hy
  have HP := hid_of hp
  have H16 := hid_of h16
  obtain ⟨q, hq⟩ : ∃ q, q = isl y := ⟨_, rfl⟩
  have LY : Hid (∀ w, Calls Try.prog 72 #[.int .u8 y] w fun e w' => e = .returned (.bool q) ∧ w = w') := hid_of (fun w => by rw [hq]; exact (isLetter_any y w).mono fun _ _ h => ⟨h.1, h.2.symm⟩)
  have HQ := hid_of hq
  clear hq
  cases q
  · have RF : Hid (r = false) := hid_of (by
      rw [HR.out, Bool.eq_false_iff]; intro h; have := ((isName_iff _).1 h).2.2.1 y HY.out; rw [← HQ.out] at this; exact absurd this (by simp))
    go_enter Try.func62, Try.ntmps62
    go_wp2_with (go_at_call 72; ((with_reducible refine (LY.out w).mono ?_); (rintro e w' ⟨rfl, rfl⟩)))
    go_ret
    exact ⟨by rw [RF.out] <;> rfl, rfl⟩
  go_enter Try.func62, Try.ntmps62
  go_wp2_with (go_at_call 72; ((with_reducible refine (LY.out w).mono ?_); (rintro e w' ⟨rfl, rfl⟩)))
  clear hys
  go_loopw [3, 20] (fun xv iv wr => ∃ (i : Nat) (v : Value), xv = v ∧ i ≤ s.size ∧ iv = .int .i64 i ∧ wr = w ∧ Hid (∀ (j : Nat) (c : Int), j < i → (strBytes s)[j]? = some c → inw c = true)) (fun _ iv _ => s.size - (intOf iv).toNat)
  case atStart => exact ⟨0, _, rfl, Nat.zero_le _, rfl, rfl, hid_of (fun j c hj => by omega)⟩
  case round =>
    obtain ⟨i, v, rfl, hi, rfl, rfl, hall⟩ := hrel
    have HALL := hid_of hall.out
    clear hall
    by_cases hlt : i < s.size
    · obtain ⟨x, hx⟩ : ∃ x : Int, x = ((s[i]).toNat : Int) := ⟨_, rfl⟩
      have HX : Hid ((strBytes s)[i]? = some x) := hid_of (by rw [strBytes_at s i hlt, hx])
      have hxs : ((s[i]).toNat : Int) = x := hx.symm
      clear hx
      have HLT := hid_of hlt
      obtain ⟨q, hq⟩ : ∃ q, q = inw x := ⟨_, rfl⟩
      have IX : Hid (∀ w, Calls Try.prog 73 #[.int .u8 x] w fun e w' => e = .returned (.bool q) ∧ w = w') := hid_of (fun w => by rw [hq]; exact (inWord_any x w).mono fun _ _ h => ⟨h.1, h.2.symm⟩)
      have HQX := hid_of hq
      clear hq
      cases q
      · have RF : Hid (r = false) := hid_of (by
          rw [HR.out, Bool.eq_false_iff]; intro h; have := ((isName_iff _).1 h).2.2.2 i x HX.out; rw [← HQX.out] at this; exact absurd this (by simp))
        go_wp2_with (go_at_call 73; ((with_reducible refine (IX.out _).mono ?_); (rintro e w' ⟨rfl, rfl⟩)))
        go_ret
        exact ⟨by rw [RF.out] <;> rfl, rfl⟩
      · go_wp2_with (go_at_call 73; ((with_reducible refine (IX.out _).mono ?_); (rintro e w' ⟨rfl, rfl⟩)))
        go_roundw
        case rel => have := HLT.out; exact ⟨i + 1, _, rfl, by omega, by go_num, trivial, hid_of (fun j c hj hc => by
          by_cases e : j = i
          · subst e; rw [HX.out] at hc; cases hc; exact HQX.out.symm
          · exact HALL.out j c (by omega) hc)⟩
        case measure => have := HLT.out; simp [intOf]; omega
    · obtain rfl : s.size = i := by omega
      have RT : Hid (r = true) := hid_of (by
        rw [HR.out, isName_iff, strBytes_length]
        exact ⟨HP.out, by have := H16.out; omega, fun c hc => by rw [HY.out] at hc; cases hc; exact HQ.out.symm, fun j c hc => HALL.out j c (by have := (List.getElem?_eq_some_iff.1 hc).1; rw [strBytes_length] at this; exact this) hc⟩)
      go_wp2
      go_ret
      exact ⟨by rw [RT.out] <;> rfl, rfl⟩
end Go.Proofs.Ytdmonbcinlmljaa

/- Sets of strings, as lists of lists of bytes: plain mathematics. No condition. -/
namespace Go.Proofs.Ytdmonbcinlmljaa

abbrev Str := List UInt8
theorem str_irr (x : Str) : ¬ x < x := List.lt_irrefl x
theorem str_trans {x y z : Str} (h : x < y) (h2 : y < z) : x < z := List.lt_trans h h2
theorem str_tri (x y : Str) : x < y ∨ x = y ∨ y < x := by
  by_cases h1 : x < y
  · exact .inl h1
  · by_cases h2 : y < x
    · exact .inr (.inr h2)
    · exact .inr (.inl (List.le_antisymm (List.not_lt.1 h2) (List.not_lt.1 h1)))
theorem str_asym {x y : Str} (h : x < y) : ¬ y < x := fun h2 => str_irr x (str_trans h h2)
theorem str_le {x y : Str} : x ≤ y ↔ x < y ∨ x = y := by
  rw [← List.not_lt]
  constructor
  · intro h
    rcases str_tri x y with h1 | h1 | h1
    · exact .inl h1
    · exact .inr h1
    · exact absurd h1 h
  · rintro (h | rfl)
    · exact str_asym h
    · exact str_irr x

/-- Strictly increasing. -/
def SS (l : List Str) : Prop := l.Pairwise (· < ·)
theorem SS.nil : SS [] := List.Pairwise.nil
theorem ss_snoc {l : List Str} {x : Str} (h : SS l) (hx : ∀ y ∈ l, y < x) : SS (l ++ [x]) := by
  unfold SS at *
  rw [List.pairwise_append]
  exact ⟨h, List.pairwise_singleton _ _, fun a ha b hb => by rw [List.mem_singleton.1 hb]; exact hx a ha⟩
theorem ss_ext : ∀ {a b : List Str}, SS a → SS b → (∀ x, x ∈ a ↔ x ∈ b) → a = b := by
  intro a; induction a with
  | nil =>
    intro b _ _ h
    cases b with
    | nil => rfl
    | cons y b => have := (h y).2 (by simp); simp at this
  | cons x a ih =>
    intro b ha hb h
    cases b with
    | nil => have := (h x).1 (by simp); simp at this
    | cons y b =>
      have ha' := List.pairwise_cons.1 ha
      have hb' := List.pairwise_cons.1 hb
      have e : x = y := by
        have h1 := (h x).1 (by simp)
        have h2 := (h y).2 (by simp)
        rcases List.mem_cons.1 h1 with h1 | h1
        · exact h1
        · rcases List.mem_cons.1 h2 with h2 | h2
          · exact h2.symm
          · exact absurd (hb'.1 x h1) (str_asym (ha'.1 y h2))
      subst e
      rw [ih ha'.2 hb'.2 (fun z => ?_)]
      constructor
      · intro hz
        rcases List.mem_cons.1 ((h z).1 (List.mem_cons_of_mem _ hz)) with e | hz2
        · subst e; exact absurd (ha'.1 z hz) (str_irr z)
        · exact hz2
      · intro hz
        rcases List.mem_cons.1 ((h z).2 (List.mem_cons_of_mem _ hz)) with e | hz2
        · subst e; exact absurd (hb'.1 z hz) (str_irr z)
        · exact hz2

/-- Of a list: after k elements, those that are greater than the one before. -/
def ddp (a : List Str) : Nat → List Str
  | 0 => []
  | k + 1 => if k = 0 ∨ a.getD (k - 1) [] < a.getD k [] then ddp a k ++ [a.getD k []] else ddp a k
def srt (l : List Str) : List Str := l.mergeSort fun x y => decide (x ≤ y)
def setOf (l : List Str) : List Str := ddp (srt l) l.length
theorem srt_length (l : List Str) : (srt l).length = l.length := by simp [srt]
theorem srt_mem (l : List Str) (x : Str) : x ∈ srt l ↔ x ∈ l := by simp [srt]
theorem srt_pw (l : List Str) : (srt l).Pairwise (· ≤ ·) := by
  have h := List.pairwise_mergeSort (le := fun x y : Str => decide (x ≤ y)) (fun a b c h1 h2 => by
    simp only [decide_eq_true_eq] at *
    exact List.le_trans h1 h2) (fun a b => by
    simp only [Bool.or_eq_true, decide_eq_true_eq]
    rcases str_tri a b with h | h | h
    · exact .inl (str_le.2 (.inl h))
    · exact .inl (str_le.2 (.inr h))
    · exact .inr (str_le.2 (.inl h))) l
  exact h.imp (by simp)
theorem getD_of {l : List Str} {k : Nat} (h : k < l.length) : l.getD k [] = l[k] := by simp [List.getD, h]
theorem pw_get {l : List Str} (h : l.Pairwise (· ≤ ·)) {i j : Nat} (hij : i < j) (hj : j < l.length) : l.getD i [] ≤ l.getD j [] := by
  rw [getD_of hj, getD_of (by omega)]
  exact List.pairwise_iff_getElem.1 h i j (by omega) hj hij
theorem take_snoc' {α : Type} {l : List α} {k : Nat} (h : k < l.length) : l.take (k + 1) = l.take k ++ [l[k]] := List.take_succ_eq_append_getElem h
theorem ddp_spec {a : List Str} (h : a.Pairwise (· ≤ ·)) : ∀ k, k ≤ a.length → SS (ddp a k) ∧ (∀ x, x ∈ ddp a k ↔ x ∈ a.take k) := by
  intro k; induction k with
  | zero => intro _; exact ⟨SS.nil, fun x => by simp [ddp]⟩
  | succ k ih =>
    intro hk
    obtain ⟨h1, h2⟩ := ih (by omega)
    have hkl : k < a.length := by omega
    rw [ddp, take_snoc' hkl]
    by_cases hc : k = 0 ∨ a.getD (k - 1) [] < a.getD k []
    · rw [if_pos hc]
      refine ⟨ss_snoc h1 fun y hy => ?_, fun x => by rw [List.mem_append, List.mem_append, h2, getD_of hkl]⟩
      have hy' := (h2 y).1 hy
      rcases hc with hc | hc
      · subst hc; simp at hy'
      · obtain ⟨j, hj, rfl⟩ := List.mem_iff_getElem.1 hy'
        have hjk : j < k := by simp at hj; omega
        rw [List.getElem_take]
        by_cases e : j = k - 1
        · subst e
          rwa [getD_of (show k - 1 < a.length by omega)] at hc
        · have h3 := pw_get h (show j < k - 1 by omega) (by omega)
          rw [getD_of (show j < a.length by omega)] at h3
          rcases str_le.1 h3 with h4 | h4
          · exact str_trans h4 hc
          · rw [h4]; exact hc
    · rw [if_neg hc]
      refine ⟨h1, fun x => ?_⟩
      rw [h2, List.mem_append, List.mem_singleton]
      constructor
      · exact .inl
      · rintro (hx | hx)
        · exact hx
        · have hk0 : k ≠ 0 := fun e => hc (.inl e)
          have h3 := pw_get h (show k - 1 < k by omega) hkl
          have h4 : a.getD (k - 1) [] = a.getD k [] := by
            rcases str_le.1 h3 with h4 | h4
            · exact absurd (.inr h4) hc
            · exact h4
          rw [hx, ← getD_of hkl, ← h4, getD_of (show k - 1 < a.length by omega)]
          exact List.mem_iff_getElem.2 ⟨k - 1, by simp; omega, by simp⟩
theorem setOf_ss (l : List Str) : SS (setOf l) := (ddp_spec (srt_pw l) l.length (by rw [srt_length]; exact Nat.le_refl _)).1
theorem setOf_mem (l : List Str) (x : Str) : x ∈ setOf l ↔ x ∈ l := by
  rw [setOf, (ddp_spec (srt_pw l) l.length (by rw [srt_length]; exact Nat.le_refl _)).2, List.take_of_length_le (by rw [srt_length]; exact Nat.le_refl _), srt_mem]
theorem setOf_eq {l m : List Str} (h : SS m) (hm : ∀ x, x ∈ m ↔ x ∈ l) : setOf l = m := ss_ext (setOf_ss l) h (fun x => by rw [setOf_mem, hm])
theorem setOf_congr {l m : List Str} (h : ∀ x, x ∈ l ↔ x ∈ m) : setOf l = setOf m := setOf_eq (setOf_ss m) (fun x => by rw [setOf_mem, h])
theorem setOf_self {l : List Str} (h : SS l) : setOf l = l := setOf_eq h (fun _ => Iff.rfl)
theorem setOf_idem (l : List Str) : setOf (setOf l) = setOf l := setOf_self (setOf_ss l)
theorem ss_nodup {l : List Str} (h : SS l) : l.Nodup := h.imp (fun h e => by subst e; exact str_irr _ h)
theorem setOf_le (l : List Str) : (setOf l).length ≤ l.length := by
  have : ∀ k a, (ddp a k).length ≤ k := by
    intro k a; induction k with
    | zero => simp [ddp]
    | succ k ih => rw [ddp]; split
                   · rw [List.length_append]; simp; omega
                   · omega
  exact this _ _
theorem ss_filter {l : List Str} (p : Str → Bool) (h : SS l) : SS (l.filter p) := h.filter p

/-- Insertion into a sorted list. -/
def insS (x : Str) : List Str → List Str
  | [] => [x]
  | y :: l => if x < y then x :: y :: l else y :: insS x l
theorem insS_app (x : Str) : ∀ (p q : List Str), (∀ y ∈ p, y < x) → (∀ y ∈ q, x < y) → insS x (p ++ q) = p ++ x :: q := by
  intro p; induction p with
  | nil =>
    intro q _ hq
    cases q with
    | nil => rfl
    | cons y q => rw [List.nil_append, insS, if_pos (hq y (by simp))]; rfl
  | cons y p ih =>
    intro q hp hq
    rw [List.cons_append, insS, if_neg (str_asym (hp y (by simp))), ih q (fun z hz => hp z (by simp [hz])) hq]; rfl
theorem setOf_snoc_in {l : List Str} {x : Str} (h : x ∈ setOf l) : setOf (l ++ [x]) = setOf l :=
  setOf_congr fun y => by
    rw [List.mem_append, List.mem_singleton]
    exact ⟨fun hy => hy.elim id (fun e => by subst e; exact (setOf_mem l y).1 h), .inl⟩
theorem setOf_snoc_new {l p q : List Str} {x : Str} (h : setOf l = p ++ q) (hp : ∀ y ∈ p, y < x) (hq : ∀ y ∈ q, x < y) : setOf (l ++ [x]) = p ++ x :: q := by
  have hs := setOf_ss l
  rw [h] at hs
  have hs2 := List.pairwise_append.1 hs
  refine setOf_eq ?_ (fun y => ?_)
  · unfold SS
    rw [List.pairwise_append]
    refine ⟨hs2.1, List.pairwise_cons.2 ⟨hq, hs2.2.1⟩, fun a ha b hb => ?_⟩
    rcases List.mem_cons.1 hb with rfl | hb
    · exact hp a ha
    · exact hs2.2.2 a ha b hb
  · have := setOf_mem l y
    rw [h] at this
    rw [List.mem_append, List.mem_cons, List.mem_append, List.mem_singleton, ← this, List.mem_append]
    constructor
    · rintro (h | h | h)
      · exact .inl (.inl h)
      · exact .inr h
      · exact .inl (.inr h)
    · rintro ((h | h) | h)
      · exact .inl h
      · exact .inr (.inr h)
      · exact .inr (.inl h)

/-- The lexicographic comparison of lists, and the comparison of sets. -/
def cmpL : List Str → List Str → Int
  | [], [] => 0
  | [], _ :: _ => -1
  | _ :: _, [] => 1
  | x :: a, y :: b => if x < y then -1 else if y < x then 1 else cmpL a b
def cmpS (a b : List Str) : Int := if a.length < b.length then -1 else if b.length < a.length then 1 else cmpL a b
theorem cmpL_zero : ∀ {a b : List Str}, cmpL a b = 0 ↔ a = b := by
  intro a; induction a with
  | nil => intro b; cases b <;> simp [cmpL]
  | cons x a ih =>
    intro b
    cases b with
    | nil => simp [cmpL]
    | cons y b =>
      rw [cmpL]
      by_cases h1 : x < y
      · rw [if_pos h1]
        exact ⟨fun h => by omega, fun h => by cases h; exact absurd h1 (str_irr x)⟩
      · rw [if_neg h1]
        by_cases h2 : y < x
        · rw [if_pos h2]
          exact ⟨fun h => by omega, fun h => by cases h; exact absurd h2 (str_irr x)⟩
        · rw [if_neg h2, ih]
          have e : x = y := by
            rcases str_tri x y with h | h | h
            · exact absurd h h1
            · exact h
            · exact absurd h h2
          subst e
          simp
theorem cmpL_neg : ∀ (a b : List Str), cmpL b a = 0 - cmpL a b := by
  intro a; induction a with
  | nil => intro b; cases b <;> simp [cmpL]
  | cons x a ih =>
    intro b
    cases b with
    | nil => simp [cmpL]
    | cons y b =>
      rw [cmpL, cmpL]
      by_cases h1 : x < y
      · rw [if_neg (str_asym h1), if_pos h1, if_pos h1]; rfl
      · rw [if_neg h1]
        by_cases h2 : y < x
        · rw [if_pos h2, if_neg h1, if_pos h2]; rfl
        · rw [if_neg h2, if_neg h1, if_neg h2, ih]
theorem cmpL_01 : ∀ (a b : List Str), cmpL a b = -1 ∨ cmpL a b = 0 ∨ cmpL a b = 1 := by
  intro a; induction a with
  | nil => intro b; cases b <;> simp [cmpL]
  | cons x a ih =>
    intro b
    cases b with
    | nil => simp [cmpL]
    | cons y b =>
      rw [cmpL]
      split
      · exact .inl rfl
      · split
        · exact .inr (.inr rfl)
        · exact ih b
theorem cmpL_trans : ∀ {a b c : List Str}, cmpL a b = -1 → cmpL b c = -1 → cmpL a c = -1 := by
  intro a; induction a with
  | nil =>
    intro b c h1 h2
    cases c with
    | nil => cases b <;> simp [cmpL] at h1 h2
    | cons z c => rfl
  | cons x a ih =>
    intro b c h1 h2
    cases b with
    | nil => simp [cmpL] at h1
    | cons y b =>
      cases c with
      | nil => simp [cmpL] at h2
      | cons z c =>
        rw [cmpL] at h1 h2 ⊢
        by_cases a1 : x < y
        · by_cases a2 : y < z
          · rw [if_pos (str_trans a1 a2)]
          · rw [if_neg a2] at h2
            by_cases a3 : z < y
            · rw [if_pos a3] at h2; omega
            · have e : y = z := by
                rcases str_tri y z with h | h | h
                · exact absurd h a2
                · exact h
                · exact absurd h a3
              subst e; rw [if_pos a1]
        · rw [if_neg a1] at h1
          by_cases a2 : y < x
          · rw [if_pos a2] at h1; omega
          · rw [if_neg a2] at h1
            have e : x = y := by
              rcases str_tri x y with h | h | h
              · exact absurd h a1
              · exact h
              · exact absurd h a2
            subst e
            by_cases a3 : x < z
            · rw [if_pos a3]
            · rw [if_neg a3] at h2 ⊢
              by_cases a4 : z < x
              · rw [if_pos a4] at h2; omega
              · rw [if_neg a4] at h2 ⊢; exact ih h1 h2
theorem cmpS_zero {a b : List Str} : cmpS a b = 0 ↔ a = b := by
  unfold cmpS
  split
  · rename_i h
    exact ⟨fun h => by omega, fun e => by subst e; omega⟩
  · split
    · rename_i h
      exact ⟨fun h => by omega, fun e => by subst e; omega⟩
    · exact cmpL_zero
theorem cmpS_neg (a b : List Str) : cmpS b a = 0 - cmpS a b := by
  unfold cmpS
  by_cases h : a.length < b.length
  · rw [if_pos h, if_neg (by omega), if_pos h]; rfl
  · rw [if_neg h]
    by_cases h2 : b.length < a.length
    · rw [if_pos h2, if_neg h, if_pos h2]; rfl
    · rw [if_neg h2, if_neg h, if_neg h2, cmpL_neg]
theorem cmpS_01 (a b : List Str) : cmpS a b = -1 ∨ cmpS a b = 0 ∨ cmpS a b = 1 := by
  unfold cmpS
  split
  · exact .inl rfl
  · split
    · exact .inr (.inr rfl)
    · exact cmpL_01 a b
theorem cmpS_trans {a b c : List Str} (h1 : cmpS a b = -1) (h2 : cmpS b c = -1) : cmpS a c = -1 := by
  unfold cmpS at *
  by_cases e1 : a.length < b.length
  · by_cases e2 : b.length < c.length
    · rw [if_pos (by omega)]
    · rw [if_neg e2] at h2
      by_cases e3 : c.length < b.length
      · rw [if_pos e3] at h2; omega
      · rw [if_pos (by omega)]
  · rw [if_neg e1] at h1
    by_cases e2 : b.length < a.length
    · rw [if_pos e2] at h1; omega
    · rw [if_neg e2] at h1
      by_cases e3 : b.length < c.length
      · rw [if_pos (by omega)]
      · rw [if_neg e3] at h2
        by_cases e4 : c.length < b.length
        · rw [if_pos e4] at h2; omega
        · rw [if_neg e4] at h2
          rw [if_neg (by omega), if_neg (by omega)]
          exact cmpL_trans h1 h2
/-- A proper subset has fewer elements. -/
theorem ss_sub_len : ∀ {a b : List Str}, SS a → SS b → (∀ x ∈ a, x ∈ b) → a.length ≤ b.length ∧ (a.length = b.length → a = b) := by
  intro a b ha hb h
  have h1 : a = b.filter (fun x => decide (x ∈ a)) := ss_ext ha (ss_filter _ hb) (fun x => by
    rw [List.mem_filter, decide_eq_true_eq]
    exact ⟨fun hx => ⟨h x hx, hx⟩, fun hx => hx.2⟩)
  have h2 := List.length_filter_le (fun x => decide (x ∈ a)) b
  rw [← h1] at h2
  refine ⟨h2, fun e => ?_⟩
  have h3 : (b.filter (fun x => decide (x ∈ a))).length = b.length := by rw [← h1]; exact e
  rw [List.length_filter_eq_length_iff] at h3
  exact ss_ext ha hb (fun x => ⟨h x, fun hx => by simpa using h3 x hx⟩)
end Go.Proofs.Ytdmonbcinlmljaa

/- Slices of strings, and who is in them: Has, Sorted and Same, of the package and of its reference. Bounds on sizes alone. -/
namespace Go.Proofs.Ytdmonbcinlmljaa
open Go.RowKit

theorem strsE : Elem Try.prog 22 9 (.string ⟨#[]⟩) 16 := ⟨Try.underlying22, by kernel_rfl, rfl⟩
/-- The bytes of a string, as the value that holds them. -/
def ba (l : Str) : ByteArray := ⟨l.toArray⟩
theorem ba_list (l : Str) : (ba l).data.toList = l := rfl
theorem ba_of (s : ByteArray) : ba s.data.toList = s := rfl
def ss (l : List Str) : List Value := l.map fun x => .string (ba x)
theorem ss_length (l : List Str) : (ss l).length = l.length := by simp [ss]
theorem ss_one (l : List Str) : ∀ u ∈ ss l, u.oneCell' = true := by
  intro u hu
  obtain ⟨y, _, rfl⟩ := List.mem_map.1 hu
  rfl
theorem ss_append (a b : List Str) : ss (a ++ b) = ss a ++ ss b := by simp [ss]

theorem rds_open {w : World} {ao : Option Addr} {n cap : Nat} {l : List Str} (h : Rd w (.slice ao n cap) (ss l)) :
    n = l.length ∧ n ≤ cap ∧ cap ≤ 9223372036854775807 ∧ (l = [] ∨ ∃ g o, ao = some ⟨g, o, none⟩ ∧ g < w.heap.size ∧ ∀ j x, l[j]? = some x → w.cell? ⟨g, o + j, none⟩ = some (.string (ba x))) := by
  obtain ⟨ao2, cap2, e, h1, h2, h3⟩ := h
  cases e
  rw [ss_length] at h1 h3
  refine ⟨ss_length _, by rw [ss_length]; exact h1, h2, ?_⟩
  by_cases h0 : 0 < l.length
  · obtain ⟨g, o, e, hg, hc⟩ := h3 h0
    exact .inr ⟨g, o, e, hg, fun j x hx => hc j _ (by simp [ss, hx])⟩
  · exact .inl (List.eq_nil_of_length_eq_zero (by omega))

theorem eqS (x y : Str) : ((ba x).toList == (ba y).toList) = decide (x = y) := by
  rw [ByteArray.toList_eq, ByteArray.toList_eq, ba_list, ba_list, Bool.eq_iff_iff]; simp
theorem less_eq : ∀ (x y : List UInt8), Op.bytesLess x y = decide (x < y)
  | [], [] => by simp [Op.bytesLess]
  | _ :: _, [] => by simp [Op.bytesLess]
  | [], _ :: _ => by simp [Op.bytesLess]
  | a :: x, b :: y => by
    rw [Op.bytesLess, less_eq x y]
    simp only [List.cons_lt_cons_iff]
    by_cases h1 : a < b <;> by_cases h2 : a = b <;> by_cases h3 : x < y <;> simp [h1, h2, h3]
theorem ltS (x y : Str) : Op.bytesLess (ba x).toList (ba y).toList = decide (x < y) := by
  rw [ByteArray.toList_eq, ByteArray.toList_eq, ba_list, ba_list, less_eq]
/-- The test's outcome, for a string that stands under a name. -/
theorem eq_t {x y : Str} {bx bz : ByteArray} (hx : bx = ba x) (hy : bz = ba y) (h : x = y) : (bx.toList == bz.toList) = true := by
  subst hx hy; rw [eqS]; exact decide_eq_true h
theorem eq_f {x y : Str} {bx bz : ByteArray} (hx : bx = ba x) (hy : bz = ba y) (h : x ≠ y) : (bx.toList == bz.toList) = false := by
  subst hx hy; rw [eqS]; exact decide_eq_false h
theorem lt_t {x y : Str} {bx bz : ByteArray} (hx : bx = ba x) (hy : bz = ba y) (h : x < y) : Op.bytesLess bx.toList bz.toList = true := by
  subst hx hy; rw [ltS]; exact decide_eq_true h
theorem lt_f {x y : Str} {bx bz : ByteArray} (hx : bx = ba x) (hy : bz = ba y) (h : ¬ x < y) : Op.bytesLess bx.toList bz.toList = false := by
  subst hx hy; rw [ltS]; exact decide_eq_false h
theorem take_not {l : List Str} {k : Nat} {x : Str} (h : k < l.length) (hx : x ∉ l.take k) (hne : l[k] ≠ x) : x ∉ l.take (k + 1) := by
  rw [take_snoc' h, List.mem_append, List.mem_singleton]
  exact fun h2 => h2.elim hx (fun e => hne e.symm)
end Go.Proofs.Ytdmonbcinlmljaa

/- Sorted, of the package and of its reference, and the reference's Same. Bounds on sizes alone. -/
namespace Go.Proofs.Ytdmonbcinlmljaa
open Go.RowKit

/-- A list is sorted if each element is less than the next one. -/
theorem ss_adj : ∀ {l : List Str}, (∀ i, i + 1 < l.length → l.getD i [] < l.getD (i + 1) []) → SS l := by
  intro l; induction l with
  | nil => intro _; exact SS.nil
  | cons x l ih =>
    intro h
    have hl := ih (fun i hi => by have := h (i + 1) (by simp; omega); simpa using this)
    refine List.pairwise_cons.2 ⟨fun y hy => ?_, hl⟩
    cases l with
    | nil => simp at hy
    | cons z l =>
      have h0 := h 0 (by simp)
      simp at h0
      rcases List.mem_cons.1 hy with e | hy
      · rw [e]; exact h0
      · exact str_trans h0 ((List.pairwise_cons.1 hl).1 y hy)
theorem ss_get {l : List Str} (h : SS l) {i j : Nat} (hij : i < j) (hj : j < l.length) : l.getD i [] < l.getD j [] := by
  rw [getD_of hj, getD_of (by omega)]
  exact List.pairwise_iff_getElem.1 h i j (by omega) hj hij
/-- The first k elements are sorted. -/
def ssTo (l : List Str) (k : Nat) : Prop := ∀ i, i + 1 < k → l.getD i [] < l.getD (i + 1) []
theorem ssTo_succ {l : List Str} {k p : Nat} (h : ssTo l k) (hp : p + 1 = k) (h2 : l.getD p [] < l.getD k []) : ssTo l (k + 1) := by
  intro i hi
  by_cases e : i = p
  · subst e; rw [hp]; exact h2
  · exact h i (by omega)
instance (l : List Str) : Decidable (SS l) := by unfold SS; infer_instance
def ssB (l : List Str) : Bool := decide (SS l)
theorem ssB_yes {l : List Str} {n : Nat} (hn : n = l.length) (h : ssTo l n) : ssB l = true := decide_eq_true (ss_adj (fun i hi => h i (by omega)))
theorem ssB_no {l : List Str} {p k : Nat} (hp : p + 1 = k) (hk : k < l.length) (h : ¬ l.getD p [] < l.getD k []) : ssB l = false :=
  decide_eq_false (fun hs => h (ss_get hs (by omega) hk))
theorem ret_b {a b : Bool} (h : a = b) : Ending.returned (.bool a) = .returned (.bool b) := by rw [h]

set_option maxRecDepth 100000 in
theorem sorted_any (ao : Option Addr) (n cap : Nat) (l : List Str) (w : World) (R : Rd w (.slice ao n cap) (ss l)) :
    Calls Try.prog 63 #[.slice ao n cap] w fun e w' => e = .returned (.bool (ssB l)) ∧ Below w.heap.size w w' := by
  obtain ⟨hn, h1, h2, h3⟩ := rds_open R
  obtain ⟨r, hr⟩ : ∃ r, r = ssB l := ⟨_, rfl⟩
  rw [← hr]
  have HR := hid_of hr
  have HN := hid_of hn
  clear hr R hn
  rcases h3 with h3 | ⟨g, o, rfl, hg, hc⟩
  · have RF : Hid (r = true) := hid_of (by rw [HR.out, h3]; rfl)
    obtain rfl : n = 0 := by rw [HN.out, h3]; rfl
    clear h3 HN
    go_enter Try.func63, Try.ntmps63
    go_wp2
    go_loopw [3, 6] (fun xv iv wr => ∃ v : Value, xv = v ∧ iv = .int .i64 0 ∧ w = wr) (fun _ iv _ => 0)
    case atStart => exact ⟨_, rfl, rfl, rfl⟩
    case round =>
      obtain ⟨v, rfl, rfl, rfl⟩ := hrel
      go_wp2
      go_ret
      exact ⟨ret_b RF.out.symm, Below.refl _ _⟩
  · have HC := hid_of hc
    clear hc
    go_enter Try.func63, Try.ntmps63
    go_wp2
    go_loopw [3, 6] (fun xv iv wr => ∃ (k : Nat) (v : Value), xv = v ∧ k ≤ n ∧ iv = .int .i64 k ∧ Hid (ssTo l k) ∧ Hid (Below w.heap.size w wr)) (fun _ iv _ => n - (intOf iv).toNat)
    case atStart => exact ⟨0, _, rfl, Nat.zero_le _, rfl, hid_of (fun i hi => by omega), hid_of (Below.refl _ _)⟩
    case round =>
      obtain ⟨k, v, rfl, hk, rfl, hs, hb⟩ := hrel
      by_cases hlt : k < n
      · have hd : decide (k < n) = true := by simp; omega
        have hkl : Hid (k < l.length) := hid_of (by have := HN.out; omega)
        by_cases h0 : k = 0
        · have g0 : decide (0 < k) = false := by simp; omega
          have HS2 : Hid (ssTo l (k + 1)) := hid_of (fun i hi => by omega)
          clear h0
          go_wp2
          go_quiet (fail)
          go_wp2
          go_roundw
          case rel => exact ⟨k + 1, _, rfl, by omega, by go_num, HS2, hid_of (bel_drewN hb.out _)⟩
          case measure => simp [intOf]; omega
        · have g0 : decide (0 < k) = true := by simp; omega
          obtain ⟨p, hpk⟩ : ∃ p, p + 1 = k := ⟨k - 1, by omega⟩
          have hpl : Hid (p < l.length) := hid_of (by have := HN.out; omega)
          obtain ⟨bk, hbk⟩ : ∃ b, b = ba (l[k]'hkl.out) := ⟨_, rfl⟩
          obtain ⟨bp, hbp⟩ : ∃ b, b = ba (l[p]'hpl.out) := ⟨_, rfl⟩
          have c1 := (hb.out.cell (p := ⟨g, o + k, none⟩) hg).trans (HC.out k _ (List.getElem?_eq_getElem hkl.out))
          have c2 := (hb.out.cell (p := ⟨g, o + p, none⟩) hg).trans (HC.out p _ (List.getElem?_eq_getElem hpl.out))
          rw [← hbk] at c1
          rw [← hbp] at c2
          have s1 : IntKind.i64.wrap ((k : Int) - 1) = (p : Int) := by rw [IntWalk.i64_in _ (by omega)]; omega
          have b1 : (k : Int) < (n : Int) := by omega
          have b2 : (p : Int) < (n : Int) := by omega
          have b3 : (0 : Int) ≤ (k : Int) := by omega
          have b4 : (0 : Int) ≤ (p : Int) := by omega
          have HP := hid_of hpk
          clear hpk h0
          by_cases e : (l[p]'hpl.out) < (l[k]'hkl.out)
          · have t1 := lt_f hbk hbp (str_asym e)
            have t2 := eq_f hbk hbp (fun e2 => str_irr _ (e2 ▸ e))
            have HS2 := hid_of (ssTo_succ hs.out HP.out (by rw [getD_of hpl.out, getD_of hkl.out]; exact e))
            clear hbp hbk e
            go_wp2
            go_quiet (fail)
            clear s1
            go_wp2
            go_roundw
            case rel => exact ⟨k + 1, _, rfl, by omega, by go_num, HS2, hid_of (bel_drewN hb.out _)⟩
            case measure => simp [intOf]; omega
          · have RF : Hid (r = false) := hid_of (by rw [HR.out]; exact ssB_no HP.out hkl.out (by rw [getD_of hpl.out, getD_of hkl.out]; exact e))
            have t1 : (Op.bytesLess bk.toList bp.toList || bk.toList == bp.toList) = true := by
              rcases str_tri (l[p]'hpl.out) (l[k]'hkl.out) with h | h | h
              · exact absurd h e
              · rw [eq_t hbk hbp h.symm]; simp
              · rw [lt_t hbk hbp h]; simp
            clear hbp hbk e
            go_wp2
            go_quiet (fail)
            clear s1
            go_wp2
            go_ret
            exact ⟨ret_b RF.out.symm, bel_drewN hb.out _⟩
      · have hd : decide (k < n) = false := by simp; omega
        have RF : Hid (r = true) := hid_of (by rw [HR.out]; exact ssB_yes HN.out (by rw [show n = k by omega]; exact hs.out))
        go_wp2
        go_ret
        exact ⟨ret_b RF.out.symm, hb.out⟩
end Go.Proofs.Ytdmonbcinlmljaa

/- Descriptions of lattices as trees, and what is asked of them. No condition. -/
namespace Go.Proofs.Ytdmonbcinlmljaa

/-- A rule in names: its premises, its conclusion. -/
abbrev Gr := List Str × Str
def nameB (x : Str) : Bool := isName (strBytes (ba x))
inductive Lat where
  | mk (k lo hi : Int) (ns : List Str) (ps : List Lat) (rs : List Gr)
def Lat.k : Lat → Int | ⟨k, _, _, _, _, _⟩ => k
def Lat.lo : Lat → Int | ⟨_, lo, _, _, _, _⟩ => lo
def Lat.hi : Lat → Int | ⟨_, _, hi, _, _, _⟩ => hi
def Lat.ns : Lat → List Str | ⟨_, _, _, ns, _, _⟩ => ns
def Lat.ps : Lat → List Lat | ⟨_, _, _, _, ps, _⟩ => ps
def Lat.rs : Lat → List Gr | ⟨_, _, _, _, _, rs⟩ => rs
theorem lat_size {p : Lat} {k lo hi : Int} {ns : List Str} {ps : List Lat} {rs : List Gr} (h : p ∈ ps) : SizeOf.sizeOf p < SizeOf.sizeOf (Lat.mk k lo hi ns ps rs) := by
  have := List.sizeOf_lt_of_mem h
  simp only [Lat.mk.sizeOf_spec]
  omega
theorem lat_ind {P : Lat → Prop} (h : ∀ k lo hi ns ps rs, (∀ p ∈ ps, P p) → P ⟨k, lo, hi, ns, ps, rs⟩) : ∀ t, P t := by
  have : ∀ n t, SizeOf.sizeOf t < n → P t := by
    intro n
    induction n with
    | zero => intro t h; omega
    | succ n ih =>
      rintro ⟨k, lo, hi, ns, ps, rs⟩ hn
      exact h _ _ _ _ _ _ fun p hp => ih p (by have := lat_size (k := k) (lo := lo) (hi := hi) (ns := ns) (rs := rs) hp; omega)
  exact fun t => this _ t (Nat.lt_succ_self _)
noncomputable instance : DecidableEq Lat := fun _ _ => Classical.propDecidable _

/-- The kinds, split. -/
theorem kinds (k : Int) : k = 1 ∨ k = 2 ∨ k = 3 ∨ k = 4 ∨ k = 5 ∨ k = 6 ∨ k = 7 ∨ k = 8 ∨ k = 9 ∨ k = 10 ∨ (k ≠ 1 ∧ k ≠ 2 ∧ k ≠ 3 ∧ k ≠ 4 ∧ k ≠ 5 ∧ k ≠ 6 ∧ k ≠ 7 ∧ k ≠ 8 ∧ k ≠ 9 ∧ k ≠ 10) := by omega

mutual
def chainL : Lat → Bool
  | ⟨k, _, _, _, ps, _⟩ => if k = 7 then decide (ps.length = 2) && chainsL ps else decide (k = 1 ∨ k = 2 ∨ k = 3)
def chainsL : List Lat → Bool
  | [] => true
  | p :: ps => chainL p && chainsL ps
end
mutual
def finL : Lat → Bool
  | ⟨k, _, _, ns, ps, _⟩ => if k = 1 ∨ k = 2 ∨ k = 3 ∨ k = 10 then true else if k = 4 ∨ k = 8 then !ns.isEmpty else if k = 5 then !ns.isEmpty && finsL ps else if k = 6 ∨ k = 7 then finsL ps else false
def finsL : List Lat → Bool
  | [] => true
  | p :: ps => finL p && finsL ps
end
mutual
def rfinL : Lat → Bool
  | ⟨k, _, _, ns, ps, _⟩ => if k = 9 ∨ ns = [] ∧ (k = 4 ∨ k = 8 ∨ k = 5) then false else rfinsL ps
def rfinsL : List Lat → Bool
  | [] => true
  | p :: ps => rfinL p && rfinsL ps
end
mutual
def distL : Lat → Bool
  | ⟨k, _, _, _, ps, _⟩ => if k = 8 ∨ k = 10 then false else distsL ps
def distsL : List Lat → Bool
  | [] => true
  | p :: ps => distL p && distsL ps
end
mutual
def depthL : Lat → Nat
  | ⟨_, _, _, _, ps, _⟩ => depthsL ps + 1
def depthsL : List Lat → Nat
  | [] => 0
  | p :: ps => max (depthL p) (depthsL ps)
end
/-- A node has the fields of its kind, and no others. -/
def shapeB (t : Lat) : Bool :=
  if t.k = 1 ∨ t.k = 9 then decide (t.lo = 0 ∧ t.hi = 0 ∧ t.rs = [] ∧ t.ps = [] ∧ t.ns = [])
  else if t.k = 2 ∨ t.k = 3 then decide (t.rs = [] ∧ t.ps = [] ∧ t.ns = [])
  else if t.k = 4 ∨ t.k = 8 then decide (t.lo = 0 ∧ t.hi = 0 ∧ t.rs = [] ∧ t.ps = [])
  else if t.k = 5 then decide (t.lo = 0 ∧ t.hi = 0 ∧ t.rs = [] ∧ t.ps.length = 1)
  else if t.k = 6 then decide (t.lo = 0 ∧ t.hi = 0 ∧ t.rs = [] ∧ t.ps.length = t.ns.length ∧ t.ns ≠ [])
  else if t.k = 7 then decide (t.lo = 0 ∧ t.hi = 0 ∧ t.rs = [] ∧ t.ps.length = 2 ∧ t.ns = [])
  else if t.k = 10 then decide (t.lo = 0 ∧ t.hi = 0 ∧ t.ps = [] ∧ t.ns ≠ [])
  else false
def limL (k : Int) : Nat := if k = 6 then 8 else if k = 10 then 12 else 32
def namesB (t : Lat) : Bool := t.ns.all nameB && decide t.ns.Nodup && (decide (t.k = 6) || ssB t.ns)
def ruleB (ns : List Str) (r : Gr) : Bool := !r.1.isEmpty && ssB r.1 && (r.1 ++ [r.2]).all fun s => decide (s ∈ ns)
def rulesB (ns : List Str) (rs : List Gr) : Bool := rs.all (ruleB ns)
/-- The first error of a node, without those of its place and of its parts. -/
def nodeE (t : Lat) : Int :=
  if shapeB t = false then 1 else if limL t.k < t.ns.length ∨ 32 < t.rs.length then 6 else if (namesB t && rulesB t.ns t.rs) = false then 3
  else if t.lo > t.hi ∨ t.lo < -1000000000 ∨ t.hi > 1000000000 then 5 else if t.k = 7 ∧ chainsL (t.ps.take 1) = false then 4 else 0
mutual
/-- The nodes that are counted and the first error, of a tree at depth d behind c nodes. -/
def chkT : Lat → Nat → Nat → Nat × Int
  | ⟨k, lo, hi, ns, ps, rs⟩, d, c => if 6 < d ∨ 64 ≤ c then (c, 6) else if nodeE ⟨k, lo, hi, ns, ps, rs⟩ ≠ 0 then (c + 1, nodeE ⟨k, lo, hi, ns, ps, rs⟩) else chkTs ps (d + 1) (c + 1)
def chkTs : List Lat → Nat → Nat → Nat × Int
  | [], _, c => (c, 0)
  | p :: ps, d, c => if (chkT p d c).2 ≠ 0 then chkT p d c else chkTs ps d (chkT p d c).1
end
def chkL (t : Lat) : Int := (chkT t 1 0).2
theorem chkT_eq (t : Lat) (d c : Nat) : chkT t d c = if 6 < d ∨ 64 ≤ c then (c, 6) else if nodeE t ≠ 0 then (c + 1, nodeE t) else chkTs t.ps (d + 1) (c + 1) := by
  cases t
  rw [chkT]
  rfl
mutual
theorem chkT_le : ∀ (t : Lat) (d c : Nat), c ≤ 64 → c ≤ (chkT t d c).1 ∧ (chkT t d c).1 ≤ 64
  | ⟨k, lo, hi, ns, ps, rs⟩, d, c, h => by
    rw [chkT]
    split
    · exact ⟨Nat.le_refl _, h⟩
    · split
      · constructor <;> simp only <;> omega
      · have := chkTs_le ps (d + 1) (c + 1) (by omega)
        omega
theorem chkTs_le : ∀ (l : List Lat) (d c : Nat), c ≤ 64 → c ≤ (chkTs l d c).1 ∧ (chkTs l d c).1 ≤ 64
  | [], d, c, h => by rw [chkTs]; exact ⟨Nat.le_refl _, h⟩
  | p :: ps, d, c, h => by
    rw [chkTs]
    have h1 := chkT_le p d c h
    split
    · exact h1
    · have := chkTs_le ps d _ h1.2
      omega
end
mutual
theorem chkT_0 : ∀ (t : Lat) (d c : Nat), (chkT t d c).2 = 0 → nodeE t = 0
  | ⟨k, lo, hi, ns, ps, rs⟩, d, c, h => by
    rw [chkT] at h
    split at h
    · cases h
    · split at h
      · exact h
      · rename_i h2
        exact Classical.not_not.1 h2
end
/-- A tree without an error at a depth behind some nodes: so are its parts. -/
theorem chkTs_mem : ∀ (l : List Lat) (d c : Nat), (chkTs l d c).2 = 0 → ∀ p ∈ l, ∃ c', (chkT p d c').2 = 0 := by
  intro l
  induction l with
  | nil => intro d c _ p hp; cases hp
  | cons q l ih =>
    intro d c h p hp
    rw [chkTs] at h
    split at h
    · rename_i h2; exact absurd h h2
    · rename_i h2
      rcases List.mem_cons.1 hp with rfl | hp
      · exact ⟨c, Classical.not_not.1 h2⟩
      · exact ih _ _ h p hp
/-- Every node of the tree is without an error. -/
inductive Okay : Lat → Prop
  | mk {t : Lat} (h : nodeE t = 0) (hp : ∀ p ∈ t.ps, Okay p) : Okay t
theorem okay_of : ∀ (t : Lat) (d c : Nat), (chkT t d c).2 = 0 → Okay t := by
  refine lat_ind ?_
  intro k lo hi ns ps rs ih d c h
  refine .mk (chkT_0 _ d c h) fun p hp => ?_
  rw [chkT_eq] at h
  split at h
  · cases h
  · split at h
    · rename_i h2; exact absurd h h2
    · obtain ⟨c', h3⟩ := chkTs_mem _ _ _ h p hp
      exact ih p hp _ _ h3
theorem all_map {f : Lat → Bool} {fs : List Lat → Bool} (h0 : fs [] = true) (h1 : ∀ p ps, fs (p :: ps) = (f p && fs ps)) : ∀ l, fs l = l.all f := by
  intro l
  induction l with
  | nil => rw [h0]; rfl
  | cons p l ih => rw [h1, ih]; rfl
theorem chainsL_all : ∀ l, chainsL l = l.all chainL := all_map (by rw [chainsL]) (fun p ps => by rw [chainsL])
theorem finsL_all : ∀ l, finsL l = l.all finL := all_map (by rw [finsL]) (fun p ps => by rw [finsL])
theorem rfinsL_all : ∀ l, rfinsL l = l.all rfinL := all_map (by rw [rfinsL]) (fun p ps => by rw [rfinsL])
theorem distsL_all : ∀ l, distsL l = l.all distL := all_map (by rw [distsL]) (fun p ps => by rw [distsL])
theorem node_shape {t : Lat} (h : nodeE t = 0) : shapeB t = true := by
  unfold nodeE at h
  split at h
  · cases h
  · rename_i h2; simpa using h2
theorem shape_k {t : Lat} (h : shapeB t = true) : 1 ≤ t.k ∧ t.k ≤ 10 := by
  unfold shapeB at h
  repeat' split at h
  all_goals first | omega | cases h
theorem shape_leaf {t : Lat} (h : shapeB t = true) (hk : t.k = 1 ∨ t.k = 2 ∨ t.k = 3 ∨ t.k = 4 ∨ t.k = 8 ∨ t.k = 9 ∨ t.k = 10) : t.ps = [] := by
  unfold shapeB at h
  repeat' split at h
  all_goals first
    | (have h := of_decide_eq_true h; simp only [h])
    | omega
/-- A node that is without an error is finite by the one rule if it is by the other. -/
theorem fin_eq : ∀ t, Okay t → finL t = rfinL t := by
  refine lat_ind ?_
  intro k lo hi ns ps rs ih h
  obtain ⟨h0, hp⟩ := h
  have hs := node_shape h0
  have hk := shape_k hs
  have hl := shape_leaf hs
  simp only [Lat.k, Lat.ps] at hk hl hp
  have he : finsL ps = rfinsL ps := by
    rw [finsL_all, rfinsL_all]
    have : ∀ l : List Lat, (∀ p ∈ l, p ∈ ps) → l.all finL = l.all rfinL := by
      intro l
      induction l with
      | nil => intro _; rfl
      | cons p l ihl =>
        intro h
        simp only [List.all_cons]
        rw [ihl fun q hq => h q (by simp [hq]), ih p (h p (by simp)) (hp p (h p (by simp)))]
    exact this ps fun _ h => h
  rw [finL, rfinL, he]
  rcases kinds k with rfl | rfl | rfl | rfl | rfl | rfl | rfl | rfl | rfl | rfl | hx
  case inr.inr.inr.inr.inr.inr.inr.inr.inr.inr => omega
  all_goals first
    | (have hl := hl (by omega); subst hl; cases ns <;> simp [rfinsL])
    | (cases ns <;> simp [rfinsL])
/-- A chain is distributive, if it is without an error. -/
theorem chain_dist : ∀ t, Okay t → chainL t = true → distL t = true := by
  refine lat_ind ?_
  intro k lo hi ns ps rs ih h hc
  obtain ⟨h0, hp⟩ := h
  have hs := node_shape h0
  have hl := shape_leaf hs
  simp only [Lat.k, Lat.ps] at hl hp
  rw [chainL] at hc
  rw [distL, distsL_all]
  by_cases h7 : k = 7
  · subst h7
    simp only [if_true, Bool.and_eq_true, chainsL_all, List.all_eq_true] at hc
    simp only [show ¬((7 : Int) = 8 ∨ (7 : Int) = 10) by omega, if_false, List.all_eq_true]
    exact fun p hq => ih p hq (hp p hq) (hc.2 p hq)
  · rw [if_neg h7] at hc
    have hc := of_decide_eq_true hc
    rw [if_neg (by omega), hl (by omega)]
    rfl
end Go.Proofs.Ytdmonbcinlmljaa

/- Rows of structs of two cells: what a slice reads as, a slice of the call's own, append. Bounds on sizes alone. -/
namespace Go.Proofs.Ytdmonbcinlmljaa
open Go.RowKit

abbrev PV := Value × Value
/-- The cells of a list of pairs. -/
def prs (l : List PV) : List Value := l.flatMap fun t => [t.1, t.2]
theorem prs_length (l : List PV) : (prs l).length = l.length * 2 := by
  induction l with
  | nil => rfl
  | cons t r ih => simp only [prs, List.flatMap_cons, List.length_append, List.length_cons, List.length_nil] at ih ⊢; omega
theorem prs_append (a b : List PV) : prs (a ++ b) = prs a ++ prs b := by simp [prs]
theorem prs_get : ∀ (l : List PV) (i : Nat) (t : PV), l[i]? = some t → (prs l)[i * 2]? = some t.1 ∧ (prs l)[i * 2 + 1]? = some t.2 := by
  intro l
  induction l with
  | nil => intro i t h; simp at h
  | cons s r ih =>
    intro i t h
    cases i with
    | zero => simp at h; subst h; exact ⟨rfl, rfl⟩
    | succ i =>
      have h1 := ih i t (by simpa using h)
      have e : prs (s :: r) = s.1 :: s.2 :: prs r := rfl
      rw [e, show (i + 1) * 2 = i * 2 + 1 + 1 by omega]
      exact h1
/-- The slice v reads as the pairs l. -/
def PRd (w : World) (v : Value) (l : List PV) : Prop :=
  ∃ ao cap, v = .slice ao l.length cap ∧ l.length ≤ cap ∧ cap ≤ 9223372036854775807 ∧ (0 < l.length → ∃ g o, ao = some ⟨g, o, none⟩ ∧ g < w.heap.size ∧ ∀ i t, l[i]? = some t → w.cell? ⟨g, o + i * 2, none⟩ = some t.1 ∧ w.cell? ⟨g, o + i * 2 + 1, none⟩ = some t.2)
theorem PRd.later {w w' : World} {v : Value} {l : List PV} {B : Nat} (h : PRd w v l) (hb : Below B w w') (hB : w.heap.size ≤ B) : PRd w' v l := by
  obtain ⟨ao, cap, h1, h2, h3, h4⟩ := h
  refine ⟨ao, cap, h1, h2, h3, fun h0 => ?_⟩
  obtain ⟨g, o, q1, q2, q3⟩ := h4 h0
  refine ⟨g, o, q1, Nat.lt_of_lt_of_le q2 hb.size, fun i t ht => ?_⟩
  obtain ⟨r1, r2⟩ := q3 i t ht
  exact ⟨(hb.cell (p := ⟨g, o + i * 2, none⟩) (by show g < B; omega)).trans r1, (hb.cell (p := ⟨g, o + i * 2 + 1, none⟩) (by show g < B; omega)).trans r2⟩
theorem PRd.at {w w' : World} {v : Value} {l : List PV} (h : PRd w v l) (hb : Below w.heap.size w w') : PRd w' v l := h.later hb (Nat.le_refl _)
theorem prd_nil (w : World) : PRd w (.slice none 0 0) [] := ⟨none, 0, rfl, Nat.le_refl _, by omega, fun h => by simp at h⟩
theorem PRd.cut {w : World} {ao : Option Addr} {n cap : Nat} {l : List PV} (h : PRd w (.slice ao n cap) l) : n = l.length ∧ n ≤ cap ∧ cap ≤ 9223372036854775807 := by
  obtain ⟨_, _, e, h2, h3, _⟩ := h
  simp only [Value.slice.injEq] at e
  omega
theorem PRd.get {w : World} {ao : Option Addr} {n cap : Nat} {l : List PV} (h : PRd w (.slice ao n cap) l) {i : Nat} {t : PV} (hi : l[i]? = some t) : ∃ g o, ao = some ⟨g, o, none⟩ ∧ w.cell? ⟨g, o + i * 2, none⟩ = some t.1 ∧ w.cell? ⟨g, o + i * 2 + 1, none⟩ = some t.2 := by
  obtain ⟨_, _, e, h2, h3, h4⟩ := h
  simp only [Value.slice.injEq] at e
  obtain ⟨rfl, _, rfl⟩ := e
  obtain ⟨g, o, q1, _, q3⟩ := h4 (by have := (List.getElem?_eq_some_iff.1 hi).1; omega)
  exact ⟨g, o, q1, q3 i t hi⟩

/-- A slice of the call's own that holds l; below B the world is as w0 was. -/
def OP (E : TypeId) (B : Nat) (w0 w : World) (v : Value) (l : List PV) : Prop := B ≤ w0.heap.size ∧ Below B w0 w ∧ w.ownsRow B E 2 v l.length (prs l)
section
variable {E : TypeId} {B : Nat} {w0 w w' : World} {v : Value} {l : List PV}
theorem OP.size (h : OP E B w0 w v l) : B ≤ w.heap.size := Nat.le_trans h.1 h.2.1.size
theorem OP.own (h : OP E B w0 w v l) : w.ownsRow B E 2 v l.length (prs l) := h.2.2
theorem OP.bel (h : OP E B w0 w v l) : Below B w0 w := h.2.1
theorem OP.app {n : Nat} {v' : Value} {m : List PV} (h : OP E B w0 w v l) (hown : w'.ownsRow B E 2 v' n (prs l ++ prs m)) (hn : n = l.length + m.length) (hg : w.grownBy w' v.ownBlock) : OP E B w0 w' v' (l ++ m) := by
  subst hn
  refine ⟨h.1, h.2.1.grown hg h.size (fun k hk => (h.own.lt k hk).1), ?_⟩
  rw [List.length_append, prs_append]
  exact hown
theorem own_same2 {w w' : World} {base e size n : Nat} {v : Value} {xs : List Value} (h : w.ownsRow base e size v n xs) (hs : ∀ k, v.ownBlock = some k → w'.heap[k]? = w.heap[k]?) : w'.ownsRow base e size v n xs := by
  obtain ⟨h1, h2⟩ := h
  refine ⟨h1, ?_⟩
  rcases h2 with h2 | ⟨g, cap, cur, hv, hb, hg, r⟩
  · exact .inl h2
  · exact .inr ⟨g, cap, cur, hv, hb, (hs g (by rw [hv]; rfl)).trans hg, r⟩
theorem OP.later (h : OP E B w0 w v l) (hb : Below w.heap.size w w') : OP E B w0 w' v l :=
  ⟨h.1, h.2.1.trans (hb.mono h.size), own_same2 h.own fun k hk => hb.block k (h.own.lt k hk).2⟩
theorem op_made {n g : Nat} (hown : w'.ownsRow w.heap.size E 2 (.slice (some ⟨g, 0, none⟩) 0 n) 0 []) (hgrow : w.grownBy w' none) : OP E w.heap.size w w' (.slice (some ⟨g, 0, none⟩) 0 n) [] :=
  ⟨Nat.le_refl _, (Below.refl _ _).grown hgrow (Nat.le_refl _) (fun k h => by cases h), hown⟩
theorem op_nil (E : TypeId) (w : World) : OP E w.heap.size w w (.slice none 0 0) [] := ⟨Nat.le_refl _, Below.refl _ _, ⟨by simp [prs], .inl ⟨rfl, rfl⟩⟩⟩
theorem op_empty (E : TypeId) (w : World) : OP E w.heap.size w (w.alloc (.cells #[] E)) (.slice (some ⟨w.heap.size, 0, none⟩) 0 0) [] :=
  ⟨Nat.le_refl _, bel_alloc w _, by simp [prs], .inr ⟨w.heap.size, 0, #[], rfl, Nat.le_refl _, heap_alloc_new w _, Nat.le_refl _, by unfold maxLen; omega, rfl, rfl⟩⟩
theorem OP.start (h : OP E B w0 w v l) {B2 : Nat} {w2 : World} (hB : B2 ≤ w2.heap.size) (hb : Below B2 w2 w0) (hle : B2 ≤ B) : OP E B2 w2 w v l := by
  refine ⟨hB, hb.trans (h.bel.mono hle), h.own.1, ?_⟩
  rcases h.own.2 with h2 | ⟨g, cap, cur, hv, hb2, hg, r⟩
  · exact .inl h2
  · exact .inr ⟨g, cap, cur, hv, Nat.le_trans hle hb2, hg, r⟩
theorem OP.prd (h : OP E B w0 w v l) : PRd w v l := by
  rcases h.own.2 with ⟨h1, h2⟩ | ⟨g, c, cur, h1, _, hg, hnc, hcm, _, ht⟩
  · exact ⟨none, 0, by rw [h1, h2], by omega, by omega, fun h => by omega⟩
  · unfold maxLen at hcm
    refine ⟨_, _, h1, hnc, by omega, fun h0 => ⟨g, 0, rfl, lt_of_block hg, fun i t hi => ?_⟩⟩
    have hil := (List.getElem?_eq_some_iff.1 hi).1
    obtain ⟨g1, g2⟩ := prs_get l i t hi
    have q : ∀ j u, (prs l)[j]? = some u → w.cell? ⟨g, 0 + j, none⟩ = some u := fun j u hu => by
      have := World.news_of_block hg j u (by
        rw [← ht, List.getElem?_take] at hu
        split at hu
        · exact hu
        · cases hu)
      rw [Addr.add_mid] at this
      exact this
    exact ⟨q _ _ g1, q _ _ g2⟩
end
theorem own_shapeP {w : World} {base e size n : Nat} {v : Value} {xs : List Value} (h : w.ownsRow base e size v n xs) : ∃ ao cap, v = .slice ao n cap := by
  rcases h.2 with ⟨h1, h2⟩ | ⟨g, cap, cur, h1, _⟩
  · exact ⟨none, 0, by rw [h1, h2]⟩
  · exact ⟨_, cap, h1⟩
/-- A slice type S over a struct type E of two cells. -/
structure Elem2 (P : Program) (S E : TypeId) (z : Value) (eb : Nat) : Prop where
  und : P.underlying S = some (.slice E)
  info : (P.info? E).map (fun i => (i.zero, i.size, i.bytes)) = some (some z, 2, eb)
  two : z.cells.size = 2
theorem PRd.src {P : Program} {S E : TypeId} {z : Value} {eb : Nat} (T : Elem2 P S E z eb) {w : World} {v : Value} {l : List PV} (h : PRd w v l) (h1 : ∀ u ∈ prs l, u.oneCell' = true) : Src P 2 S v l.length (prs l) w := by
  obtain ⟨ao, cap, rfl, h2, h3, h4⟩ := h
  by_cases h0 : 0 < l.length
  · obtain ⟨g, o, rfl, hg, hc⟩ := h4 h0
    refine Src.ofSlice _ T.und _ _ _ (prs l) (prs_length l) (fun j u hu => ?_) h1
    have hj : j < l.length * 2 := by rw [← prs_length]; exact (List.getElem?_eq_some_iff.1 hu).1
    obtain ⟨t, ht⟩ : ∃ t, l[j / 2]? = some t := ⟨_, List.getElem?_eq_getElem (by omega)⟩
    obtain ⟨c1, c2⟩ := hc _ t ht
    obtain ⟨g1, g2⟩ := prs_get l _ t ht
    rw [Addr.add_mid]
    rcases Nat.mod_two_eq_zero_or_one j with hm | hm
    · rw [show j / 2 * 2 = j by omega] at c1 g1
      rw [c1]; exact g1.symm.trans hu
    · rw [show o + j / 2 * 2 + 1 = o + j by omega] at c2
      rw [show j / 2 * 2 + 1 = j by omega] at g2
      rw [c2]; exact g2.symm.trans hu
  · obtain rfl : l = [] := by cases l with
      | nil => rfl
      | cons a r => simp at h0
    cases ao with
    | none => exact Src.ofNil _ T.und _
    | some a => exact Src.ofSlice _ T.und a _ _ [] rfl (fun j u hu => by simp at hu) (by simp)
/-- append of one pair that has just been laid. -/
theorem wpList_pr {P : Program} {S E : TypeId} {z : Value} {eb : Nat} (T : Elem2 P S E z eb) {ops : Array Oper} {rest : List Oper} {o : Oper} {a : Act} {w : World} {Q : Exit → Act → World → Prop} (hgd : o.guard = none) (s x : Operand)
    (ho : o.op = .call { callee := .builtin .append, args := #[s, x], argTypes := #[S, S] })
    {B : Nat} {w0 : World} {v : Value} {l : List PV} (hv : a.eval s = v) (H : OP E B w0 w v l) {vx : Value} {m : List PV} (hx : a.eval x = vx) (L : PRd w vx m) (h1 : ∀ u ∈ prs m, u.oneCell' = true) (hl : (l.length + m.length) * eb ≤ 140737488355328) (hl2 : l.length + m.length ≤ 140737488355328)
    (h : ∀ (ao : Option Addr) (n cap : Nat) (w' : World), n = l.length + m.length → OP E B w0 w' (.slice ao n cap) (l ++ m) → w.grownBy w' v.ownBlock → wpList P ops Q rest (a.put o.dst (.slice ao n cap)) w') :
    wpList P ops Q (o :: rest) a w := by
  obtain ⟨i0, hi, hz0, hz1, hz2⟩ := info_parts T.info
  refine wpList_append_src _ hgd s x S S ho B E i0 z 2 eb T.und hi hz0 hz1 hz2 T.two (by decide) v l.length (prs l) hv H.own vx m.length (prs m) hx (L.src T h1) (by unfold maxLen; omega) (by omega) H.size ?_
  intro v2 w2 hown hg _ _
  have H2 := H.app (m := m) hown rfl hg
  obtain ⟨ao, cap, rfl⟩ := own_shapeP hown
  exact h ao _ cap w2 rfl H2 hg
theorem prd_new {w : World} {u v : Value} {E : TypeId} {m : Nat × Nat} : PRd (w.alloc (.cells #[u, v] E m)) (.slice (some ⟨w.heap.size, 0, none⟩) 1 1) [(u, v)] := by
  refine ⟨_, _, rfl, Nat.le_refl _, by simp, fun _ => ⟨_, _, rfl, by simp, fun i t hi => ?_⟩⟩
  have : i = 0 := by have := (List.getElem?_eq_some_iff.1 hi).1; simp at this; omega
  subst this
  simp only [List.getElem?_cons_zero, Option.some.injEq] at hi
  subst hi
  have hb := heap_alloc_new w (.cells #[u, v] E m)
  have c0 := World.news_of_block hb 0 u rfl
  have c1 := World.news_of_block hb 1 v rfl
  rw [Addr.add_mid] at c0 c1
  exact ⟨c0, c1⟩
end Go.Proofs.Ytdmonbcinlmljaa

/- Rows of structs of 6 cells: what a slice reads as, a slice of the call's own, append. Bounds on sizes alone. -/
namespace Go.Proofs.Ytdmonbcinlmljaa
open Go.RowKit

structure SxV where
  a : Value
  b : Value
  c : Value
  d : Value
  e : Value
  f : Value
def SxV.cs (t : SxV) : List Value := [t.a, t.b, t.c, t.d, t.e, t.f]
/-- The cells of a list of structs. -/
def sxds (l : List SxV) : List Value := l.flatMap SxV.cs
theorem sxds_length (l : List SxV) : (sxds l).length = l.length * 6 := by
  induction l with
  | nil => rfl
  | cons t r ih => simp only [sxds, SxV.cs, List.flatMap_cons, List.length_append, List.length_cons, List.length_nil] at ih ⊢; omega
theorem sxds_append (a b : List SxV) : sxds (a ++ b) = sxds a ++ sxds b := by simp [sxds]
theorem sxds_get : ∀ (l : List SxV) (i : Nat) (t : SxV), l[i]? = some t → (sxds l)[i * 6]? = some t.a ∧ (sxds l)[i * 6 + 1]? = some t.b ∧ (sxds l)[i * 6 + 2]? = some t.c ∧ (sxds l)[i * 6 + 3]? = some t.d ∧ (sxds l)[i * 6 + 4]? = some t.e ∧ (sxds l)[i * 6 + 5]? = some t.f := by
  intro l
  induction l with
  | nil => intro i t h; simp at h
  | cons s r ih =>
    intro i t h
    cases i with
    | zero => simp at h; subst h; exact ⟨rfl, rfl, rfl, rfl, rfl, rfl⟩
    | succ i =>
      have h1 := ih i t (by simpa using h)
      have e : sxds (s :: r) = s.a :: s.b :: s.c :: s.d :: s.e :: s.f :: sxds r := rfl
      rw [e, show (i + 1) * 6 = i * 6 + 1 + 1 + 1 + 1 + 1 + 1 by omega]
      exact h1
/-- The slice v reads as the structs l. -/
def SxRd (w : World) (v : Value) (l : List SxV) : Prop :=
  ∃ ao cap, v = .slice ao l.length cap ∧ l.length ≤ cap ∧ cap ≤ 9223372036854775807 ∧ (0 < l.length → ∃ g o, ao = some ⟨g, o, none⟩ ∧ g < w.heap.size ∧ ∀ i t, l[i]? = some t → w.cell? ⟨g, o + i * 6, none⟩ = some t.a ∧ w.cell? ⟨g, o + i * 6 + 1, none⟩ = some t.b ∧ w.cell? ⟨g, o + i * 6 + 2, none⟩ = some t.c ∧ w.cell? ⟨g, o + i * 6 + 3, none⟩ = some t.d ∧ w.cell? ⟨g, o + i * 6 + 4, none⟩ = some t.e ∧ w.cell? ⟨g, o + i * 6 + 5, none⟩ = some t.f)
theorem SxRd.later {w w' : World} {v : Value} {l : List SxV} {B : Nat} (h : SxRd w v l) (hb : Below B w w') (hB : w.heap.size ≤ B) : SxRd w' v l := by
  obtain ⟨ao, cap, h1, h2, h3, h4⟩ := h
  refine ⟨ao, cap, h1, h2, h3, fun h0 => ?_⟩
  obtain ⟨g, o, q1, q2, q3⟩ := h4 h0
  refine ⟨g, o, q1, Nat.lt_of_lt_of_le q2 hb.size, fun i t ht => ?_⟩
  obtain ⟨r1, r2, r3, r4, r5, r6⟩ := q3 i t ht
  exact ⟨(hb.cell (p := ⟨g, o + i * 6, none⟩) (by show g < B; omega)).trans r1, (hb.cell (p := ⟨g, o + i * 6 + 1, none⟩) (by show g < B; omega)).trans r2, (hb.cell (p := ⟨g, o + i * 6 + 2, none⟩) (by show g < B; omega)).trans r3, (hb.cell (p := ⟨g, o + i * 6 + 3, none⟩) (by show g < B; omega)).trans r4, (hb.cell (p := ⟨g, o + i * 6 + 4, none⟩) (by show g < B; omega)).trans r5, (hb.cell (p := ⟨g, o + i * 6 + 5, none⟩) (by show g < B; omega)).trans r6⟩
theorem SxRd.at {w w' : World} {v : Value} {l : List SxV} (h : SxRd w v l) (hb : Below w.heap.size w w') : SxRd w' v l := h.later hb (Nat.le_refl _)
theorem sxrd_nil (w : World) : SxRd w (.slice none 0 0) [] := ⟨none, 0, rfl, Nat.le_refl _, by omega, fun h => by simp at h⟩
theorem SxRd.cut {w : World} {ao : Option Addr} {n cap : Nat} {l : List SxV} (h : SxRd w (.slice ao n cap) l) : n = l.length ∧ n ≤ cap ∧ cap ≤ 9223372036854775807 := by
  obtain ⟨_, _, e, h2, h3, _⟩ := h
  simp only [Value.slice.injEq] at e
  omega
theorem SxRd.get {w : World} {ao : Option Addr} {n cap : Nat} {l : List SxV} (h : SxRd w (.slice ao n cap) l) {i : Nat} {t : SxV} (hi : l[i]? = some t) : ∃ g o, ao = some ⟨g, o, none⟩ ∧ w.cell? ⟨g, o + i * 6, none⟩ = some t.a ∧ w.cell? ⟨g, o + i * 6 + 1, none⟩ = some t.b ∧ w.cell? ⟨g, o + i * 6 + 2, none⟩ = some t.c ∧ w.cell? ⟨g, o + i * 6 + 3, none⟩ = some t.d ∧ w.cell? ⟨g, o + i * 6 + 4, none⟩ = some t.e ∧ w.cell? ⟨g, o + i * 6 + 5, none⟩ = some t.f := by
  obtain ⟨_, _, e, h2, h3, h4⟩ := h
  simp only [Value.slice.injEq] at e
  obtain ⟨rfl, _, rfl⟩ := e
  obtain ⟨g, o, q1, _, q3⟩ := h4 (by have := (List.getElem?_eq_some_iff.1 hi).1; omega)
  exact ⟨g, o, q1, q3 i t hi⟩

/-- A slice of the call's own that holds l; below B the world is as w0 was. -/
def OSx (E : TypeId) (B : Nat) (w0 w : World) (v : Value) (l : List SxV) : Prop := B ≤ w0.heap.size ∧ Below B w0 w ∧ w.ownsRow B E 6 v l.length (sxds l)
section
variable {E : TypeId} {B : Nat} {w0 w w' : World} {v : Value} {l : List SxV}
theorem OSx.size (h : OSx E B w0 w v l) : B ≤ w.heap.size := Nat.le_trans h.1 h.2.1.size
theorem OSx.own (h : OSx E B w0 w v l) : w.ownsRow B E 6 v l.length (sxds l) := h.2.2
theorem OSx.bel (h : OSx E B w0 w v l) : Below B w0 w := h.2.1
theorem OSx.app {n : Nat} {v' : Value} {m : List SxV} (h : OSx E B w0 w v l) (hown : w'.ownsRow B E 6 v' n (sxds l ++ sxds m)) (hn : n = l.length + m.length) (hg : w.grownBy w' v.ownBlock) : OSx E B w0 w' v' (l ++ m) := by
  subst hn
  refine ⟨h.1, h.2.1.grown hg h.size (fun k hk => (h.own.lt k hk).1), ?_⟩
  rw [List.length_append, sxds_append]
  exact hown
theorem OSx.alloc (h : OSx E B w0 w v l) (o : Obj) : OSx E B w0 (w.alloc o) v l := ⟨h.1, h.2.1.alloc h.size _, h.2.2.alloc o⟩
theorem OSx.drewN (h : OSx E B w0 w v l) (k : Nat) : OSx E B w0 (w.drewN k) v l := ⟨h.1, ⟨h.2.1.os, h.2.1.tape, h.2.1.output, h.2.1.size, h.2.1.block⟩, h.2.2⟩
theorem OSx.drew (h : OSx E B w0 w v l) : OSx E B w0 w.drew v l := ⟨h.1, h.2.1.drew, h.2.2.drew⟩
theorem OSx.later (h : OSx E B w0 w v l) (hb : Below w.heap.size w w') : OSx E B w0 w' v l :=
  ⟨h.1, h.2.1.trans (hb.mono h.size), own_same h.own fun k hk => hb.block k (h.own.lt k hk).2⟩
theorem osx_nil (E : TypeId) (w : World) : OSx E w.heap.size w w (.slice none 0 0) [] := ⟨Nat.le_refl _, Below.refl _ _, ⟨by simp [sxds], .inl ⟨rfl, rfl⟩⟩⟩
theorem OSx.start (h : OSx E B w0 w v l) {B2 : Nat} {w2 : World} (hB : B2 ≤ w2.heap.size) (hb : Below B2 w2 w0) (hle : B2 ≤ B) : OSx E B2 w2 w v l := by
  refine ⟨hB, hb.trans (h.bel.mono hle), h.own.1, ?_⟩
  rcases h.own.2 with h2 | ⟨g, cap, cur, hv, hb2, hg, r⟩
  · exact .inl h2
  · exact .inr ⟨g, cap, cur, hv, Nat.le_trans hle hb2, hg, r⟩
theorem sx_rd_of_own (h : w.ownsRow B E 6 v l.length (sxds l)) : SxRd w v l := by
  rcases h.2 with ⟨h1, h2⟩ | ⟨g, c, cur, h1, _, hg, hnc, hcm, _, ht⟩
  · exact ⟨none, 0, by rw [h1, h2], by omega, by omega, fun h => by omega⟩
  · unfold maxLen at hcm
    refine ⟨_, _, h1, hnc, by omega, fun h0 => ⟨g, 0, rfl, lt_of_block hg, fun i t hi => ?_⟩⟩
    obtain ⟨g1, g2, g3, g4, g5, g6⟩ := sxds_get l i t hi
    have q : ∀ j u, (sxds l)[j]? = some u → w.cell? ⟨g, 0 + j, none⟩ = some u := fun j u hu => by
      have := World.news_of_block hg j u (by
        rw [← ht, List.getElem?_take] at hu
        split at hu
        · exact hu
        · cases hu)
      rw [Addr.add_mid] at this
      exact this
    exact ⟨q _ _ g1, q _ _ g2, q _ _ g3, q _ _ g4, q _ _ g5, q _ _ g6⟩
theorem OSx.rd (h : OSx E B w0 w v l) : SxRd w v l := sx_rd_of_own h.own
end
/-- A slice type S over a struct type E of 6 cells. -/
structure Elem6 (P : Program) (S E : TypeId) (z : Value) (eb : Nat) : Prop where
  und : P.underlying S = some (.slice E)
  info : (P.info? E).map (fun i => (i.zero, i.size, i.bytes)) = some (some z, 6, eb)
  cells : z.cells.size = 6
theorem SxRd.src {P : Program} {S E : TypeId} {z : Value} {eb : Nat} (T : Elem6 P S E z eb) {w : World} {v : Value} {l : List SxV} (h : SxRd w v l) (h1 : ∀ u ∈ sxds l, u.oneCell' = true) : Src P 6 S v l.length (sxds l) w := by
  obtain ⟨ao, cap, rfl, h2, h3, h4⟩ := h
  by_cases h0 : 0 < l.length
  · obtain ⟨g, o, rfl, hg, hc⟩ := h4 h0
    refine Src.ofSlice _ T.und _ _ _ (sxds l) (sxds_length l) (fun j u hu => ?_) h1
    have hj : j < l.length * 6 := by rw [← sxds_length]; exact (List.getElem?_eq_some_iff.1 hu).1
    obtain ⟨t, ht⟩ : ∃ t, l[j / 6]? = some t := ⟨_, List.getElem?_eq_getElem (by omega)⟩
    obtain ⟨c1, c2, c3, c4, c5, c6⟩ := hc _ t ht
    obtain ⟨g1, g2, g3, g4, g5, g6⟩ := sxds_get l _ t ht
    rw [Addr.add_mid]
    have hm : j % 6 = 0 ∨ j % 6 = 1 ∨ j % 6 = 2 ∨ j % 6 = 3 ∨ j % 6 = 4 ∨ j % 6 = 5 := by omega
    rcases hm with hm | hm | hm | hm | hm | hm
    · rw [show j / 6 * 6 = j by omega] at c1 g1
      rw [c1]; exact g1.symm.trans hu
    · rw [show o + j / 6 * 6 + 1 = o + j by omega] at c2
      rw [show j / 6 * 6 + 1 = j by omega] at g2
      rw [c2]; exact g2.symm.trans hu
    · rw [show o + j / 6 * 6 + 2 = o + j by omega] at c3
      rw [show j / 6 * 6 + 2 = j by omega] at g3
      rw [c3]; exact g3.symm.trans hu
    · rw [show o + j / 6 * 6 + 3 = o + j by omega] at c4
      rw [show j / 6 * 6 + 3 = j by omega] at g4
      rw [c4]; exact g4.symm.trans hu
    · rw [show o + j / 6 * 6 + 4 = o + j by omega] at c5
      rw [show j / 6 * 6 + 4 = j by omega] at g5
      rw [c5]; exact g5.symm.trans hu
    · rw [show o + j / 6 * 6 + 5 = o + j by omega] at c6
      rw [show j / 6 * 6 + 5 = j by omega] at g6
      rw [c6]; exact g6.symm.trans hu
  · obtain rfl : l = [] := by cases l with
      | nil => rfl
      | cons a r => simp at h0
    cases ao with
    | none => exact Src.ofNil _ T.und _
    | some a => exact Src.ofSlice _ T.und a _ _ [] rfl (fun j u hu => by simp at hu) (by simp)
/-- append of a row of structs. -/
theorem wpList_sx {P : Program} {S E : TypeId} {z : Value} {eb : Nat} (T : Elem6 P S E z eb) {ops : Array Oper} {rest : List Oper} {o : Oper} {a : Act} {w : World} {Q : Exit → Act → World → Prop} (hgd : o.guard = none) (s x : Operand)
    (ho : o.op = .call { callee := .builtin .append, args := #[s, x], argTypes := #[S, S] })
    {B : Nat} {w0 : World} {v : Value} {l : List SxV} (hv : a.eval s = v) (H : OSx E B w0 w v l) {vx : Value} {m : List SxV} (hx : a.eval x = vx) (L : SxRd w vx m) (h1 : ∀ u ∈ sxds m, u.oneCell' = true) (hl : (l.length + m.length) * eb ≤ 140737488355328) (hl2 : l.length + m.length ≤ 140737488355328)
    (h : ∀ (ao : Option Addr) (n cap : Nat) (w' : World), n = l.length + m.length → OSx E B w0 w' (.slice ao n cap) (l ++ m) → w.grownBy w' v.ownBlock → wpList P ops Q rest (a.put o.dst (.slice ao n cap)) w') :
    wpList P ops Q (o :: rest) a w := by
  obtain ⟨i0, hi, hz0, hz1, hz2⟩ := info_parts T.info
  refine wpList_append_src _ hgd s x S S ho B E i0 z 6 eb T.und hi hz0 hz1 hz2 T.cells (by decide) v l.length (sxds l) hv H.own vx m.length (sxds m) hx (L.src T h1) (by unfold maxLen; omega) (by omega) H.size ?_
  intro v2 w2 hown hg _ _
  have H2 := H.app (m := m) hown rfl hg
  obtain ⟨ao, cap, rfl⟩ := own_shape hown
  exact h ao _ cap w2 rfl H2 hg
theorem sxrd_new {w : World} {t : SxV} {E : TypeId} {m : Nat × Nat} : SxRd (w.alloc (.cells #[t.a, t.b, t.c, t.d, t.e, t.f] E m)) (.slice (some ⟨w.heap.size, 0, none⟩) 1 1) [t] := by
  refine ⟨_, _, rfl, Nat.le_refl _, by simp, fun _ => ⟨_, _, rfl, by simp, fun i u hi => ?_⟩⟩
  have : i = 0 := by have := (List.getElem?_eq_some_iff.1 hi).1; simp at this; omega
  subst this
  simp only [List.getElem?_cons_zero, Option.some.injEq] at hi
  subst hi
  have hb := heap_alloc_new w (.cells #[t.a, t.b, t.c, t.d, t.e, t.f] E m)
  have c0 := World.news_of_block hb 0 t.a rfl
  have c1 := World.news_of_block hb 1 t.b rfl
  have c2 := World.news_of_block hb 2 t.c rfl
  have c3 := World.news_of_block hb 3 t.d rfl
  have c4 := World.news_of_block hb 4 t.e rfl
  have c5 := World.news_of_block hb 5 t.f rfl
  rw [Addr.add_mid] at c0 c1 c2 c3 c4 c5
  exact ⟨c0, c1, c2, c3, c4, c5⟩
end Go.Proofs.Ytdmonbcinlmljaa

/- Descriptions as they lie in memory: a tree of rows. Bounds on sizes alone. -/
namespace Go.Proofs.Ytdmonbcinlmljaa
open Go.RowKit

abbrev R64 (n : Int) : Prop := -9223372036854775808 ≤ n ∧ n ≤ 9223372036854775807
/-- The slice v reads as rules in names. -/
def RuR (w : World) (v : Value) (rs : List Gr) : Prop := ∃ l : List PV, PRd w v l ∧ l.length = rs.length ∧ ∀ (i : Nat) (t : PV) (r : Gr), l[i]? = some t → rs[i]? = some r → Rd w t.1 (ss r.1) ∧ t.2 = .string (ba r.2)
theorem RuR.at {w w' : World} {v : Value} {rs : List Gr} (h : RuR w v rs) (hb : Below w.heap.size w w') : RuR w' v rs := by
  obtain ⟨l, h1, h2, h3⟩ := h
  exact ⟨l, h1.at hb, h2, fun i t r ht hr => ⟨(h3 i t r ht hr).1.at hb, (h3 i t r ht hr).2⟩⟩
theorem rur_nil (w : World) : RuR w (.slice none 0 0) [] := ⟨[], prd_nil w, rfl, fun i t r ht => by simp at ht⟩
/-- No string is longer than what there is. -/
def Ok (l : List Str) : Prop := ∀ y ∈ l, y.length ≤ 9223372036854775807
def OkR (rs : List Gr) : Prop := ∀ r ∈ rs, Ok r.1 ∧ r.2.length ≤ 9223372036854775807 ∧ r.1.length ≤ 8796093021952
/-- The cells of a description. -/
structure LX where
  k : Int
  lo : Int
  hi : Int
  vn : Value
  vp : Value
  vr : Value
def LX.q (x : LX) : SxV := ⟨.int .i64 x.k, .int .i64 x.lo, .int .i64 x.hi, x.vn, x.vp, x.vr⟩
def LX.val (x : LX) : Value := .agg #[.int .i64 x.k, .int .i64 x.lo, .int .i64 x.hi, x.vn, x.vp, x.vr]
/-- The cells x are the description t. -/
inductive LD (w : World) : LX → Lat → Prop
  | mk {x : LX} {t : Lat} (ps : List LX) (hk : x.k = t.k) (hlo : x.lo = t.lo) (hhi : x.hi = t.hi) (rk : R64 x.k) (rlo : R64 x.lo) (rhi : R64 x.hi)
      (hn : Rd w x.vn (ss t.ns)) (on : Ok t.ns) (hr : RuR w x.vr t.rs) (or : OkR t.rs) (hp : SxRd w x.vp (ps.map LX.q)) (hl : ps.length = t.ps.length)
      (hd : ∀ (i : Nat) (y : LX) (u : Lat), ps[i]? = some y → t.ps[i]? = some u → LD w y u) : LD w x t
theorem LD.at {w w' : World} {x : LX} {t : Lat} (h : LD w x t) (hb : Below w.heap.size w w') : LD w' x t := by
  induction h with
  | mk ps hk hlo hhi rk rlo rhi hn on hr or hp hl hd ih => exact .mk ps hk hlo hhi rk rlo rhi (hn.at hb) on (hr.at hb) or (hp.at hb) hl ih
/-- The slice v reads as the descriptions ts. -/
def LDs (w : World) (v : Value) (ts : List Lat) : Prop := ∃ ps : List LX, SxRd w v (ps.map LX.q) ∧ ps.length = ts.length ∧ ∀ (i : Nat) (y : LX) (u : Lat), ps[i]? = some y → ts[i]? = some u → LD w y u
theorem LDs.at {w w' : World} {v : Value} {ts : List Lat} (h : LDs w v ts) (hb : Below w.heap.size w w') : LDs w' v ts := by
  obtain ⟨ps, h1, h2, h3⟩ := h
  exact ⟨ps, h1.at hb, h2, fun i y u hy hu => (h3 i y u hy hu).at hb⟩
theorem lds_nil (w : World) : LDs w (.slice none 0 0) [] := ⟨[], sxrd_nil w, rfl, fun i y u hy => by simp at hy⟩
/-- A description, its fields apart. -/
structure LO (w : World) (k lo hi : Int) (an : Option Addr) (nn cn : Nat) (ap : Option Addr) (np cp : Nat) (ar : Option Addr) (nr cr : Nat) (t : Lat) : Prop where
  hk : k = t.k
  hlo : lo = t.lo
  hhi : hi = t.hi
  rk : R64 k
  rlo : R64 lo
  rhi : R64 hi
  n : Rd w (.slice an nn cn) (ss t.ns)
  on : Ok t.ns
  ln : nn = t.ns.length
  p : LDs w (.slice ap np cp) t.ps
  lp : np = t.ps.length
  r : RuR w (.slice ar nr cr) t.rs
  or : OkR t.rs
  lr : nr = t.rs.length
theorem LDs.len {w : World} {a : Option Addr} {n c : Nat} {ts : List Lat} (h : LDs w (.slice a n c) ts) : n = ts.length ∧ n ≤ c ∧ c ≤ 9223372036854775807 := by
  obtain ⟨ps, h1, h2, _⟩ := h
  have := h1.cut
  rw [List.length_map] at this
  omega
theorem RuR.len {w : World} {a : Option Addr} {n c : Nat} {rs : List Gr} (h : RuR w (.slice a n c) rs) : n = rs.length ∧ n ≤ c ∧ c ≤ 9223372036854775807 := by
  obtain ⟨l, h1, h2, _⟩ := h
  have := h1.cut
  omega
theorem LD.open {w : World} {x : LX} {t : Lat} (h : LD w x t) : ∃ k lo hi an nn cn ap np cp ar nr cr, x = ⟨k, lo, hi, .slice an nn cn, .slice ap np cp, .slice ar nr cr⟩ ∧ LO w k lo hi an nn cn ap np cp ar nr cr t := by
  obtain ⟨ps, hk, hlo, hhi, rk, rlo, rhi, hn, on, hr, or, hp, hl, hd⟩ := h
  obtain ⟨k, lo, hi, vn, vp, vr⟩ := x
  have hn0 := hn
  have hr0 := hr
  have hp0 : LDs w vp t.ps := ⟨ps, hp, hl, hd⟩
  obtain ⟨an, cn, rfl, _⟩ := hn
  obtain ⟨lr, ⟨ar, cr, rfl, _⟩, _⟩ := hr
  obtain ⟨ap, cp, rfl, _⟩ := hp
  exact ⟨_, _, _, _, _, _, _, _, _, _, _, _, rfl, hk, hlo, hhi, rk, rlo, rhi, hn0, on, (rds_open hn0).1, hp0, hp0.len.1, hr0, or, hr0.len.1⟩
theorem LO.ld {w : World} {k lo hi : Int} {an : Option Addr} {nn cn : Nat} {ap : Option Addr} {np cp : Nat} {ar : Option Addr} {nr cr : Nat} {t : Lat} (h : LO w k lo hi an nn cn ap np cp ar nr cr t) : LD w ⟨k, lo, hi, .slice an nn cn, .slice ap np cp, .slice ar nr cr⟩ t := by
  obtain ⟨ps, h1, h2, h3⟩ := h.p
  exact .mk ps h.hk h.hlo h.hhi h.rk h.rlo h.rhi h.n h.on h.r h.or h1 h2 h3
theorem LO.at {w w' : World} {k lo hi : Int} {an : Option Addr} {nn cn : Nat} {ap : Option Addr} {np cp : Nat} {ar : Option Addr} {nr cr : Nat} {t : Lat} (h : LO w k lo hi an nn cn ap np cp ar nr cr t) (hb : Below w.heap.size w w') : LO w' k lo hi an nn cn ap np cp ar nr cr t :=
  ⟨h.hk, h.hlo, h.hhi, h.rk, h.rlo, h.rhi, h.n.at hb, h.on, h.ln, h.p.at hb, h.lp, h.r.at hb, h.or, h.lr⟩
/-- A part of a row of descriptions. -/
theorem LDs.get {w : World} {a : Option Addr} {n c : Nat} {ts : List Lat} (h : LDs w (.slice a n c) ts) {i : Nat} {t : Lat} (hi : ts[i]? = some t) :
    ∃ (g o : Nat) (k lo hi : Int) (an : Option Addr) (nn cn : Nat) (ap : Option Addr) (np cp : Nat) (ar : Option Addr) (nr cr : Nat), a = some ⟨g, o, none⟩ ∧ LO w k lo hi an nn cn ap np cp ar nr cr t ∧
      ∀ w', Below w.heap.size w w' → w'.cell? ⟨g, o + i * 6, none⟩ = some (.int .i64 k) ∧ w'.cell? ⟨g, o + i * 6 + 1, none⟩ = some (.int .i64 lo) ∧ w'.cell? ⟨g, o + i * 6 + 2, none⟩ = some (.int .i64 hi) ∧ w'.cell? ⟨g, o + i * 6 + 3, none⟩ = some (.slice an nn cn) ∧ w'.cell? ⟨g, o + i * 6 + 4, none⟩ = some (.slice ap np cp) ∧ w'.cell? ⟨g, o + i * 6 + 5, none⟩ = some (.slice ar nr cr) := by
  obtain ⟨ps, h1, h2, h3⟩ := h
  have hil := (List.getElem?_eq_some_iff.1 hi).1
  obtain ⟨y, hy⟩ : ∃ y, ps[i]? = some y := ⟨_, List.getElem?_eq_getElem (by omega)⟩
  obtain ⟨k, lo, hi', an, nn, cn, ap, np, cp, ar, nr, cr, rfl, ho⟩ := (h3 i _ t hy hi).open
  have e : (ps.map LX.q)[i]? = some (LX.q ⟨k, lo, hi', .slice an nn cn, .slice ap np cp, .slice ar nr cr⟩) := by rw [List.getElem?_map, hy]; rfl
  obtain ⟨g, o, e1, _⟩ := h1.get e
  refine ⟨g, o, k, lo, hi', an, nn, cn, ap, np, cp, ar, nr, cr, e1, ho, fun w' hb => ?_⟩
  obtain ⟨g', o', e2, r⟩ := (h1.at hb).get e
  rw [e1] at e2
  simp only [Option.some.injEq, Addr.mk.injEq, and_true] at e2
  obtain ⟨rfl, rfl⟩ := e2
  exact r
end Go.Proofs.Ytdmonbcinlmljaa

/- Depth of package lattice. Bounds on the depth and on sizes alone. -/
namespace Go.Proofs.Ytdmonbcinlmljaa
open Go.RowKit

theorem depthsL_get : ∀ (l : List Lat) (i : Nat) (p : Lat), l[i]? = some p → depthL p ≤ depthsL l := by
  intro l
  induction l with
  | nil => intro i p h; simp at h
  | cons q l ih =>
    intro i p h
    rw [depthsL]
    cases i with
    | zero => simp at h; subst h; omega
    | succ i => have := ih i p (by simpa using h); omega
theorem depthsL_snoc : ∀ (l : List Lat) (p : Lat), depthsL (l ++ [p]) = max (depthsL l) (depthL p) := by
  intro l
  induction l with
  | nil => intro p; simp [depthsL]
  | cons q l ih => intro p; simp only [List.cons_append, depthsL, ih]; omega
theorem depthsL_take : ∀ (l : List Lat) (i : Nat), depthsL (l.take i) ≤ depthsL l := by
  intro l
  induction l with
  | nil => intro i; simp
  | cons p l ih =>
    intro i
    cases i with
    | zero => simp [depthsL]
    | succ i => have := ih i; simp only [List.take_succ_cons, depthsL]; omega
theorem depthL_eq (t : Lat) : depthL t = depthsL t.ps + 1 := by cases t; rw [depthL]; rfl
theorem take_next {α : Type} {l : List α} {i : Nat} {p : α} (h : l[i]? = some p) : l.take (i + 1) = l.take i ++ [p] := by
  rw [List.take_add_one, h]; rfl
def DepP (t : Lat) (w : World) (e : Ending) (w' : World) : Prop := e = .returned (.int .i64 (depthL t : Nat)) ∧ Below w.heap.size w w'
set_option maxRecDepth 100000 in
set_option maxHeartbeats 3200000 in
theorem depth_any : ∀ (t : Lat) (k lo hi : Int) (an : Option Addr) (nn cn : Nat) (ap : Option Addr) (np cp : Nat) (ar : Option Addr) (nr cr : Nat) (w : World), LO w k lo hi an nn cn ap np cp ar nr cr t → depthL t ≤ 1000 → Calls Try.prog 17 #[.agg #[.int .i64 k, .int .i64 lo, .int .i64 hi, .slice an nn cn, .slice ap np cp, .slice ar nr cr]] w (DepP t w) := by
  refine lat_ind ?_
  intro k' lo' hi' ns' ps' rs' ih k lo hi an nn cn ap np cp ar nr cr w H hD
  rw [depthL_eq] at hD
  have hl := H.p.len
  have HN : Hid (np = ps'.length) := hid_of hl.1
  have hn : np ≤ 9223372036854775807 := by omega
  have HP := hid_of H.p
  have HD := hid_of hD
  have IH := hid_of ih
  simp only [Lat.ps] at HP HD
  have HE : Hid (depthL ⟨k', lo', hi', ns', ps', rs'⟩ = depthsL ps' + 1) := hid_of (depthL_eq _)
  generalize (Lat.mk k' lo' hi' ns' ps' rs') = T at HE
  clear hl H hD ih
  go_enter Try.func17, Try.ntmps17
  go_wp2
  go_loopw [3, 9] (fun mv iv wr => ∃ i m : Nat, iv = .int .i64 i ∧ i ≤ np ∧ mv = .int .i64 m ∧ Hid (m = depthsL (ps'.take i)) ∧ Hid (Below w.heap.size w wr)) (fun _ iv _ => np - (intOf iv).toNat)
  case atStart => exact ⟨0, 0, rfl, Nat.zero_le _, rfl, hid_of rfl, hid_of (bel_alloc _ _)⟩
  case round =>
    obtain ⟨i, m, rfl, hi, rfl, HM, hb⟩ := hrel
    by_cases hlt : i < np
    · have d1 : decide (i < np) = true := decide_eq_true hlt
      have hlt' : (i : Int) < (np : Int) := by omega
      have HLT := hid_of hlt
      obtain ⟨u, hu⟩ : ∃ u, ps'[i]? = some u := ⟨_, List.getElem?_eq_getElem (by have := HN.out; omega)⟩
      obtain ⟨g, o, kA, loA, hiA, anA, nnA, cnA, apA, npA, cpA, arA, nrA, crA, rfl, LU, hc⟩ := HP.out.get hu
      obtain ⟨c0, c1, c2, c3, c4, c5⟩ := hc wr hb.out
      have hdu := depthsL_get _ _ _ hu
      obtain ⟨q, hq⟩ : ∃ q, q = depthL u := ⟨_, rfl⟩
      have hm : m ≤ 1000 := by
        rw [HM.out]
        have := depthsL_take ps' i
        have := HD.out
        omega
      have hqm : q ≤ 1000 := by have := HD.out; omega
      have CALL := hid_of (IH.out u (List.mem_of_getElem? hu) kA loA hiA anA nnA cnA apA npA cpA arA nrA crA)
      have HS : Hid (depthsL (ps'.take (i + 1)) = max m q) := hid_of (by rw [take_next hu, depthsL_snoc, HM.out, hq])
      have HQ := hid_of hq
      have LV := hid_of LU
      clear hlt hc hu hdu hq LU
      go_wp2_with (go_at_call 17; ((with_reducible refine (CALL.out _ (LV.out.at (hb.out.alloc hb.out.size _)) (Nat.le_trans (Nat.le_of_eq HQ.out.symm) hqm)).mono ?_); (rintro e w2 ⟨rfl, h2⟩)); (rw [← HQ.out]); (have H2 := hid_of h2); clear h2)
      go_roundw
      case rel => exact ⟨i + 1, max m q, by go_num, HLT.out, by go_num, hid_of HS.out.symm, hid_of ((hb.out.alloc hb.out.size _).trans (H2.out.mono (by simp; exact Nat.le_succ_of_le hb.out.size)))⟩
      case measure => have := HLT.out; simp [intOf]; omega
    · have d1 : decide (i < np) = false := decide_eq_false hlt
      have HI : Hid (i = np) := hid_of (by omega)
      have hm : m ≤ 1000 := by
        rw [HM.out]
        have := depthsL_take ps' i
        have := HD.out
        omega
      go_wp2
      go_ret
      refine ⟨?_, hb.out⟩
      rw [HE.out]
      have h1 := HM.out
      rw [HI.out, HN.out, List.take_length] at h1
      rw [h1]
      go_num
end Go.Proofs.Ytdmonbcinlmljaa

/- all of package lattice, over whatever function. Bounds on sizes alone. -/
namespace Go.Proofs.Ytdmonbcinlmljaa
open Go.RowKit

def BoP (b : Bool) (w : World) (e : Ending) (w' : World) : Prop := e = .returned (.bool b) ∧ Below w.heap.size w w'
theorem all_yes {f : Lat → Bool} {l : List Lat} {n : Nat} (hn : n = l.length) (h : ∀ i, i < n → ∀ p, l[i]? = some p → f p = true) : l.all f = true := by
  rw [List.all_eq_true]
  intro p hp
  obtain ⟨i, hi⟩ := List.getElem?_of_mem hp
  exact h i (by have := (List.getElem?_eq_some_iff.1 hi).1; omega) p hi
theorem all_no {f : Lat → Bool} {l : List Lat} {i : Nat} {p : Lat} (h : l[i]? = some p) (hf : f p = false) : l.all f = false := by
  rw [Bool.eq_false_iff]
  intro h2
  rw [List.all_eq_true] at h2
  rw [h2 p (List.mem_of_getElem? h)] at hf
  cases hf
set_option maxRecDepth 100000 in
set_option maxHeartbeats 3200000 in
theorem all_any (F : Nat) (f : Lat → Bool) (eg : ∀ args w, (callFunc F args).run Try.prog w = .ok (.enter F args) w) (ap : Option Addr) (np cp : Nat) (ts : List Lat) (w : World) (R : LDs w (.slice ap np cp) ts)
    (hF : ∀ p ∈ ts, ∀ (k lo hi : Int) (an : Option Addr) (nn cn : Nat) (ap : Option Addr) (np cp : Nat) (ar : Option Addr) (nr cr : Nat) (w : World), LO w k lo hi an nn cn ap np cp ar nr cr p → Calls Try.prog F #[.agg #[.int .i64 k, .int .i64 lo, .int .i64 hi, .slice an nn cn, .slice ap np cp, .slice ar nr cr]] w (BoP (f p) w)) :
    Calls Try.prog 39 #[.slice ap np cp, .func (.func F) #[] #[]] w (BoP (ts.all f) w) := by
  have hl := R.len
  have HN : Hid (np = ts.length) := hid_of hl.1
  have hn : np ≤ 9223372036854775807 := by omega
  have HP := hid_of R
  have HF := hid_of hF
  clear hl R hF
  go_enter Try.func39, Try.ntmps39
  go_wp2
  go_loopw [9] (fun iv wr => ∃ i : Nat, iv = .int .i64 i ∧ i ≤ np ∧ Hid (∀ j, j < i → ∀ p, ts[j]? = some p → f p = true) ∧ Hid (Below w.heap.size w wr)) (fun iv _ => np - (intOf iv).toNat)
  case atStart => exact ⟨0, rfl, Nat.zero_le _, hid_of (fun j h => absurd h (Nat.not_lt_zero j)), hid_of (Below.refl _ _)⟩
  case round =>
    obtain ⟨i, rfl, hi, HM, hb⟩ := hrel
    by_cases hlt : i < np
    · have d1 : decide (i < np) = true := decide_eq_true hlt
      have hlt' : (i : Int) < (np : Int) := by omega
      have HLT := hid_of hlt
      obtain ⟨u, hu⟩ : ∃ u, ts[i]? = some u := ⟨_, List.getElem?_eq_getElem (by have := HN.out; omega)⟩
      obtain ⟨g, o, kA, loA, hiA, anA, nnA, cnA, apA, npA, cpA, arA, nrA, crA, rfl, LU, hc⟩ := HP.out.get hu
      obtain ⟨c0, c1, c2, c3, c4, c5⟩ := hc wr hb.out
      have CALL := hid_of (HF.out u (List.mem_of_getElem? hu) kA loA hiA anA nnA cnA apA npA cpA arA nrA crA)
      have HU := hid_of hu
      have LV := hid_of LU
      clear hlt hc hu LU
      obtain ⟨b, hb2⟩ : ∃ b, b = f u := ⟨_, rfl⟩
      have HB := hid_of hb2
      rw [← hb2] at CALL
      clear hb2
      cases b
      · go_wp2_with (go_at_fn F; go_loud (refine (CALL.out _ (LV.out.at (hb.out.alloc hb.out.size _))).mono ?_; rintro e w2 ⟨rfl, h2⟩; have H2 := hid_of h2; clear h2))
        go_ret
        exact ⟨ret_b (all_no HU.out HB.out.symm).symm, (hb.out.alloc hb.out.size _).trans (H2.out.mono (by simp; exact Nat.le_succ_of_le hb.out.size))⟩
      · go_wp2_with (go_at_fn F; go_loud (refine (CALL.out _ (LV.out.at (hb.out.alloc hb.out.size _))).mono ?_; rintro e w2 ⟨rfl, h2⟩; have H2 := hid_of h2; clear h2))
        go_roundw
        case rel => exact ⟨i + 1, by go_num, HLT.out, hid_of (fun j hj p hp => by
          by_cases e : j = i
          · subst e
            rw [HU.out] at hp
            cases hp
            exact HB.out.symm
          · exact HM.out j (by omega) p hp), hid_of ((hb.out.alloc hb.out.size _).trans (H2.out.mono (by simp; exact Nat.le_succ_of_le hb.out.size)))⟩
        case measure => have := HLT.out; simp [intOf]; omega
    · have d1 : decide (i < np) = false := decide_eq_false hlt
      have HI : Hid (i = np) := hid_of (by omega)
      go_wp2
      go_ret
      exact ⟨ret_b (all_yes HN.out (fun j hj p hp => HM.out j (by have := HI.out; omega) p hp)).symm, hb.out⟩
end Go.Proofs.Ytdmonbcinlmljaa

/- Finite and Distributive of package lattice. Bounds on sizes alone. -/
namespace Go.Proofs.Ytdmonbcinlmljaa
open Go.RowKit

theorem bo_old {b : Bool} {w w1 w' : World} {e : Ending} (h : e = .returned (.bool b) ∧ Below w1.heap.size w1 w') (hb : Below w.heap.size w w1) : BoP b w e w' :=
  ⟨h.1, hb.trans (h.2.mono hb.size)⟩
theorem gt0 (l : List Str) (n : Nat) (h : n = l.length) : (!l.isEmpty) = decide (0 < n) := by
  cases l <;> simp at h ⊢ <;> omega
set_option maxRecDepth 100000 in
set_option maxHeartbeats 3200000 in
theorem finite_any : ∀ (t : Lat) (k lo hi : Int) (an : Option Addr) (nn cn : Nat) (ap : Option Addr) (np cp : Nat) (ar : Option Addr) (nr cr : Nat) (w : World), LO w k lo hi an nn cn ap np cp ar nr cr t → Calls Try.prog 15 #[.agg #[.int .i64 k, .int .i64 lo, .int .i64 hi, .slice an nn cn, .slice ap np cp, .slice ar nr cr]] w (BoP (finL t) w) := by
  refine lat_ind ?_
  intro k' lo' hi' ns' ps' rs' ih k lo hi an nn cn ap np cp ar nr cr w H
  obtain rfl : k = k' := H.hk
  have HN : Hid (nn = ns'.length) := hid_of H.ln
  have hnn : nn ≤ 9223372036854775807 := by have := (rds_open H.n); omega
  have CALL := hid_of (fun (wz : World) (hz : Below w.heap.size w wz) => all_any 15 finL (enters_of Try.func15 (by kernel_rfl) rfl) ap np cp ps' wz (H.p.at hz) ih)
  rw [← finsL_all] at CALL
  obtain ⟨q, hq⟩ : ∃ q, q = finsL ps' := ⟨_, rfl⟩
  rw [← hq] at CALL
  rw [finL, ← hq, gt0 ns' nn H.ln]
  clear H ih hq
  have HB := hid_of (bel_alloc w (.cells #[.int .i64 k, .int .i64 lo, .int .i64 hi, .slice an nn cn, .slice ap np cp, .slice ar nr cr] 26))
  rcases kinds k with rfl | rfl | rfl | rfl | rfl | rfl | rfl | rfl | rfl | rfl | hx
  case inr.inr.inr.inr.inr.inr.inr.inr.inr.inr =>
    obtain ⟨h1, h2, h3, h4, h5, h6, h7, h8, h9, h10⟩ := hx
    simp only [h1, h2, h3, h4, h5, h6, h7, h8, h10, or_self, if_false]
    go_enter Try.func15, Try.ntmps15
    go_wp2
    go_ret
    exact ⟨rfl, HB.out⟩
  all_goals simp only [Int.reduceEq, or_self, or_false, false_or, or_true, true_or, if_true, if_false]
  case inr.inr.inr.inr.inl =>
    by_cases h0 : nn = 0
    · subst h0
      rw [decide_eq_false (Nat.lt_irrefl 0), Bool.false_and]
      go_enter Try.func15, Try.ntmps15
      go_wp2
      go_ret
      exact ⟨rfl, HB.out⟩
    · have d0 : decide (0 < nn) = true := decide_eq_true (by omega)
      rw [d0, Bool.true_and]
      go_enter Try.func15, Try.ntmps15
      go_wp2_with (go_at_call 39; ((with_reducible refine (CALL.out _ HB.out).mono ?_); (rintro e w2 ⟨rfl, h2⟩)); (have H2 := hid_of h2); clear h2)
      go_ret
      exact ⟨rfl, HB.out.trans (H2.out.mono HB.out.size)⟩
  case inr.inr.inr.inr.inr.inl | inr.inr.inr.inr.inr.inr.inl =>
    go_enter Try.func15, Try.ntmps15
    go_wp2_with (go_at_call 39; ((with_reducible refine (CALL.out _ HB.out).mono ?_); (rintro e w2 ⟨rfl, h2⟩)); (have H2 := hid_of h2); clear h2)
    go_ret
    exact ⟨rfl, HB.out.trans (H2.out.mono HB.out.size)⟩
  all_goals go_enter Try.func15, Try.ntmps15
  all_goals go_wp2
  all_goals go_ret
  all_goals exact ⟨rfl, HB.out⟩
set_option maxRecDepth 100000 in
set_option maxHeartbeats 3200000 in
theorem dist_any : ∀ (t : Lat) (k lo hi : Int) (an : Option Addr) (nn cn : Nat) (ap : Option Addr) (np cp : Nat) (ar : Option Addr) (nr cr : Nat) (w : World), LO w k lo hi an nn cn ap np cp ar nr cr t → Calls Try.prog 16 #[.agg #[.int .i64 k, .int .i64 lo, .int .i64 hi, .slice an nn cn, .slice ap np cp, .slice ar nr cr]] w (BoP (distL t) w) := by
  refine lat_ind ?_
  intro k' lo' hi' ns' ps' rs' ih k lo hi an nn cn ap np cp ar nr cr w H
  obtain rfl : k = k' := H.hk
  have CALL := hid_of (fun (wz : World) (hz : Below w.heap.size w wz) => all_any 16 distL (enters_of Try.func16 (by kernel_rfl) rfl) ap np cp ps' wz (H.p.at hz) ih)
  rw [← distsL_all] at CALL
  obtain ⟨q, hq⟩ : ∃ q, q = distsL ps' := ⟨_, rfl⟩
  rw [← hq] at CALL
  rw [distL, ← hq]
  clear H ih hq
  have HB := hid_of (bel_alloc w (.cells #[.int .i64 k, .int .i64 lo, .int .i64 hi, .slice an nn cn, .slice ap np cp, .slice ar nr cr] 26))
  by_cases h8 : k = 8
  · subst h8
    go_enter Try.func16, Try.ntmps16
    go_wp2
    go_ret
    exact ⟨rfl, HB.out⟩
  by_cases h10 : k = 10
  · subst h10
    go_enter Try.func16, Try.ntmps16
    go_wp2
    go_ret
    exact ⟨rfl, HB.out⟩
  rw [if_neg (by omega)]
  have e8 : (k != 8) = true := bne_iff_ne.2 h8
  have e10 : (k != 10) = true := bne_iff_ne.2 h10
  clear h8 h10
  go_enter Try.func16, Try.ntmps16
  go_wp2_with (go_at_call 39; ((with_reducible refine (CALL.out _ HB.out).mono ?_); (rintro e w2 ⟨rfl, h2⟩)); (have H2 := hid_of h2); clear h2)
  go_ret
  exact ⟨rfl, HB.out.trans (H2.out.mono HB.out.size)⟩
end Go.Proofs.Ytdmonbcinlmljaa

/- Whether two rows of strings are the same: slices.Equal, and the reference's names. Bounds on sizes alone. -/
namespace Go.Proofs.Ytdmonbcinlmljaa
open Go.RowKit

set_option maxRecDepth 100000 in
set_option maxHeartbeats 3200000 in
theorem seqs_any (l m : List Str) (ao bo : Option Addr) (n n2 cap cap2 : Nat) (w : World) (R1 : Rd w (.slice ao n cap) (ss l)) (R2 : Rd w (.slice bo n2 cap2) (ss m)) :
    Calls Try.prog 22 #[.slice ao n cap, .slice bo n2 cap2] w (BoP (decide (l = m)) w) := by
  obtain ⟨hn, _, hcap, h3⟩ := rds_open R1
  obtain ⟨hn2, _, hcap2, k3⟩ := rds_open R2
  obtain ⟨r, hr⟩ : ∃ r, r = decide (l = m) := ⟨_, rfl⟩
  rw [← hr]
  have HR := hid_of hr
  clear hr R1 R2
  by_cases hnn : n = n2
  case neg =>
    have RF : Hid (false = r) := hid_of (by rw [HR.out]; exact (decide_eq_false (fun h => hnn (by rw [hn, hn2, h]))).symm)
    have e1 : (n == n2) = false := beq_eq_false_iff_ne.2 hnn
    have e2 : ((n : Int) == (n2 : Int)) = false := beq_eq_false_iff_ne.2 (by omega)
    have e3 : ((n : Int) != (n2 : Int)) = true := bne_iff_ne.2 (by omega)
    clear hnn hn hn2 h3 k3
    go_enter Try.func22, Try.ntmps22
    go_wp2
    go_ret
    exact ⟨ret_b RF.out, Below.refl _ _⟩
  subst hnn
  have HN := hid_of hn
  have HN2 := hid_of hn2
  have H3 := hid_of h3
  have K3 := hid_of k3
  clear hn hn2 h3 k3
  go_enter Try.func22, Try.ntmps22
  go_wp2
  go_loopw [13] (fun iv wr => ∃ i : Nat, iv = .int .i64 i ∧ i ≤ n ∧ Hid (∀ j, j < i → l[j]? = m[j]?) ∧ Hid (Below w.heap.size w wr)) (fun iv _ => n - (intOf iv).toNat)
  case atStart => exact ⟨0, rfl, Nat.zero_le _, hid_of (fun j h => absurd h (Nat.not_lt_zero j)), hid_of (Below.refl _ _)⟩
  case round =>
    obtain ⟨i, rfl, hi, HM, hb⟩ := hrel
    by_cases hlt : i < n
    · have d1 : decide (i < n) = true := decide_eq_true hlt
      have hlt' : (i : Int) < (n : Int) := by omega
      have HLT := hid_of hlt
      have hl : i < l.length := by have := HN.out; omega
      have hm : i < m.length := by have := HN2.out; omega
      rcases H3.out with h3 | ⟨g, o, rfl, hg, hc⟩
      · exfalso; rw [h3] at hl; simp at hl
      rcases K3.out with k3 | ⟨g2, o2, rfl, hg2, hc2⟩
      · exfalso; rw [k3] at hm; simp at hm
      have c1 := (hb.out.cell (p := ⟨g, o + i, none⟩) hg).trans (hc i _ (List.getElem?_eq_getElem hl))
      have c2 := (hb.out.cell (p := ⟨g2, o2 + i, none⟩) hg2).trans (hc2 i _ (List.getElem?_eq_getElem hm))
      obtain ⟨bx, hx⟩ : ∃ bx, bx = ba l[i] := ⟨_, rfl⟩
      obtain ⟨by', hy⟩ : ∃ by', by' = ba m[i] := ⟨_, rfl⟩
      rw [← hx] at c1
      rw [← hy] at c2
      by_cases he : l[i] = m[i]
      · have et := eq_t hx hy he
        have HE : Hid (∀ j, j < i + 1 → l[j]? = m[j]?) := hid_of (fun j hj => by
          by_cases e : j = i
          · subst e; rw [List.getElem?_eq_getElem hl, List.getElem?_eq_getElem hm, he]
          · exact HM.out j (by omega))
        clear hlt hc hc2 hx hy he hl hm H3 K3 hg hg2 HM
        go_wp2
        go_quiet (fail)
        go_wp2
        go_roundw
        case rel => exact ⟨i + 1, by go_num, HLT.out, HE, hid_of (bel_drewN hb.out _)⟩
        case measure => have := HLT.out; simp [intOf]; omega
      · have et := eq_f hx hy he
        have RF : Hid (false = r) := hid_of (by
          rw [HR.out]
          refine (decide_eq_false fun h => he ?_).symm
          subst h; rfl)
        clear hlt hc hc2 hx hy he hl hm H3 K3 hg hg2 HM
        go_wp2
        go_quiet (fail)
        go_wp2
        go_ret
        exact ⟨ret_b RF.out, bel_drewN hb.out _⟩
    · have d1 : decide (i < n) = false := decide_eq_false hlt
      have RT : Hid (true = r) := hid_of (by
        rw [HR.out]
        refine (decide_eq_true ?_).symm
        refine List.ext_getElem? fun j => ?_
        by_cases hj : j < n
        · exact HM.out j (by omega)
        · rw [List.getElem?_eq_none (by have := HN.out; omega), List.getElem?_eq_none (by have := HN2.out; omega)])
      go_wp2
      go_ret
      exact ⟨ret_b RT.out, hb.out⟩

set_option maxRecDepth 100000 in
set_option maxHeartbeats 3200000 in
theorem rnames_any (l m : List Str) (ao bo : Option Addr) (n n2 cap cap2 : Nat) (w : World) (R1 : Rd w (.slice ao n cap) (ss l)) (R2 : Rd w (.slice bo n2 cap2) (ss m)) :
    Calls Try.prog 36 #[.slice ao n cap, .slice bo n2 cap2] w (BoP (decide (l = m)) w) := by
  obtain ⟨hn, _, hcap, h3⟩ := rds_open R1
  obtain ⟨hn2, _, hcap2, k3⟩ := rds_open R2
  obtain ⟨r, hr⟩ : ∃ r, r = decide (l = m) := ⟨_, rfl⟩
  rw [← hr]
  have HR := hid_of hr
  clear hr R1 R2
  by_cases hnn : n = n2
  case neg =>
    have RF : Hid (false = r) := hid_of (by rw [HR.out]; exact (decide_eq_false (fun h => hnn (by rw [hn, hn2, h]))).symm)
    have e1 : (n == n2) = false := beq_eq_false_iff_ne.2 hnn
    have e2 : ((n : Int) == (n2 : Int)) = false := beq_eq_false_iff_ne.2 (by omega)
    have e3 : ((n : Int) != (n2 : Int)) = true := bne_iff_ne.2 (by omega)
    clear hnn hn hn2 h3 k3
    go_enter Try.func36, Try.ntmps36
    go_wp2
    go_ret
    exact ⟨ret_b RF.out, Below.refl _ _⟩
  subst hnn
  have HN := hid_of hn
  have HN2 := hid_of hn2
  have H3 := hid_of h3
  have K3 := hid_of k3
  clear hn hn2 h3 k3
  go_enter Try.func36, Try.ntmps36
  go_wp2
  go_loopw [5] (fun iv wr => ∃ i : Nat, iv = .int .i64 i ∧ i ≤ n ∧ Hid (∀ j, j < i → l[j]? = m[j]?) ∧ Hid (Below w.heap.size w wr)) (fun iv _ => n - (intOf iv).toNat)
  case atStart => exact ⟨0, rfl, Nat.zero_le _, hid_of (fun j h => absurd h (Nat.not_lt_zero j)), hid_of (Below.refl _ _)⟩
  case round =>
    obtain ⟨i, rfl, hi, HM, hb⟩ := hrel
    by_cases hlt : i < n
    · have d1 : decide (i < n) = true := decide_eq_true hlt
      have hlt' : (i : Int) < (n : Int) := by omega
      have HLT := hid_of hlt
      have hl : i < l.length := by have := HN.out; omega
      have hm : i < m.length := by have := HN2.out; omega
      rcases H3.out with h3 | ⟨g, o, rfl, hg, hc⟩
      · exfalso; rw [h3] at hl; simp at hl
      rcases K3.out with k3 | ⟨g2, o2, rfl, hg2, hc2⟩
      · exfalso; rw [k3] at hm; simp at hm
      have c1 := (hb.out.cell (p := ⟨g, o + i, none⟩) hg).trans (hc i _ (List.getElem?_eq_getElem hl))
      have c2 := (hb.out.cell (p := ⟨g2, o2 + i, none⟩) hg2).trans (hc2 i _ (List.getElem?_eq_getElem hm))
      obtain ⟨bx, hx⟩ : ∃ bx, bx = ba l[i] := ⟨_, rfl⟩
      obtain ⟨by', hy⟩ : ∃ by', by' = ba m[i] := ⟨_, rfl⟩
      rw [← hx] at c1
      rw [← hy] at c2
      by_cases he : l[i] = m[i]
      · have et := eq_t hx hy he
        have HE : Hid (∀ j, j < i + 1 → l[j]? = m[j]?) := hid_of (fun j hj => by
          by_cases e : j = i
          · subst e; rw [List.getElem?_eq_getElem hl, List.getElem?_eq_getElem hm, he]
          · exact HM.out j (by omega))
        clear hlt hc hc2 hx hy he hl hm H3 K3 hg hg2 HM
        go_wp2
        go_quiet (fail)
        go_wp2
        go_roundw
        case rel => exact ⟨i + 1, by go_num, HLT.out, HE, hid_of (bel_drewN hb.out _)⟩
        case measure => have := HLT.out; simp [intOf]; omega
      · have et := eq_f hx hy he
        have RF : Hid (false = r) := hid_of (by
          rw [HR.out]
          refine (decide_eq_false fun h => he ?_).symm
          subst h; rfl)
        clear hlt hc hc2 hx hy he hl hm H3 K3 hg hg2 HM
        go_wp2
        go_quiet (fail)
        go_wp2
        go_ret
        exact ⟨ret_b RF.out, bel_drewN hb.out _⟩
    · have d1 : decide (i < n) = false := decide_eq_false hlt
      have RT : Hid (true = r) := hid_of (by
        rw [HR.out]
        refine (decide_eq_true ?_).symm
        refine List.ext_getElem? fun j => ?_
        by_cases hj : j < n
        · exact HM.out j (by omega)
        · rw [List.getElem?_eq_none (by have := HN.out; omega), List.getElem?_eq_none (by have := HN2.out; omega)])
      go_wp2
      go_ret
      exact ⟨ret_b RT.out, hb.out⟩

end Go.Proofs.Ytdmonbcinlmljaa

/- Rows of rules: equalRules, slices.EqualFunc over rules and over descriptions. Bounds on sizes alone. -/
namespace Go.Proofs.Ytdmonbcinlmljaa
open Go.RowKit

theorem RuR.get {w : World} {ao : Option Addr} {n c : Nat} {rs : List Gr} (h : RuR w (.slice ao n c) rs) {i : Nat} {r : Gr} (hi : rs[i]? = some r) :
    ∃ (g o : Nat) (a : Option Addr) (k d : Nat), ao = some ⟨g, o, none⟩ ∧ Rd w (.slice a k d) (ss r.1) ∧ ∀ w', Below w.heap.size w w' → w'.cell? ⟨g, o + i * 2, none⟩ = some (.slice a k d) ∧ w'.cell? ⟨g, o + i * 2 + 1, none⟩ = some (.string (ba r.2)) := by
  obtain ⟨l, h1, h2, h3⟩ := h
  have hil := (List.getElem?_eq_some_iff.1 hi).1
  obtain ⟨t, ht⟩ : ∃ t, l[i]? = some t := ⟨_, List.getElem?_eq_getElem (by omega)⟩
  obtain ⟨q1, q2⟩ := h3 i t r ht hi
  obtain ⟨t1, t2⟩ := t
  simp only at q1 q2
  have q0 := q1
  obtain ⟨a, d, rfl, _⟩ := q1
  subst q2
  obtain ⟨g, o, e1, _⟩ := h1.get ht
  refine ⟨g, o, a, _, d, e1, q0, fun w' hb => ?_⟩
  obtain ⟨g', o', e2, r⟩ := (h1.at hb).get ht
  rw [e1] at e2
  simp only [Option.some.injEq, Addr.mk.injEq, and_true] at e2
  obtain ⟨rfl, rfl⟩ := e2
  exact r
theorem gr_dec (a b : Gr) : decide (a = b) = (decide (a.2 = b.2) && decide (a.1 = b.1)) := by
  obtain ⟨a1, a2⟩ := a
  obtain ⟨b1, b2⟩ := b
  simp only [Prod.mk.injEq, Bool.decide_and]
  exact Bool.and_comm _ _
set_option maxRecDepth 100000 in
theorem eqrule_any (x y : Gr) (a b : Option Addr) (n n2 c c2 : Nat) (w : World) (R1 : Rd w (.slice a n c) (ss x.1)) (R2 : Rd w (.slice b n2 c2) (ss y.1)) :
    Calls Try.prog 25 #[.agg #[.slice a n c, .string (ba x.2)], .agg #[.slice b n2 c2, .string (ba y.2)]] w (BoP (decide (x = y)) w) := by
  rw [gr_dec]
  have CALL := hid_of (fun (wz : World) (hz : Below w.heap.size w wz) => seqs_any x.1 y.1 a b n n2 c c2 wz (R1.at hz) (R2.at hz))
  obtain ⟨q, hq⟩ : ∃ q, q = decide (x.1 = y.1) := ⟨_, rfl⟩
  rw [← hq] at CALL ⊢
  clear hq R1 R2
  obtain ⟨bx, hx⟩ : ∃ bx, bx = ba x.2 := ⟨_, rfl⟩
  obtain ⟨bz, hy⟩ : ∃ bz, bz = ba y.2 := ⟨_, rfl⟩
  rw [← hx, ← hy]
  have HBB := hid_of (((Below.refl w.heap.size w).alloc (Nat.le_refl _) (.cells #[.slice a n c, .string bx] 47)).alloc (by simp) (.cells #[.slice b n2 c2, .string bz] 47))
  by_cases he : x.2 = y.2
  · have et := eq_t hx hy he
    rw [decide_eq_true he, Bool.true_and]
    clear hx hy he
    go_enter Try.func25, Try.ntmps25
    go_wp2_with (go_at_call 22; ((with_reducible refine (CALL.out _ HBB.out).mono ?_); (rintro e w2 ⟨rfl, h2⟩)); (have HX := hid_of h2); clear h2)
    go_ret
    exact ⟨rfl, HBB.out.trans (HX.out.mono (by simp; omega))⟩
  · have et := eq_f hx hy he
    rw [decide_eq_false he, Bool.false_and]
    clear hx hy he
    go_enter Try.func25, Try.ntmps25
    go_wp2
    go_ret
    exact ⟨rfl, HBB.out⟩

set_option maxRecDepth 100000 in
set_option maxHeartbeats 3200000 in
theorem eqfr_any (F : Nat) (eg : ∀ args w, (callFunc F args).run Try.prog w = .ok (.enter F args) w) (l m : List Gr) (ao bo : Option Addr) (n n2 cap cap2 : Nat) (w : World) (R1 : RuR w (.slice ao n cap) l) (R2 : RuR w (.slice bo n2 cap2) m)
    (hF : ∀ x ∈ l, ∀ (y : Gr) (a b : Option Addr) (k k2 c c2 : Nat) (w : World), Rd w (.slice a k c) (ss x.1) → Rd w (.slice b k2 c2) (ss y.1) → Calls Try.prog F #[.agg #[.slice a k c, .string (ba x.2)], .agg #[.slice b k2 c2, .string (ba y.2)]] w (BoP (decide (x = y)) w)) :
    Calls Try.prog 24 #[.slice ao n cap, .slice bo n2 cap2, .func (.func F) #[] #[]] w (BoP (decide (l = m)) w) := by
  obtain ⟨hn, hnc, hcap⟩ := R1.len
  obtain ⟨hn2, hnc2, hcap2⟩ := R2.len
  obtain ⟨r, hr⟩ : ∃ r, r = decide (l = m) := ⟨_, rfl⟩
  rw [← hr]
  have HR := hid_of hr
  have H1 := hid_of R1
  have H2 := hid_of R2
  have HF := hid_of hF
  clear hr R1 R2 hF
  by_cases hnn : n = n2
  case neg =>
    have RF : Hid (false = r) := hid_of (by rw [HR.out]; exact (decide_eq_false (fun h => hnn (by rw [hn, hn2, h]))).symm)
    have e1 : (n == n2) = false := beq_eq_false_iff_ne.2 hnn
    have e2 : ((n : Int) == (n2 : Int)) = false := beq_eq_false_iff_ne.2 (by omega)
    have e3 : ((n : Int) != (n2 : Int)) = true := bne_iff_ne.2 (by omega)
    clear hnn hn hn2
    go_enter Try.func24, Try.ntmps24
    go_wp2
    go_ret
    exact ⟨ret_b RF.out, Below.refl _ _⟩
  subst hnn
  have HN := hid_of hn
  have HN2 := hid_of hn2
  clear hn hn2
  go_enter Try.func24, Try.ntmps24
  go_wp2
  go_loopw [17] (fun iv wr => ∃ i : Nat, iv = .int .i64 i ∧ i ≤ n ∧ Hid (∀ j, j < i → l[j]? = m[j]?) ∧ Hid (Below w.heap.size w wr)) (fun iv _ => n - (intOf iv).toNat)
  case atStart => exact ⟨0, rfl, Nat.zero_le _, hid_of (fun j h => absurd h (Nat.not_lt_zero j)), hid_of (Below.refl _ _)⟩
  case round =>
    obtain ⟨i, rfl, hi, HM, hb⟩ := hrel
    by_cases hlt : i < n
    · have d1 : decide (i < n) = true := decide_eq_true hlt
      have hlt' : (i : Int) < (n : Int) := by omega
      have HLT := hid_of hlt
      have hl : i < l.length := by have := HN.out; omega
      have hm : i < m.length := by have := HN2.out; omega
      obtain ⟨g, o, aA, kA, dA, rfl, RA, hcA⟩ := H1.out.get (List.getElem?_eq_getElem hl)
      obtain ⟨c0, c1⟩ := hcA wr hb.out
      obtain ⟨g2, o2, aB, kB, dB, rfl, RB, hcB⟩ := H2.out.get (List.getElem?_eq_getElem hm)
      obtain ⟨b0, b1⟩ := hcB (wr.alloc (.cells #[.slice aA kA dA, .string (ba l[i].2)] 47)) (hb.out.alloc hb.out.size _)
      obtain ⟨bx, hx⟩ : ∃ bx, bx = ba l[i].2 := ⟨_, rfl⟩
      obtain ⟨bz, hy⟩ : ∃ bz, bz = ba m[i].2 := ⟨_, rfl⟩
      have HBB := hid_of ((hb.out.alloc (B := w.heap.size) hb.out.size (.cells #[.slice aA kA dA, .string (ba l[i].2)] 47)).alloc (by simp; exact Nat.le_succ_of_le hb.out.size) (.cells #[.slice aB kB dB, .string (ba m[i].2)] 47))
      have CALL := hid_of (HF.out l[i] (List.getElem_mem hl) m[i] aA aB kA kB dA dB _ (RA.at HBB.out) (RB.at HBB.out))
      rw [← hx] at CALL c1 b0 b1 HBB
      rw [← hy] at CALL b1 HBB
      clear hx hy hcA hcB RA RB
      obtain ⟨q, hq⟩ : ∃ q, q = decide (l[i] = m[i]) := ⟨_, rfl⟩
      rw [← hq] at CALL
      have HL := hid_of hl
      have HMM := hid_of hm
      cases q
      · have RF : Hid (false = r) := hid_of (by
          rw [HR.out]
          refine (decide_eq_false fun h => of_decide_eq_false hq.symm ?_).symm
          subst h; rfl)
        clear hlt hq hl hm
        go_wp2_with (go_at_fn F; go_loud (refine (CALL.out).mono ?_; rintro e w2 ⟨rfl, h2⟩; have HX := hid_of h2; clear h2))
        go_ret
        exact ⟨ret_b RF.out, HBB.out.trans (HX.out.mono (by have := hb.out.size; simp; omega))⟩
      · have HE : Hid (∀ j, j < i + 1 → l[j]? = m[j]?) := hid_of (fun j hj => by
          by_cases e : j = i
          · subst e; rw [List.getElem?_eq_getElem hl, List.getElem?_eq_getElem hm, of_decide_eq_true hq.symm]
          · exact HM.out j (by omega))
        clear hlt hq hl hm
        go_wp2_with (go_at_fn F; go_loud (refine (CALL.out).mono ?_; rintro e w2 ⟨rfl, h2⟩; have HX := hid_of h2; clear h2))
        go_roundw
        case rel => exact ⟨i + 1, by go_num, HLT.out, HE, hid_of (HBB.out.trans (HX.out.mono (by have := hb.out.size; simp; omega)))⟩
        case measure => have := HLT.out; simp [intOf]; omega
    · have d1 : decide (i < n) = false := decide_eq_false hlt
      have RT : Hid (true = r) := hid_of (by
        rw [HR.out]
        refine (decide_eq_true ?_).symm
        refine List.ext_getElem? fun j => ?_
        by_cases hj : j < n
        · exact HM.out j (by omega)
        · rw [List.getElem?_eq_none (by have := HN.out; omega), List.getElem?_eq_none (by have := HN2.out; omega)])
      go_wp2
      go_ret
      exact ⟨ret_b RT.out, hb.out⟩

set_option maxRecDepth 100000 in
set_option maxHeartbeats 3200000 in
theorem eqfl_any (F : Nat) (eg : ∀ args w, (callFunc F args).run Try.prog w = .ok (.enter F args) w) (l m : List Lat) (ao bo : Option Addr) (n n2 cap cap2 : Nat) (w : World) (R1 : LDs w (.slice ao n cap) l) (R2 : LDs w (.slice bo n2 cap2) m)
    (hF : ∀ x ∈ l, ∀ (y : Lat) (kA loA hiA : Int) (anA : Option Addr) (nnA cnA : Nat) (apA : Option Addr) (npA cpA : Nat) (arA : Option Addr) (nrA crA : Nat) (kB loB hiB : Int) (anB : Option Addr) (nnB cnB : Nat) (apB : Option Addr) (npB cpB : Nat) (arB : Option Addr) (nrB crB : Nat) (w : World), LO w kA loA hiA anA nnA cnA apA npA cpA arA nrA crA x → LO w kB loB hiB anB nnB cnB apB npB cpB arB nrB crB y → Calls Try.prog F #[.agg #[.int .i64 kA, .int .i64 loA, .int .i64 hiA, .slice anA nnA cnA, .slice apA npA cpA, .slice arA nrA crA], .agg #[.int .i64 kB, .int .i64 loB, .int .i64 hiB, .slice anB nnB cnB, .slice apB npB cpB, .slice arB nrB crB]] w (BoP (decide (x = y)) w)) :
    Calls Try.prog 23 #[.slice ao n cap, .slice bo n2 cap2, .func (.func F) #[] #[]] w (BoP (decide (l = m)) w) := by
  obtain ⟨hn, hnc, hcap⟩ := R1.len
  obtain ⟨hn2, hnc2, hcap2⟩ := R2.len
  obtain ⟨r, hr⟩ : ∃ r, r = decide (l = m) := ⟨_, rfl⟩
  rw [← hr]
  have HR := hid_of hr
  have H1 := hid_of R1
  have H2 := hid_of R2
  have HF := hid_of hF
  clear hr R1 R2 hF
  by_cases hnn : n = n2
  case neg =>
    have RF : Hid (false = r) := hid_of (by rw [HR.out]; exact (decide_eq_false (fun h => hnn (by rw [hn, hn2, h]))).symm)
    have e1 : (n == n2) = false := beq_eq_false_iff_ne.2 hnn
    have e2 : ((n : Int) == (n2 : Int)) = false := beq_eq_false_iff_ne.2 (by omega)
    have e3 : ((n : Int) != (n2 : Int)) = true := bne_iff_ne.2 (by omega)
    clear hnn hn hn2
    go_enter Try.func23, Try.ntmps23
    go_wp2
    go_ret
    exact ⟨ret_b RF.out, Below.refl _ _⟩
  subst hnn
  have HN := hid_of hn
  have HN2 := hid_of hn2
  clear hn hn2
  go_enter Try.func23, Try.ntmps23
  go_wp2
  go_loopw [17] (fun iv wr => ∃ i : Nat, iv = .int .i64 i ∧ i ≤ n ∧ Hid (∀ j, j < i → l[j]? = m[j]?) ∧ Hid (Below w.heap.size w wr)) (fun iv _ => n - (intOf iv).toNat)
  case atStart => exact ⟨0, rfl, Nat.zero_le _, hid_of (fun j h => absurd h (Nat.not_lt_zero j)), hid_of (Below.refl _ _)⟩
  case round =>
    obtain ⟨i, rfl, hi, HM, hb⟩ := hrel
    by_cases hlt : i < n
    · have d1 : decide (i < n) = true := decide_eq_true hlt
      have hlt' : (i : Int) < (n : Int) := by omega
      have HLT := hid_of hlt
      have hl : i < l.length := by have := HN.out; omega
      have hm : i < m.length := by have := HN2.out; omega
      obtain ⟨g, o, kA, loA, hiA, anA, nnA, cnA, apA, npA, cpA, arA, nrA, crA, rfl, LA, hcA⟩ := H1.out.get (List.getElem?_eq_getElem hl)
      obtain ⟨c0, c1, c2, c3, c4, c5⟩ := hcA wr hb.out
      obtain ⟨g2, o2, kB, loB, hiB, anB, nnB, cnB, apB, npB, cpB, arB, nrB, crB, rfl, LB, hcB⟩ := H2.out.get (List.getElem?_eq_getElem hm)
      obtain ⟨b0, b1, b2, b3, b4, b5⟩ := hcB (wr.alloc (.cells #[.int .i64 kA, .int .i64 loA, .int .i64 hiA, .slice anA nnA cnA, .slice apA npA cpA, .slice arA nrA crA] 26)) (hb.out.alloc hb.out.size _)
      have HBB := hid_of ((hb.out.alloc (B := w.heap.size) hb.out.size (.cells #[.int .i64 kA, .int .i64 loA, .int .i64 hiA, .slice anA nnA cnA, .slice apA npA cpA, .slice arA nrA crA] 26)).alloc (by simp; exact Nat.le_succ_of_le hb.out.size) (.cells #[.int .i64 kB, .int .i64 loB, .int .i64 hiB, .slice anB nnB cnB, .slice apB npB cpB, .slice arB nrB crB] 26))
      have CALL := hid_of (HF.out l[i] (List.getElem_mem hl) m[i] kA loA hiA anA nnA cnA apA npA cpA arA nrA crA kB loB hiB anB nnB cnB apB npB cpB arB nrB crB _ (LA.at HBB.out) (LB.at HBB.out))
      clear hcA hcB LA LB
      obtain ⟨q, hq⟩ : ∃ q, q = decide (l[i] = m[i]) := ⟨_, rfl⟩
      rw [← hq] at CALL
      have HL := hid_of hl
      have HMM := hid_of hm
      cases q
      · have RF : Hid (false = r) := hid_of (by
          rw [HR.out]
          refine (decide_eq_false fun h => of_decide_eq_false hq.symm ?_).symm
          subst h; rfl)
        clear hlt hq hl hm
        go_wp2_with (go_at_fn F; go_loud (refine (CALL.out).mono ?_; rintro e w2 ⟨rfl, h2⟩; have HX := hid_of h2; clear h2))
        go_ret
        exact ⟨ret_b RF.out, HBB.out.trans (HX.out.mono (by have := hb.out.size; simp; omega))⟩
      · have HE : Hid (∀ j, j < i + 1 → l[j]? = m[j]?) := hid_of (fun j hj => by
          by_cases e : j = i
          · subst e; rw [List.getElem?_eq_getElem hl, List.getElem?_eq_getElem hm, of_decide_eq_true hq.symm]
          · exact HM.out j (by omega))
        clear hlt hq hl hm
        go_wp2_with (go_at_fn F; go_loud (refine (CALL.out).mono ?_; rintro e w2 ⟨rfl, h2⟩; have HX := hid_of h2; clear h2))
        go_roundw
        case rel => exact ⟨i + 1, by go_num, HLT.out, HE, hid_of (HBB.out.trans (HX.out.mono (by have := hb.out.size; simp; omega)))⟩
        case measure => have := HLT.out; simp [intOf]; omega
    · have d1 : decide (i < n) = false := decide_eq_false hlt
      have RT : Hid (true = r) := hid_of (by
        rw [HR.out]
        refine (decide_eq_true ?_).symm
        refine List.ext_getElem? fun j => ?_
        by_cases hj : j < n
        · exact HM.out j (by omega)
        · rw [List.getElem?_eq_none (by have := HN.out; omega), List.getElem?_eq_none (by have := HN2.out; omega)])
      go_wp2
      go_ret
      exact ⟨ret_b RT.out, hb.out⟩

end Go.Proofs.Ytdmonbcinlmljaa
