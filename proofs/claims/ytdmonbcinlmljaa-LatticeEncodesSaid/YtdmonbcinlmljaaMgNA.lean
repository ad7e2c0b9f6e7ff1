/- Texts in one: AppOwn, Row, NmChr, NmVal, NamSet, NmStr, NmSrt, LatMath, LatPrm, WireMath, WireBase, WireWriter, WireWS, WireRdA, WireDec. -/
import Derived.Deep.AppendSrc
import Derived.Deep.AppendLies
import Derived.WalkKit
import Derived.WalkSpells
import Derived.WalkLawsBesides
import Derived.Below
import Derived.Laws.CopyOwn
import Derived.Deep.RegionHeld3
import Derived.Deep.RegionLaw
import Derived.Deep.QuietTactic
import Derived.BigQuiet
import Derived.BigRegion
import Derived.RegionTactic
import Derived.StillTailTactics
import Derived.IntWalk
import Derived.Outline
import Derived.Lib.Hide
import Derived.OpenShut
import Derived.Deep.Draws
import Derived.Test.YtdmonbcinlmljaaProg
import Derived.RowKit
import Derived.Sort.LotA
import Derived.Sort.EncStr
import Derived.Test.YtdmonbcinlmljaaRows
import Derived.Laws.BitsAllLaws
import Derived.Laws.Bits64
set_option linter.unusedVariables false
set_option linter.unusedSimpArgs false
/- append of whatever source (a slice, a nil slice, a string) onto a slice that the call owns: the law for the walk. It asks that the sizes fit. -/
namespace Go.Proofs.Ytdmonbcinlmljaa

section
variable {P : Program} (w : World)

theorem run_append_src_own (base : Nat) (t tx ty e : TypeId) (i : TypeInfo) (z : Value) (size bytes : Nat) (ht : P.underlying t = some (.slice e)) (hi : P.info? e = some i) (hz : i.zero = some z)
    (hsize : i.size = size) (hby : i.bytes = bytes) (hzs : z.cells.size = size) (hsz : 0 < size)
    (v : Value) (n : Nat) (xs : List Value) (hown : w.ownsRow base e size v n xs) (x : Value) (m : Nat) (news : List Value) (hs : Src P size tx x m news w)
    (h63 : n + m ≤ maxLen) (hbytes : (n + m) * bytes ≤ 140737488355328) (hbase : base ≤ w.heap.size) :
    ∃ v' w', (Builtin.append_ #[t, tx] ty #[v, x]).run P w = .ok v' w' ∧ w'.ownsRow base e size v' (n + m) (xs ++ news) ∧ w.grownBy w' v.ownBlock ∧
      (v' = .slice none 0 0 ↔ v = .slice none 0 0 ∧ m = 0) ∧ (v'.ownBlock = v.ownBlock ∨ v'.ownBlock = some w.heap.size) := by
  subst hsize
  subst hby
  have hl := hs.newsLen
  have hsmall : n + m ≤ 9223372036854775807 := by simp only [maxLen] at h63; omega
  have hlen : (xs ++ news).length = (n + m) * i.size := by rw [List.length_append, hown.1, hl, Nat.add_mul]
  have grown : ∀ (old : Nat), old < n + m → ∀ (row : Option Nat),
      (w.drew.alloc (.cells ((xs ++ news).toArray ++ Builtin.zeroCells z.cells (grownCap w (n + m) old e - (n + m))) e)).ownsRow base e i.size
        (.slice (some ⟨w.heap.size, 0, none⟩) (n + m) (grownCap w (n + m) old e)) (n + m) (xs ++ news) ∧
      w.grownBy (w.drew.alloc (.cells ((xs ++ news).toArray ++ Builtin.zeroCells z.cells (grownCap w (n + m) old e - (n + m))) e)) row := by
    intro old ho row
    have hge := grownCap_ge w (n + m) old e
    have hcm : grownCap w (n + m) old e ≤ maxLen := grownCap_le_maxLen w (n + m) old e h63
    refine ⟨⟨hlen, .inr ⟨w.heap.size, _, _, rfl, hbase, heap_alloc_new w.drew _, hge, hcm, ?_, ?_⟩⟩, ⟨rfl, rfl, rfl, by simp, fun k hk _ => Go.RowKit.Below.heap_alloc w.drew _ k hk⟩⟩
    · rw [Array.size_append, List.size_toArray, size_zeroCells, hzs, hlen, ← Nat.add_mul]
      congr 1
      omega
    · rw [Array.toList_append, ← hlen]
      exact List.take_left
  rcases hown.2 with ⟨rfl, rfl⟩ | ⟨g, cap, cur, rfl, hbg, hg, hnc, hcm, hcs, htake⟩
  · have hx : xs = [] := List.eq_nil_of_length_eq_zero (by simpa using hown.1)
    subst hx
    by_cases hm : m = 0
    · subst hm
      have hn : news = [] := List.eq_nil_of_length_eq_zero (by simpa using hl)
      subst hn
      refine ⟨.slice none 0 0, w, ?_, World.ownsRow_nil w base e i.size, ⟨rfl, rfl, rfl, Nat.le_refl _, fun _ _ _ => rfl⟩, by simp, Or.inl rfl⟩
      rcases hs.kind with ⟨e', hk⟩ | hk <;> simp [Builtin.append_, run_underlying ht, run_underlying hk, sizeOf, typeInfo, hi, hs.len, hs.cells]
    · have hr := run_append_grow_src (P := P) w t tx ty e i z ht hi hz none 0 0 [] (by simp [Builtin.firstCells]) x m news hs (by omega) (by omega) (growslice_fits (by omega) hbytes)
      have hgr := grown 0 (by omega) (Value.ownBlock (.slice none 0 0))
      exact ⟨_, _, hr, hgr.1, hgr.2, by simp [hm], Or.inr rfl⟩
  · by_cases hroom : n + m ≤ cap
    · have hfit : n * i.size + news.length ≤ cur.size := by rw [hl, hcs, ← Nat.add_mul]; exact Nat.mul_le_mul_right _ hroom
      have hst := run_storeCells_at P g (n * i.size) e news 0 cur w hg (by simpa using hfit) hs.one
      simp only [Nat.add_zero] at hst
      have hr : (Builtin.append_ #[t, tx] ty #[.slice (some ⟨g, 0, none⟩) n cap, x]).run P w =
          .ok (.slice (some ⟨g, 0, none⟩) (n + m) cap) (w.setRow g (cur.toList.take (n * i.size) ++ news ++ cur.toList.drop (n * i.size + news.length)).toArray) := by
        rcases hs.kind with ⟨e', hk⟩ | hk <;> simp [Builtin.append_, run_underlying ht, run_underlying hk, sizeOf, typeInfo, hi, hs.len, hroom, hs.cells, Addr.add_lit, hst]
      refine ⟨_, _, hr, ⟨hlen, .inr ⟨g, cap, _, rfl, hbg, setRow_heap w g cur _ e _ hg, hroom, hcm, ?_, ?_⟩⟩, ⟨rfl, rfl, rfl, by simp, fun k _ hk => setRow_other w g k _ (fun e => hk (by simp [Value.ownBlock, e]))⟩, by simp, Or.inl rfl⟩
      · simp only [List.size_toArray, List.length_append, List.length_take, List.length_drop, Array.length_toList]
        omega
      · rw [htake, ← hlen]
        exact List.take_left
    · have holds : ∀ j u, xs[j]? = some u → w.drew.cell? ((⟨g, 0, none⟩ : Addr).add j) = some u := by simpa using hown.cells (g := g) rfl
      have hr := run_append_grow_src (P := P) w t tx ty e i z ht hi hz (some ⟨g, 0, none⟩) n cap xs (run_firstCells_some w.drew i.size n ⟨g, 0, none⟩ n cap xs hown.1 holds) x m news hs (by omega) (by omega) (growslice_fits (by omega) hbytes)
      have hgr := grown cap (by omega) (Value.ownBlock (.slice (some ⟨g, 0, none⟩) n cap))
      exact ⟨_, _, hr, hgr.1, hgr.2, by simp, Or.inr rfl⟩

theorem wp_append_src {o : Oper} {a : Act} {K : Act → World → Prop} {Q : Exit → Act → World → Prop} (s x : Operand) (t tx : TypeId)
    (ho : o.op = .call { callee := .builtin .append, args := #[s, x], argTypes := #[t, tx] })
    (base : Nat) (e : TypeId) (i : TypeInfo) (z : Value) (size bytes : Nat) (ht : P.underlying t = some (.slice e)) (hi : P.info? e = some i) (hz : i.zero = some z)
    (hsize : i.size = size) (hby : i.bytes = bytes) (hzs : z.cells.size = size) (hsz : 0 < size)
    (v : Value) (n : Nat) (xs : List Value) (he : a.eval s = v) (hown : w.ownsRow base e size v n xs) (y : Value) (m : Nat) (news : List Value) (hx : a.eval x = y) (hs : Src P size tx y m news w)
    (h63 : n + m ≤ maxLen) (hbytes : (n + m) * bytes ≤ 140737488355328) (hbase : base ≤ w.heap.size)
    (h : ∀ v' w', w'.ownsRow base e size v' (n + m) (xs ++ news) → w.grownBy w' v.ownBlock → (v' = .slice none 0 0 ↔ v = .slice none 0 0 ∧ m = 0) → (v'.ownBlock = v.ownBlock ∨ v'.ownBlock = some w.heap.size) → K (a.put o.dst v') w') :
    Oper.wp P o a w K Q := by
  obtain ⟨v', w', hr, h2, h3, h4, h5⟩ := run_append_src_own (P := P) w base t tx o.type e i z size bytes ht hi hz hsize hby hzs hsz v n xs hown y m news hs h63 hbytes hbase
  unfold Oper.wp execOp
  simp only [ho, resolve, invoke, builtin, Sem.run_bind, Sem.run_pure, Result.andThen_ok, List.map_toArray, List.map_cons, List.map_nil, he, hx, hr]
  exact h v' w' h2 h3 h4 h5

theorem wpList_append_src {ops : Array Oper} {rest : List Oper} {o : Oper} {a : Act} {Q : Exit → Act → World → Prop} (hgd : o.guard = none) (s x : Operand) (t tx : TypeId)
    (ho : o.op = .call { callee := .builtin .append, args := #[s, x], argTypes := #[t, tx] })
    (base : Nat) (e : TypeId) (i : TypeInfo) (z : Value) (size bytes : Nat) (ht : P.underlying t = some (.slice e)) (hi : P.info? e = some i) (hz : i.zero = some z)
    (hsize : i.size = size) (hby : i.bytes = bytes) (hzs : z.cells.size = size) (hsz : 0 < size)
    (v : Value) (n : Nat) (xs : List Value) (he : a.eval s = v) (hown : w.ownsRow base e size v n xs) (y : Value) (m : Nat) (news : List Value) (hx : a.eval x = y) (hs : Src P size tx y m news w)
    (h63 : n + m ≤ maxLen) (hbytes : (n + m) * bytes ≤ 140737488355328) (hbase : base ≤ w.heap.size)
    (h : ∀ v' w', w'.ownsRow base e size v' (n + m) (xs ++ news) → w.grownBy w' v.ownBlock → (v' = .slice none 0 0 ↔ v = .slice none 0 0 ∧ m = 0) → (v'.ownBlock = v.ownBlock ∨ v'.ownBlock = some w.heap.size) → wpList P ops Q rest (a.put o.dst v') w') :
    wpList P ops Q (o :: rest) a w :=
  wpList_plain hgd fun _ hK => wp_append_src w s x t tx ho base e i z size bytes ht hi hz hsize hby hzs hsz v n xs he hown y m news hx hs h63 hbytes hbase fun v' w' h2 h3 h4 h5 => hK _ _ (h v' w' h2 h3 h4 h5)

theorem step_append_src {ops : Array Oper} {o : Oper} {a : Act} {K : Act → World → Prop} {Q : Exit → Act → World → Prop} {E : Prop} (hgd : o.guard = none) (s x : Operand) (t tx : TypeId)
    (ho : o.op = .call { callee := .builtin .append, args := #[s, x], argTypes := #[t, tx] })
    (base : Nat) (e : TypeId) (i : TypeInfo) (z : Value) (size bytes : Nat) (ht : P.underlying t = some (.slice e)) (hi : P.info? e = some i) (hz : i.zero = some z)
    (hsize : i.size = size) (hby : i.bytes = bytes) (hzs : z.cells.size = size) (hsz : 0 < size)
    (v : Value) (n : Nat) (xs : List Value) (he : a.eval s = v) (hown : w.ownsRow base e size v n xs) (y : Value) (m : Nat) (news : List Value) (hx : a.eval x = y) (hs : Src P size tx y m news w)
    (h63 : n + m ≤ maxLen) (hbytes : (n + m) * bytes ≤ 140737488355328) (hbase : base ≤ w.heap.size)
    (h : ∀ v' w', w'.ownsRow base e size v' (n + m) (xs ++ news) → w.grownBy w' v.ownBlock → (v' = .slice none 0 0 ↔ v = .slice none 0 0 ∧ m = 0) → (v'.ownBlock = v.ownBlock ∨ v'.ownBlock = some w.heap.size) → K (a.put o.dst v') w') :
    if Region.wanted o (yielded ops a.tmps) = true then Oper.wp P o a w K Q else E := by
  have hw : Region.wanted o (yielded ops a.tmps) = true := by simp [Region.wanted, hgd]
  rw [if_pos hw]
  exact wp_append_src w s x t tx ho base e i z size bytes ht hi hz hsize hby hzs hsz v n xs he hown y m news hx hs h63 hbytes hbase h

end
end Go.Proofs.Ytdmonbcinlmljaa

/- Slices of elements of one cell: what a slice reads as, a slice of the call's own, append of the one onto the other. Bounds on sizes alone. -/
namespace Go.Proofs.Ytdmonbcinlmljaa
open Go.RowKit

theorem hid_of {p : Prop} (h : p) : Hid p := h
theorem bel_alloc (w : World) (o : Obj) : Below w.heap.size w (w.alloc o) := (Below.refl _ _).alloc (Nat.le_refl _) o
theorem bel_fst {w w' : World} {o : Obj} (h : Below (w.alloc o).heap.size (w.alloc o) w') : Below w.heap.size w w' :=
  (bel_alloc w o).trans (h.mono (by simp))

theorem bel_drewN {B : Nat} {w w' : World} (h : Below B w w') (n : Nat) : Below B w (w'.drewN n) := ⟨h.os, h.tape, h.output, h.size, h.block⟩
/-- A slice type S over an element type E of one cell. -/
structure Elem (P : Program) (S E : TypeId) (z : Value) (eb : Nat) : Prop where
  und : P.underlying S = some (.slice E)
  info : (P.info? E).map (fun i => (i.zero, i.size, i.bytes)) = some (some z, 1, eb)
  one : z.cells.size = 1

/-- The slice v reads as the cells xs. -/
def Rd (w : World) (v : Value) (xs : List Value) : Prop :=
  ∃ ao cap, v = .slice ao xs.length cap ∧ xs.length ≤ cap ∧ cap ≤ 9223372036854775807 ∧ (0 < xs.length → ∃ g o, ao = some ⟨g, o, none⟩ ∧ g < w.heap.size ∧ ∀ j u, xs[j]? = some u → w.cell? ⟨g, o + j, none⟩ = some u)
theorem Rd.later {w w' : World} {v : Value} {l : List Value} {B : Nat} (h : Rd w v l) (hb : Below B w w') (hB : w.heap.size ≤ B) : Rd w' v l := by
  obtain ⟨ao, cap, h1, h2, h3, h4⟩ := h
  refine ⟨ao, cap, h1, h2, h3, fun h0 => ?_⟩
  obtain ⟨g, o, q1, q2, q3⟩ := h4 h0
  exact ⟨g, o, q1, Nat.lt_of_lt_of_le q2 hb.size, fun j u hu => (hb.cell (p := ⟨g, o + j, none⟩) (by show g < B; omega)).trans (q3 j u hu)⟩
theorem Rd.at {w w' : World} {v : Value} {l : List Value} (h : Rd w v l) (hb : Below w.heap.size w w') : Rd w' v l := h.later hb (Nat.le_refl _)

theorem spot_none {w : World} {x : Addr} {u : Value} (h : w.cell? x = some u) : x = ⟨x.block, x.off, none⟩ := by
  obtain ⟨b, o, s⟩ := x
  cases s with
  | none => rfl
  | some s =>
    exfalso
    unfold World.cell? at h
    split at h <;> simp at h

/-- What the walk is told of a slice of integers that came in. -/
def IsRow (k : IntKind) (w : World) (a : Option Addr) (len cap : Nat) (zs : List Int) : Prop :=
  (a = none ∧ len = 0 ∧ cap = 0 ∧ zs = []) ∨
  ∃ x, a = some x ∧ len ≤ cap ∧ cap ≤ maxLen ∧ zs.length = cap ∧ (∀ i, i < zs.length → w.cell? (x.add i) = some (.int k (zs.getD i 0))) ∧ ∀ n ∈ zs, (Lit.int k n).wf = true

/-- A row of integers that came in, as a list. -/
theorem IsRow.rd {k : IntKind} {w : World} {a : Option Addr} {len cap : Nat} {zs : List Int} (h : IsRow k w a len cap zs) :
    ∃ l : List Int, l.length = len ∧ (∀ y ∈ l, (Lit.int k y).wf = true) ∧ Rd w (.slice a len cap) (l.map (Value.int k)) := by
  rcases h with ⟨rfl, rfl, rfl, rfl⟩ | ⟨x, rfl, h1, h2, h3, h4, h5⟩
  · exact ⟨[], rfl, by simp, none, 0, rfl, by simp, by omega, fun h => by simp at h⟩
  · unfold maxLen at h2
    have htl : (zs.take len).length = len := by rw [List.length_take]; omega
    refine ⟨zs.take len, htl, fun y hy => h5 y (List.mem_of_mem_take hy), some x, cap, by rw [List.length_map, htl], by rw [List.length_map]; omega, by omega, fun h0 => ?_⟩
    rw [List.length_map, htl] at h0
    have h6 := h4 0 (by omega)
    rw [show x.add 0 = x by rfl] at h6
    have hx := spot_none h6
    refine ⟨x.block, x.off, by rw [← hx], World.block_lt_of_cell? w _ h6, fun j u hu => ?_⟩
    have hj : j < len := by
      have := (List.getElem?_eq_some_iff.1 hu).1
      simp at this; omega
    have h7 := h4 j (by omega)
    rw [hx, Addr.add_mid] at h7
    rw [h7]
    simp only [List.getElem?_map, List.getElem?_take, hj, if_true] at hu
    rw [List.getElem?_eq_getElem (by omega)] at hu
    simp only [Option.map_some, Option.some.injEq] at hu
    rw [← hu]
    simp [List.getD, show j < zs.length by omega]

theorem Rd.srcs {P : Program} {S E : TypeId} {z : Value} {eb : Nat} (T : Elem P S E z eb) {w : World} {v : Value} {l : List Value} (h : Rd w v l) (h1 : ∀ u ∈ l, u.oneCell' = true) : Src P 1 S v l.length l w := by
  obtain ⟨ao, cap, rfl, h2, h3, h4⟩ := h
  cases ao with
  | none =>
    cases l with
    | nil => exact Src.ofNil _ T.und cap
    | cons x r => obtain ⟨g, o, q, _⟩ := h4 (by simp); cases q
  | some a =>
    refine Src.ofSlice _ T.und a l.length cap l (by simp) (fun j u hu => ?_) h1
    have h0 : 0 < l.length := by
      have := (List.getElem?_eq_some_iff.1 hu).1
      omega
    obtain ⟨g, o, q1, q2, q3⟩ := h4 h0
    cases q1
    rw [Addr.add_mid]; exact q3 j u hu

theorem own_shape {w : World} {base e size n : Nat} {v : Value} {xs : List Value} (h : w.ownsRow base e size v n xs) : ∃ ao cap, v = .slice ao n cap := by
  rcases h.2 with ⟨h1, h2⟩ | ⟨g, cap, cur, h1, _⟩
  · exact ⟨none, 0, by rw [h1, h2]⟩
  · exact ⟨_, cap, h1⟩

/-- A slice of the call's own that holds l; below B the world is as w0 was. -/
def Ow (E : TypeId) (B : Nat) (w0 w : World) (v : Value) (l : List Value) : Prop := B ≤ w0.heap.size ∧ Below B w0 w ∧ w.ownsRow B E 1 v l.length l
section
variable {E : TypeId} {B : Nat} {w0 w w' : World} {v : Value} {l : List Value}
theorem Ow.size (h : Ow E B w0 w v l) : B ≤ w.heap.size := Nat.le_trans h.1 h.2.1.size
theorem Ow.own (h : Ow E B w0 w v l) : w.ownsRow B E 1 v l.length l := h.2.2
theorem Ow.bel (h : Ow E B w0 w v l) : Below B w0 w := h.2.1
theorem Ow.alloc (h : Ow E B w0 w v l) (o : Obj) : Ow E B w0 (w.alloc o) v l := ⟨h.1, h.2.1.alloc h.size _, h.2.2.alloc o⟩
theorem Ow.drew (h : Ow E B w0 w v l) : Ow E B w0 w.drew v l := ⟨h.1, h.2.1.drew, h.2.2.drew⟩
theorem Ow.app {n : Nat} {v' : Value} {m : List Value} (h : Ow E B w0 w v l) (hown : w'.ownsRow B E 1 v' n (l ++ m)) (hn : n = l.length + m.length) (hg : w.grownBy w' v.ownBlock) : Ow E B w0 w' v' (l ++ m) := by
  subst hn
  refine ⟨h.1, h.2.1.grown hg h.size (fun k hk => (h.own.lt k hk).1), ?_⟩
  rw [List.length_append]
  exact hown
/-- What is owned stays owned where the row's block is as it was. -/
theorem own_same {w w' : World} {base e size n : Nat} {v : Value} {xs : List Value} (h : w.ownsRow base e size v n xs) (hs : ∀ k, v.ownBlock = some k → w'.heap[k]? = w.heap[k]?) : w'.ownsRow base e size v n xs := by
  obtain ⟨h1, h2⟩ := h
  refine ⟨h1, ?_⟩
  rcases h2 with h2 | ⟨g, cap, cur, hv, hb, hg, r⟩
  · exact .inl h2
  · exact .inr ⟨g, cap, cur, hv, hb, (hs g (by rw [hv]; rfl)).trans hg, r⟩
theorem Ow.later (h : Ow E B w0 w v l) (hb : Below w.heap.size w w') : Ow E B w0 w' v l :=
  ⟨h.1, h.2.1.trans (hb.mono h.size), own_same h.own fun k hk => hb.block k (h.own.lt k hk).2⟩
theorem ow_made {n g : Nat} (hown : w'.ownsRow w.heap.size E 1 (.slice (some ⟨g, 0, none⟩) 0 n) 0 []) (hgrow : w.grownBy w' none) : Ow E w.heap.size w w' (.slice (some ⟨g, 0, none⟩) 0 n) [] :=
  ⟨Nat.le_refl _, (Below.refl _ _).grown hgrow (Nat.le_refl _) (fun k h => by cases h), hown⟩
theorem ow_empty (E : TypeId) (w : World) : Ow E w.heap.size w (w.alloc (.cells #[] E)) (.slice (some ⟨w.heap.size, 0, none⟩) 0 0) [] :=
  ⟨Nat.le_refl _, bel_alloc w _, rfl, .inr ⟨w.heap.size, 0, #[], rfl, Nat.le_refl _, heap_alloc_new w _, Nat.le_refl _, by unfold maxLen; omega, rfl, rfl⟩⟩
theorem ow_nil (E : TypeId) (w : World) : Ow E w.heap.size w w (.slice none 0 0) [] := ⟨Nat.le_refl _, Below.refl _ _, World.ownsRow_nil _ _ _ _⟩
theorem Ow.start (h : Ow E B w0 w v l) {B2 : Nat} {w2 : World} (hB : B2 ≤ w2.heap.size) (hb : Below B2 w2 w0) (hle : B2 ≤ B) : Ow E B2 w2 w v l := by
  refine ⟨hB, hb.trans (h.bel.mono hle), h.own.1, ?_⟩
  rcases h.own.2 with h2 | ⟨g, cap, cur, hv, hb2, hg, r⟩
  · exact .inl h2
  · exact .inr ⟨g, cap, cur, hv, Nat.le_trans hle hb2, hg, r⟩
theorem Ow.rd (h : Ow E B w0 w v l) (_hl : l.length ≤ 140737488355328) : Rd w v l := by
  rcases h.own.2 with ⟨h1, h2⟩ | ⟨g, c, cur, h1, _, hg, hnc, hcm, _, ht⟩
  · exact ⟨none, 0, by rw [h1, h2], by omega, by omega, fun h => by omega⟩
  · unfold maxLen at hcm
    refine ⟨_, _, h1, hnc, by omega, fun h0 => ⟨g, 0, rfl, lt_of_block hg, fun j u hu => ?_⟩⟩
    have := World.news_of_block hg j u (by
      rw [← ht, List.getElem?_take] at hu
      split at hu
      · exact hu
      · cases hu)
    rw [Addr.add_mid] at this
    exact this
end

/-- A slice over a block that was made last. -/
theorem rd_new {w : World} {l : List Value} {n : Nat} {cs : Array Value} {E : TypeId} {m : Nat × Nat} (hn : n = l.length) (hc : cs = l.toArray) (h : l.length ≤ 9223372036854775807) : Rd (w.alloc (.cells cs E m)) (.slice (some ⟨w.heap.size, 0, none⟩) n n) l := by
  subst hn hc
  refine ⟨_, _, rfl, Nat.le_refl _, h, fun _ => ⟨_, _, rfl, by simp, fun j u hu => ?_⟩⟩
  have := World.news_of_block (heap_alloc_new w (.cells l.toArray E m)) j u (by simpa using hu)
  rw [Addr.add_mid] at this
  exact this

/-- append of a row. -/
theorem wpList_app {P : Program} {S E : TypeId} {z : Value} {eb : Nat} (T : Elem P S E z eb) {ops : Array Oper} {rest : List Oper} {o : Oper} {a : Act} {w : World} {Q : Exit → Act → World → Prop} (hgd : o.guard = none) (s x : Operand)
    (ho : o.op = .call { callee := .builtin .append, args := #[s, x], argTypes := #[S, S] })
    {B : Nat} {w0 : World} {v : Value} {l : List Value} (hv : a.eval s = v) (H : Ow E B w0 w v l) {vx : Value} {m : List Value} (hx : a.eval x = vx) (L : Rd w vx m) (h1 : ∀ u ∈ m, u.oneCell' = true) (hl : (l.length + m.length) * eb ≤ 140737488355328) (hl2 : l.length + m.length ≤ 140737488355328)
    (h : ∀ (ao : Option Addr) (n cap : Nat) (w' : World), n = l.length + m.length → Ow E B w0 w' (.slice ao n cap) (l ++ m) → wpList P ops Q rest (a.put o.dst (.slice ao n cap)) w') :
    wpList P ops Q (o :: rest) a w := by
  obtain ⟨i0, hi, hz0, hz1, hz2⟩ := info_parts T.info
  refine wpList_append_src _ hgd s x S S ho B E i0 z 1 eb T.und hi hz0 hz1 hz2 T.one (by decide) v l.length l hv H.own vx m.length m hx (L.srcs T h1) (by unfold maxLen; omega) (by omega) H.size ?_
  intro v2 w2 hown hg _ _
  have H2 := H.app hown rfl hg
  obtain ⟨ao, cap, rfl⟩ := own_shape hown
  exact h ao _ cap w2 rfl H2

/-- Between w and w' nothing has turned but the blocks of S and new ones. -/
structure Kept (S : Nat → Prop) (w w' : World) : Prop where
  os : w'.os = w.os
  tape : w'.tape = w.tape
  output : w'.output = w.output
  size : w.heap.size ≤ w'.heap.size
  block : ∀ k, k < w.heap.size → ¬ S k → w'.heap[k]? = w.heap[k]?
theorem Kept.below {S : Nat → Prop} {w w' : World} {B : Nat} (h : Kept S w w') (hB : B ≤ w.heap.size) (hS : ∀ k, S k → B ≤ k) : Below B w w' :=
  ⟨h.os, h.tape, h.output, h.size, fun k hk => h.block k (by omega) (fun hs => by have := hS k hs; omega)⟩
theorem Kept.drew {S : Nat → Prop} {w w' : World} (h : Kept S w w') : Kept S w w'.drew := ⟨h.os, h.tape, h.output, h.size, h.block⟩
theorem Kept.drewN {S : Nat → Prop} {w w' : World} (h : Kept S w w') (n : Nat) : Kept S w (w'.drewN n) := ⟨h.os, h.tape, h.output, h.size, h.block⟩
theorem Kept.refl (S : Nat → Prop) (w : World) : Kept S w w := ⟨rfl, rfl, rfl, Nat.le_refl _, fun _ _ _ => rfl⟩
theorem Kept.trans {S : Nat → Prop} {w w1 w2 : World} (h : Kept S w w1) (h2 : Kept S w1 w2) : Kept S w w2 :=
  ⟨h2.os.trans h.os, h2.tape.trans h.tape, h2.output.trans h.output, Nat.le_trans h.size h2.size, fun k h1 hs => (h2.block k (Nat.lt_of_lt_of_le h1 h.size) hs).trans (h.block k h1 hs)⟩
theorem Kept.ofBelow {S : Nat → Prop} {w w' : World} (h : Below w.heap.size w w') : Kept S w w' := ⟨h.os, h.tape, h.output, h.size, fun k h1 _ => h.block k h1⟩
theorem Kept.set (w : World) (b o : Nat) (v : Value) : Kept (fun k => k = b) w (w.setCell ⟨b, o, none⟩ v) :=
  ⟨rfl, rfl, rfl, by simp, fun k _ hk => Below.heap_setCell _ _ _ _ hk⟩

theorem blk_setCell {w : World} {g k t : Nat} {cur : List Value} {u : Value} (h : w.heap[g]? = some (.cells cur.toArray t (0, 0))) :
    (w.setCell ⟨g, k, none⟩ u).heap[g]? = some (.cells (cur.set k u).toArray t (0, 0)) := by
  have hlt := lt_of_block h
  have h' : w.heap[g] = .cells cur.toArray t (0, 0) := by simpa [Array.getElem?_eq_getElem hlt] using h
  show (w.heap.modify g _)[g]? = _
  rw [Array.getElem?_eq_getElem (by simpa using hlt), Array.getElem_modify_self, h']
  simp

/-- What make has laid, as a whole block. -/
theorem made_row {w : World} {B g e n : Nat} {z : Value} {xs : List Value} (h : w.ownsRow B e 1 (.slice (some ⟨g, 0, none⟩) n n) n xs) (hx : xs = (madeCells #[z] n).toList := by (first | rfl | simp)) :
    w.heap[g]? = some (.cells (List.replicate n z).toArray e (0, 0)) := by
  obtain ⟨hn0, hn1⟩ := h
  rcases hn1 with ⟨h, _⟩ | ⟨g, cap', cur, h, _, hg, _, _, hsz, ht⟩
  · cases h
  · cases h
    rw [hg]
    have e : cur.toList = (madeCells #[z] n).toList := by
      rw [← hx, ← ht, List.take_of_length_le (by simp [hsz])]
    rw [toList_madeCells_one] at e
    rw [← e]
end Go.Proofs.Ytdmonbcinlmljaa

/- The characters of a name; what a name is. -/
namespace Go.Proofs.Ytdmonbcinlmljaa
open Go.RowKit

def isl (c : Int) : Bool := decide (97 ≤ c) && decide (c ≤ 122)
def inw (c : Int) : Bool := isl c || (decide (48 ≤ c) && decide (c ≤ 57)) || decide (c = 45)
def isName : List Int → Bool
  | [] => false
  | c :: l => decide (l.length < 16) && isl c && (c :: l).all inw
def strBytes (s : ByteArray) : List Int := s.data.toList.map fun b => (b.toNat : Int)
theorem strBytes_length (s : ByteArray) : (strBytes s).length = s.size := by simp [strBytes]
theorem strBytes_at (s : ByteArray) (k : Nat) (h : k < s.size) : (strBytes s)[k]? = some ((s[k]).toNat : Int) := by
  have h2 : k < s.data.toList.length := by simpa using h
  simp only [strBytes, List.getElem?_map, List.getElem?_eq_getElem h2]
  rfl

set_option maxRecDepth 100000 in
theorem isLetter_any (c : Int) (w : World) : Calls Try.prog 72 #[.int .u8 c] w fun e w' => e = .returned (.bool (isl c)) ∧ w' = w := by
  obtain ⟨r, hr⟩ : ∃ r, r = isl c := ⟨_, rfl⟩
  rw [← hr]
  have HR := hid_of hr
  clear hr
  go_enter Try.func72, Try.ntmps72
  go_wp2
  all_goals go_ret
  all_goals
    refine ⟨congrArg (fun b => Ending.returned (Value.bool b)) ?_, rfl⟩
    rw [HR.out, Bool.eq_iff_iff]
    simp [isl]
    try omega
set_option maxRecDepth 100000 in
theorem inWord_any (c : Int) (w : World) : Calls Try.prog 73 #[.int .u8 c] w fun e w' => e = .returned (.bool (inw c)) ∧ w' = w := by
  obtain ⟨q, hq⟩ : ∃ q, q = isl c := ⟨_, rfl⟩
  have LET := hid_of (fun w => isLetter_any c w)
  rw [← hq] at LET
  obtain ⟨r, hr⟩ : ∃ r, r = inw c := ⟨_, rfl⟩
  rw [← hr]
  have HR := hid_of hr
  have HQ := hid_of hq
  clear hr hq
  go_enter Try.func73, Try.ntmps73
  cases q
  all_goals go_wp2_with (go_at_call 72; ((with_reducible refine (LET.out w).mono ?_); (rintro e w' ⟨rfl, rfl⟩)))
  all_goals go_ret
  all_goals
    refine ⟨congrArg (fun b => Ending.returned (Value.bool b)) ?_, rfl⟩
    rw [HR.out]
    unfold inw
    rw [← HQ.out, Bool.eq_iff_iff]
    simp
    try omega
end Go.Proofs.Ytdmonbcinlmljaa

/- Valid of package names, and of its reference. No condition. -/
namespace Go.Proofs.Ytdmonbcinlmljaa
open Go.RowKit

theorem isName_iff (l : List Int) : isName l = true ↔ 0 < l.length ∧ l.length ≤ 16 ∧ (∀ c : Int, l[0]? = some c → isl c = true) ∧ ∀ (j : Nat) (c : Int), l[j]? = some c → inw c = true := by
  cases l with
  | nil => simp [isName]
  | cons c l =>
    have h : (∀ (j : Nat) (y : Int), (c :: l)[j]? = some y → inw y = true) ↔ (c :: l).all inw = true := by
      rw [List.all_eq_true]
      constructor
      · intro h y hy
        obtain ⟨j, hj⟩ := List.getElem?_of_mem hy
        exact h j y hj
      · intro h j y hj
        exact h y (List.mem_of_getElem? hj)
    rw [h]
    simp only [isName, Bool.and_eq_true, decide_eq_true_eq, List.length_cons]
    constructor
    · rintro ⟨⟨h1, h2⟩, h3⟩
      exact ⟨by omega, by omega, fun y hy => by simp at hy; rw [← hy]; exact h2, h3⟩
    · rintro ⟨_, h1, h2, h3⟩
      exact ⟨⟨by omega, h2 c (by simp)⟩, h3⟩

set_option maxRecDepth 100000 in
theorem valid_any (s : ByteArray) (w : World) (hs : s.size ≤ maxLen) : Calls Try.prog 62 #[.string s] w fun e w' => e = .returned (.bool (isName (strBytes s))) ∧ w' = w := by
  unfold maxLen at hs
  obtain ⟨r, hr⟩ : ∃ r, r = isName (strBytes s) := ⟨_, rfl⟩
  rw [← hr]
  have HR := hid_of hr
  have LET := hid_of isLetter_any
  have INW := hid_of inWord_any
  clear hr
  by_cases h0 : s.size = 0
  · have RF : Hid (r = false) := hid_of (by
      rw [HR.out, Bool.eq_false_iff]; intro h; have := ((isName_iff _).1 h).1; rw [strBytes_length] at this; omega)
    have d0 : decide ((s.size : Int) = 0) = true := decide_eq_true (by omega)
    go_enter Try.func62, Try.ntmps62
    go_wp2
    go_ret
    exact ⟨by rw [RF.out] <;> rfl, rfl⟩
  by_cases h16 : 16 < s.size
  · have RF : Hid (r = false) := hid_of (by
      rw [HR.out, Bool.eq_false_iff]; intro h; have := ((isName_iff _).1 h).2.1; rw [strBytes_length] at this; omega)
    have d0 : decide ((s.size : Int) = 0) = false := decide_eq_false (by omega)
    have d1 : decide ((s.size : Int) > 16) = true := decide_eq_true (by omega)
    go_enter Try.func62, Try.ntmps62
    go_wp2
    go_ret
    exact ⟨by rw [RF.out] <;> rfl, rfl⟩
  have d0 : decide ((s.size : Int) = 0) = false := decide_eq_false (by omega)
  have d1 : decide ((s.size : Int) > 16) = false := decide_eq_false (by omega)
  have d0b : ((s.size : Int) == 0) = false := beq_eq_false_iff_ne.2 (by omega)
  have hp : 0 < s.size := by omega
  obtain ⟨y, hy⟩ : ∃ y : Int, y = ((s[0]).toNat : Int) := ⟨_, rfl⟩
  have HY : Hid ((strBytes s)[0]? = some y) := hid_of (by rw [strBytes_at s 0 hp, hy])
  have hys : ((s[0]).toNat : Int) = y := hy.symm
  clear hy
  have HP := hid_of hp
  have H16 := hid_of h16
  obtain ⟨q, hq⟩ : ∃ q, q = isl y := ⟨_, rfl⟩
  have LY : Hid (∀ w, Calls Try.prog 72 #[.int .u8 y] w fun e w' => e = .returned (.bool q) ∧ w = w') := hid_of (fun w => by rw [hq]; exact (isLetter_any y w).mono fun _ _ h => ⟨h.1, h.2.symm⟩)
  have HQ := hid_of hq
  clear hq
  cases q
  · have RF : Hid (r = false) := hid_of (by
      rw [HR.out, Bool.eq_false_iff]; intro h; have := ((isName_iff _).1 h).2.2.1 y HY.out; rw [← HQ.out] at this; exact absurd this (by simp))
    go_enter Try.func62, Try.ntmps62
    go_wp2_with (go_at_call 72; ((with_reducible refine (LY.out w).mono ?_); (rintro e w' ⟨rfl, rfl⟩)))
    go_ret
    exact ⟨by rw [RF.out] <;> rfl, rfl⟩
  go_enter Try.func62, Try.ntmps62
  go_wp2_with (go_at_call 72; ((with_reducible refine (LY.out w).mono ?_); (rintro e w' ⟨rfl, rfl⟩)))
  clear hys
  go_loopw [3, 20] (fun xv iv wr => ∃ (i : Nat) (v : Value), xv = v ∧ i ≤ s.size ∧ iv = .int .i64 i ∧ wr = w ∧ Hid (∀ (j : Nat) (c : Int), j < i → (strBytes s)[j]? = some c → inw c = true)) (fun _ iv _ => s.size - (intOf iv).toNat)
  case atStart => exact ⟨0, _, rfl, Nat.zero_le _, rfl, rfl, hid_of (fun j c hj => by omega)⟩
  case round =>
    obtain ⟨i, v, rfl, hi, rfl, rfl, hall⟩ := hrel
    have HALL := hid_of hall.out
    clear hall
    by_cases hlt : i < s.size
    · obtain ⟨x, hx⟩ : ∃ x : Int, x = ((s[i]).toNat : Int) := ⟨_, rfl⟩
      have HX : Hid ((strBytes s)[i]? = some x) := hid_of (by rw [strBytes_at s i hlt, hx])
      have hxs : ((s[i]).toNat : Int) = x := hx.symm
      clear hx
      have HLT := hid_of hlt
      obtain ⟨q, hq⟩ : ∃ q, q = inw x := ⟨_, rfl⟩
      have IX : Hid (∀ w, Calls Try.prog 73 #[.int .u8 x] w fun e w' => e = .returned (.bool q) ∧ w = w') := hid_of (fun w => by rw [hq]; exact (inWord_any x w).mono fun _ _ h => ⟨h.1, h.2.symm⟩)
      have HQX := hid_of hq
      clear hq
      cases q
      · have RF : Hid (r = false) := hid_of (by
          rw [HR.out, Bool.eq_false_iff]; intro h; have := ((isName_iff _).1 h).2.2.2 i x HX.out; rw [← HQX.out] at this; exact absurd this (by simp))
        go_wp2_with (go_at_call 73; ((with_reducible refine (IX.out _).mono ?_); (rintro e w' ⟨rfl, rfl⟩)))
        go_ret
        exact ⟨by rw [RF.out] <;> rfl, rfl⟩
      · go_wp2_with (go_at_call 73; ((with_reducible refine (IX.out _).mono ?_); (rintro e w' ⟨rfl, rfl⟩)))
        go_roundw
        case rel => have := HLT.out; exact ⟨i + 1, _, rfl, by omega, by go_num, trivial, hid_of (fun j c hj hc => by
          by_cases e : j = i
          · subst e; rw [HX.out] at hc; cases hc; exact HQX.out.symm
          · exact HALL.out j c (by omega) hc)⟩
        case measure => have := HLT.out; simp [intOf]; omega
    · obtain rfl : s.size = i := by omega
      have RT : Hid (r = true) := hid_of (by
        rw [HR.out, isName_iff, strBytes_length]
        exact ⟨HP.out, by have := H16.out; omega, fun c hc => by rw [HY.out] at hc; cases hc; exact HQ.out.symm, fun j c hc => HALL.out j c (by have := (List.getElem?_eq_some_iff.1 hc).1; rw [strBytes_length] at this; exact this) hc⟩)
      go_wp2
      go_ret
      exact ⟨by rw [RT.out] <;> rfl, rfl⟩
end Go.Proofs.Ytdmonbcinlmljaa

/- Sets of strings, as lists of lists of bytes: plain mathematics. No condition. -/
namespace Go.Proofs.Ytdmonbcinlmljaa

abbrev Str := List UInt8
theorem str_irr (x : Str) : ¬ x < x := List.lt_irrefl x
theorem str_trans {x y z : Str} (h : x < y) (h2 : y < z) : x < z := List.lt_trans h h2
theorem str_tri (x y : Str) : x < y ∨ x = y ∨ y < x := by
  by_cases h1 : x < y
  · exact .inl h1
  · by_cases h2 : y < x
    · exact .inr (.inr h2)
    · exact .inr (.inl (List.le_antisymm (List.not_lt.1 h2) (List.not_lt.1 h1)))
theorem str_asym {x y : Str} (h : x < y) : ¬ y < x := fun h2 => str_irr x (str_trans h h2)
theorem str_le {x y : Str} : x ≤ y ↔ x < y ∨ x = y := by
  rw [← List.not_lt]
  constructor
  · intro h
    rcases str_tri x y with h1 | h1 | h1
    · exact .inl h1
    · exact .inr h1
    · exact absurd h1 h
  · rintro (h | rfl)
    · exact str_asym h
    · exact str_irr x

/-- Strictly increasing. -/
def SS (l : List Str) : Prop := l.Pairwise (· < ·)
theorem SS.nil : SS [] := List.Pairwise.nil
theorem ss_snoc {l : List Str} {x : Str} (h : SS l) (hx : ∀ y ∈ l, y < x) : SS (l ++ [x]) := by
  unfold SS at *
  rw [List.pairwise_append]
  exact ⟨h, List.pairwise_singleton _ _, fun a ha b hb => by rw [List.mem_singleton.1 hb]; exact hx a ha⟩
theorem ss_ext : ∀ {a b : List Str}, SS a → SS b → (∀ x, x ∈ a ↔ x ∈ b) → a = b := by
  intro a; induction a with
  | nil =>
    intro b _ _ h
    cases b with
    | nil => rfl
    | cons y b => have := (h y).2 (by simp); simp at this
  | cons x a ih =>
    intro b ha hb h
    cases b with
    | nil => have := (h x).1 (by simp); simp at this
    | cons y b =>
      have ha' := List.pairwise_cons.1 ha
      have hb' := List.pairwise_cons.1 hb
      have e : x = y := by
        have h1 := (h x).1 (by simp)
        have h2 := (h y).2 (by simp)
        rcases List.mem_cons.1 h1 with h1 | h1
        · exact h1
        · rcases List.mem_cons.1 h2 with h2 | h2
          · exact h2.symm
          · exact absurd (hb'.1 x h1) (str_asym (ha'.1 y h2))
      subst e
      rw [ih ha'.2 hb'.2 (fun z => ?_)]
      constructor
      · intro hz
        rcases List.mem_cons.1 ((h z).1 (List.mem_cons_of_mem _ hz)) with e | hz2
        · subst e; exact absurd (ha'.1 z hz) (str_irr z)
        · exact hz2
      · intro hz
        rcases List.mem_cons.1 ((h z).2 (List.mem_cons_of_mem _ hz)) with e | hz2
        · subst e; exact absurd (hb'.1 z hz) (str_irr z)
        · exact hz2

/-- Of a list: after k elements, those that are greater than the one before. -/
def ddp (a : List Str) : Nat → List Str
  | 0 => []
  | k + 1 => if k = 0 ∨ a.getD (k - 1) [] < a.getD k [] then ddp a k ++ [a.getD k []] else ddp a k
def srt (l : List Str) : List Str := l.mergeSort fun x y => decide (x ≤ y)
def setOf (l : List Str) : List Str := ddp (srt l) l.length
theorem srt_length (l : List Str) : (srt l).length = l.length := by simp [srt]
theorem srt_mem (l : List Str) (x : Str) : x ∈ srt l ↔ x ∈ l := by simp [srt]
theorem srt_pw (l : List Str) : (srt l).Pairwise (· ≤ ·) := by
  have h := List.pairwise_mergeSort (le := fun x y : Str => decide (x ≤ y)) (fun a b c h1 h2 => by
    simp only [decide_eq_true_eq] at *
    exact List.le_trans h1 h2) (fun a b => by
    simp only [Bool.or_eq_true, decide_eq_true_eq]
    rcases str_tri a b with h | h | h
    · exact .inl (str_le.2 (.inl h))
    · exact .inl (str_le.2 (.inr h))
    · exact .inr (str_le.2 (.inl h))) l
  exact h.imp (by simp)
theorem getD_of {l : List Str} {k : Nat} (h : k < l.length) : l.getD k [] = l[k] := by simp [List.getD, h]
theorem pw_get {l : List Str} (h : l.Pairwise (· ≤ ·)) {i j : Nat} (hij : i < j) (hj : j < l.length) : l.getD i [] ≤ l.getD j [] := by
  rw [getD_of hj, getD_of (by omega)]
  exact List.pairwise_iff_getElem.1 h i j (by omega) hj hij
theorem take_snoc' {α : Type} {l : List α} {k : Nat} (h : k < l.length) : l.take (k + 1) = l.take k ++ [l[k]] := List.take_succ_eq_append_getElem h
theorem ddp_spec {a : List Str} (h : a.Pairwise (· ≤ ·)) : ∀ k, k ≤ a.length → SS (ddp a k) ∧ (∀ x, x ∈ ddp a k ↔ x ∈ a.take k) := by
  intro k; induction k with
  | zero => intro _; exact ⟨SS.nil, fun x => by simp [ddp]⟩
  | succ k ih =>
    intro hk
    obtain ⟨h1, h2⟩ := ih (by omega)
    have hkl : k < a.length := by omega
    rw [ddp, take_snoc' hkl]
    by_cases hc : k = 0 ∨ a.getD (k - 1) [] < a.getD k []
    · rw [if_pos hc]
      refine ⟨ss_snoc h1 fun y hy => ?_, fun x => by rw [List.mem_append, List.mem_append, h2, getD_of hkl]⟩
      have hy' := (h2 y).1 hy
      rcases hc with hc | hc
      · subst hc; simp at hy'
      · obtain ⟨j, hj, rfl⟩ := List.mem_iff_getElem.1 hy'
        have hjk : j < k := by simp at hj; omega
        rw [List.getElem_take]
        by_cases e : j = k - 1
        · subst e
          rwa [getD_of (show k - 1 < a.length by omega)] at hc
        · have h3 := pw_get h (show j < k - 1 by omega) (by omega)
          rw [getD_of (show j < a.length by omega)] at h3
          rcases str_le.1 h3 with h4 | h4
          · exact str_trans h4 hc
          · rw [h4]; exact hc
    · rw [if_neg hc]
      refine ⟨h1, fun x => ?_⟩
      rw [h2, List.mem_append, List.mem_singleton]
      constructor
      · exact .inl
      · rintro (hx | hx)
        · exact hx
        · have hk0 : k ≠ 0 := fun e => hc (.inl e)
          have h3 := pw_get h (show k - 1 < k by omega) hkl
          have h4 : a.getD (k - 1) [] = a.getD k [] := by
            rcases str_le.1 h3 with h4 | h4
            · exact absurd (.inr h4) hc
            · exact h4
          rw [hx, ← getD_of hkl, ← h4, getD_of (show k - 1 < a.length by omega)]
          exact List.mem_iff_getElem.2 ⟨k - 1, by simp; omega, by simp⟩
theorem setOf_ss (l : List Str) : SS (setOf l) := (ddp_spec (srt_pw l) l.length (by rw [srt_length]; exact Nat.le_refl _)).1
theorem setOf_mem (l : List Str) (x : Str) : x ∈ setOf l ↔ x ∈ l := by
  rw [setOf, (ddp_spec (srt_pw l) l.length (by rw [srt_length]; exact Nat.le_refl _)).2, List.take_of_length_le (by rw [srt_length]; exact Nat.le_refl _), srt_mem]
theorem setOf_eq {l m : List Str} (h : SS m) (hm : ∀ x, x ∈ m ↔ x ∈ l) : setOf l = m := ss_ext (setOf_ss l) h (fun x => by rw [setOf_mem, hm])
theorem setOf_congr {l m : List Str} (h : ∀ x, x ∈ l ↔ x ∈ m) : setOf l = setOf m := setOf_eq (setOf_ss m) (fun x => by rw [setOf_mem, h])
theorem setOf_self {l : List Str} (h : SS l) : setOf l = l := setOf_eq h (fun _ => Iff.rfl)
theorem setOf_idem (l : List Str) : setOf (setOf l) = setOf l := setOf_self (setOf_ss l)
theorem ss_nodup {l : List Str} (h : SS l) : l.Nodup := h.imp (fun h e => by subst e; exact str_irr _ h)
theorem setOf_le (l : List Str) : (setOf l).length ≤ l.length := by
  have : ∀ k a, (ddp a k).length ≤ k := by
    intro k a; induction k with
    | zero => simp [ddp]
    | succ k ih => rw [ddp]; split
                   · rw [List.length_append]; simp; omega
                   · omega
  exact this _ _
theorem ss_filter {l : List Str} (p : Str → Bool) (h : SS l) : SS (l.filter p) := h.filter p

/-- Insertion into a sorted list. -/
def insS (x : Str) : List Str → List Str
  | [] => [x]
  | y :: l => if x < y then x :: y :: l else y :: insS x l
theorem insS_app (x : Str) : ∀ (p q : List Str), (∀ y ∈ p, y < x) → (∀ y ∈ q, x < y) → insS x (p ++ q) = p ++ x :: q := by
  intro p; induction p with
  | nil =>
    intro q _ hq
    cases q with
    | nil => rfl
    | cons y q => rw [List.nil_append, insS, if_pos (hq y (by simp))]; rfl
  | cons y p ih =>
    intro q hp hq
    rw [List.cons_append, insS, if_neg (str_asym (hp y (by simp))), ih q (fun z hz => hp z (by simp [hz])) hq]; rfl
theorem setOf_snoc_in {l : List Str} {x : Str} (h : x ∈ setOf l) : setOf (l ++ [x]) = setOf l :=
  setOf_congr fun y => by
    rw [List.mem_append, List.mem_singleton]
    exact ⟨fun hy => hy.elim id (fun e => by subst e; exact (setOf_mem l y).1 h), .inl⟩
theorem setOf_snoc_new {l p q : List Str} {x : Str} (h : setOf l = p ++ q) (hp : ∀ y ∈ p, y < x) (hq : ∀ y ∈ q, x < y) : setOf (l ++ [x]) = p ++ x :: q := by
  have hs := setOf_ss l
  rw [h] at hs
  have hs2 := List.pairwise_append.1 hs
  refine setOf_eq ?_ (fun y => ?_)
  · unfold SS
    rw [List.pairwise_append]
    refine ⟨hs2.1, List.pairwise_cons.2 ⟨hq, hs2.2.1⟩, fun a ha b hb => ?_⟩
    rcases List.mem_cons.1 hb with rfl | hb
    · exact hp a ha
    · exact hs2.2.2 a ha b hb
  · have := setOf_mem l y
    rw [h] at this
    rw [List.mem_append, List.mem_cons, List.mem_append, List.mem_singleton, ← this, List.mem_append]
    constructor
    · rintro (h | h | h)
      · exact .inl (.inl h)
      · exact .inr h
      · exact .inl (.inr h)
    · rintro ((h | h) | h)
      · exact .inl h
      · exact .inr (.inr h)
      · exact .inr (.inl h)

/-- The lexicographic comparison of lists, and the comparison of sets. -/
def cmpL : List Str → List Str → Int
  | [], [] => 0
  | [], _ :: _ => -1
  | _ :: _, [] => 1
  | x :: a, y :: b => if x < y then -1 else if y < x then 1 else cmpL a b
def cmpS (a b : List Str) : Int := if a.length < b.length then -1 else if b.length < a.length then 1 else cmpL a b
theorem cmpL_zero : ∀ {a b : List Str}, cmpL a b = 0 ↔ a = b := by
  intro a; induction a with
  | nil => intro b; cases b <;> simp [cmpL]
  | cons x a ih =>
    intro b
    cases b with
    | nil => simp [cmpL]
    | cons y b =>
      rw [cmpL]
      by_cases h1 : x < y
      · rw [if_pos h1]
        exact ⟨fun h => by omega, fun h => by cases h; exact absurd h1 (str_irr x)⟩
      · rw [if_neg h1]
        by_cases h2 : y < x
        · rw [if_pos h2]
          exact ⟨fun h => by omega, fun h => by cases h; exact absurd h2 (str_irr x)⟩
        · rw [if_neg h2, ih]
          have e : x = y := by
            rcases str_tri x y with h | h | h
            · exact absurd h h1
            · exact h
            · exact absurd h h2
          subst e
          simp
theorem cmpL_neg : ∀ (a b : List Str), cmpL b a = 0 - cmpL a b := by
  intro a; induction a with
  | nil => intro b; cases b <;> simp [cmpL]
  | cons x a ih =>
    intro b
    cases b with
    | nil => simp [cmpL]
    | cons y b =>
      rw [cmpL, cmpL]
      by_cases h1 : x < y
      · rw [if_neg (str_asym h1), if_pos h1, if_pos h1]; rfl
      · rw [if_neg h1]
        by_cases h2 : y < x
        · rw [if_pos h2, if_neg h1, if_pos h2]; rfl
        · rw [if_neg h2, if_neg h1, if_neg h2, ih]
theorem cmpL_01 : ∀ (a b : List Str), cmpL a b = -1 ∨ cmpL a b = 0 ∨ cmpL a b = 1 := by
  intro a; induction a with
  | nil => intro b; cases b <;> simp [cmpL]
  | cons x a ih =>
    intro b
    cases b with
    | nil => simp [cmpL]
    | cons y b =>
      rw [cmpL]
      split
      · exact .inl rfl
      · split
        · exact .inr (.inr rfl)
        · exact ih b
theorem cmpL_trans : ∀ {a b c : List Str}, cmpL a b = -1 → cmpL b c = -1 → cmpL a c = -1 := by
  intro a; induction a with
  | nil =>
    intro b c h1 h2
    cases c with
    | nil => cases b <;> simp [cmpL] at h1 h2
    | cons z c => rfl
  | cons x a ih =>
    intro b c h1 h2
    cases b with
    | nil => simp [cmpL] at h1
    | cons y b =>
      cases c with
      | nil => simp [cmpL] at h2
      | cons z c =>
        rw [cmpL] at h1 h2 ⊢
        by_cases a1 : x < y
        · by_cases a2 : y < z
          · rw [if_pos (str_trans a1 a2)]
          · rw [if_neg a2] at h2
            by_cases a3 : z < y
            · rw [if_pos a3] at h2; omega
            · have e : y = z := by
                rcases str_tri y z with h | h | h
                · exact absurd h a2
                · exact h
                · exact absurd h a3
              subst e; rw [if_pos a1]
        · rw [if_neg a1] at h1
          by_cases a2 : y < x
          · rw [if_pos a2] at h1; omega
          · rw [if_neg a2] at h1
            have e : x = y := by
              rcases str_tri x y with h | h | h
              · exact absurd h a1
              · exact h
              · exact absurd h a2
            subst e
            by_cases a3 : x < z
            · rw [if_pos a3]
            · rw [if_neg a3] at h2 ⊢
              by_cases a4 : z < x
              · rw [if_pos a4] at h2; omega
              · rw [if_neg a4] at h2 ⊢; exact ih h1 h2
theorem cmpS_zero {a b : List Str} : cmpS a b = 0 ↔ a = b := by
  unfold cmpS
  split
  · rename_i h
    exact ⟨fun h => by omega, fun e => by subst e; omega⟩
  · split
    · rename_i h
      exact ⟨fun h => by omega, fun e => by subst e; omega⟩
    · exact cmpL_zero
theorem cmpS_neg (a b : List Str) : cmpS b a = 0 - cmpS a b := by
  unfold cmpS
  by_cases h : a.length < b.length
  · rw [if_pos h, if_neg (by omega), if_pos h]; rfl
  · rw [if_neg h]
    by_cases h2 : b.length < a.length
    · rw [if_pos h2, if_neg h, if_pos h2]; rfl
    · rw [if_neg h2, if_neg h, if_neg h2, cmpL_neg]
theorem cmpS_01 (a b : List Str) : cmpS a b = -1 ∨ cmpS a b = 0 ∨ cmpS a b = 1 := by
  unfold cmpS
  split
  · exact .inl rfl
  · split
    · exact .inr (.inr rfl)
    · exact cmpL_01 a b
theorem cmpS_trans {a b c : List Str} (h1 : cmpS a b = -1) (h2 : cmpS b c = -1) : cmpS a c = -1 := by
  unfold cmpS at *
  by_cases e1 : a.length < b.length
  · by_cases e2 : b.length < c.length
    · rw [if_pos (by omega)]
    · rw [if_neg e2] at h2
      by_cases e3 : c.length < b.length
      · rw [if_pos e3] at h2; omega
      · rw [if_pos (by omega)]
  · rw [if_neg e1] at h1
    by_cases e2 : b.length < a.length
    · rw [if_pos e2] at h1; omega
    · rw [if_neg e2] at h1
      by_cases e3 : b.length < c.length
      · rw [if_pos (by omega)]
      · rw [if_neg e3] at h2
        by_cases e4 : c.length < b.length
        · rw [if_pos e4] at h2; omega
        · rw [if_neg e4] at h2
          rw [if_neg (by omega), if_neg (by omega)]
          exact cmpL_trans h1 h2
/-- A proper subset has fewer elements. -/
theorem ss_sub_len : ∀ {a b : List Str}, SS a → SS b → (∀ x ∈ a, x ∈ b) → a.length ≤ b.length ∧ (a.length = b.length → a = b) := by
  intro a b ha hb h
  have h1 : a = b.filter (fun x => decide (x ∈ a)) := ss_ext ha (ss_filter _ hb) (fun x => by
    rw [List.mem_filter, decide_eq_true_eq]
    exact ⟨fun hx => ⟨h x hx, hx⟩, fun hx => hx.2⟩)
  have h2 := List.length_filter_le (fun x => decide (x ∈ a)) b
  rw [← h1] at h2
  refine ⟨h2, fun e => ?_⟩
  have h3 : (b.filter (fun x => decide (x ∈ a))).length = b.length := by rw [← h1]; exact e
  rw [List.length_filter_eq_length_iff] at h3
  exact ss_ext ha hb (fun x => ⟨h x, fun hx => by simpa using h3 x hx⟩)
end Go.Proofs.Ytdmonbcinlmljaa

/- Slices of strings, and who is in them: Has, Sorted and Same, of the package and of its reference. Bounds on sizes alone. -/
namespace Go.Proofs.Ytdmonbcinlmljaa
open Go.RowKit

theorem strsE : Elem Try.prog 22 9 (.string ⟨#[]⟩) 16 := ⟨Try.underlying22, by kernel_rfl, rfl⟩
/-- The bytes of a string, as the value that holds them. -/
def ba (l : Str) : ByteArray := ⟨l.toArray⟩
theorem ba_list (l : Str) : (ba l).data.toList = l := rfl
theorem ba_of (s : ByteArray) : ba s.data.toList = s := rfl
def ss (l : List Str) : List Value := l.map fun x => .string (ba x)
theorem ss_length (l : List Str) : (ss l).length = l.length := by simp [ss]
theorem ss_one (l : List Str) : ∀ u ∈ ss l, u.oneCell' = true := by
  intro u hu
  obtain ⟨y, _, rfl⟩ := List.mem_map.1 hu
  rfl
theorem ss_append (a b : List Str) : ss (a ++ b) = ss a ++ ss b := by simp [ss]

theorem rds_open {w : World} {ao : Option Addr} {n cap : Nat} {l : List Str} (h : Rd w (.slice ao n cap) (ss l)) :
    n = l.length ∧ n ≤ cap ∧ cap ≤ 9223372036854775807 ∧ (l = [] ∨ ∃ g o, ao = some ⟨g, o, none⟩ ∧ g < w.heap.size ∧ ∀ j x, l[j]? = some x → w.cell? ⟨g, o + j, none⟩ = some (.string (ba x))) := by
  obtain ⟨ao2, cap2, e, h1, h2, h3⟩ := h
  cases e
  rw [ss_length] at h1 h3
  refine ⟨ss_length _, by rw [ss_length]; exact h1, h2, ?_⟩
  by_cases h0 : 0 < l.length
  · obtain ⟨g, o, e, hg, hc⟩ := h3 h0
    exact .inr ⟨g, o, e, hg, fun j x hx => hc j _ (by simp [ss, hx])⟩
  · exact .inl (List.eq_nil_of_length_eq_zero (by omega))

theorem eqS (x y : Str) : ((ba x).toList == (ba y).toList) = decide (x = y) := by
  rw [ByteArray.toList_eq, ByteArray.toList_eq, ba_list, ba_list, Bool.eq_iff_iff]; simp
theorem less_eq : ∀ (x y : List UInt8), Op.bytesLess x y = decide (x < y)
  | [], [] => by simp [Op.bytesLess]
  | _ :: _, [] => by simp [Op.bytesLess]
  | [], _ :: _ => by simp [Op.bytesLess]
  | a :: x, b :: y => by
    rw [Op.bytesLess, less_eq x y]
    simp only [List.cons_lt_cons_iff]
    by_cases h1 : a < b <;> by_cases h2 : a = b <;> by_cases h3 : x < y <;> simp [h1, h2, h3]
theorem ltS (x y : Str) : Op.bytesLess (ba x).toList (ba y).toList = decide (x < y) := by
  rw [ByteArray.toList_eq, ByteArray.toList_eq, ba_list, ba_list, less_eq]
/-- The test's outcome, for a string that stands under a name. -/
theorem eq_t {x y : Str} {bx bz : ByteArray} (hx : bx = ba x) (hy : bz = ba y) (h : x = y) : (bx.toList == bz.toList) = true := by
  subst hx hy; rw [eqS]; exact decide_eq_true h
theorem eq_f {x y : Str} {bx bz : ByteArray} (hx : bx = ba x) (hy : bz = ba y) (h : x ≠ y) : (bx.toList == bz.toList) = false := by
  subst hx hy; rw [eqS]; exact decide_eq_false h
theorem lt_t {x y : Str} {bx bz : ByteArray} (hx : bx = ba x) (hy : bz = ba y) (h : x < y) : Op.bytesLess bx.toList bz.toList = true := by
  subst hx hy; rw [ltS]; exact decide_eq_true h
theorem lt_f {x y : Str} {bx bz : ByteArray} (hx : bx = ba x) (hy : bz = ba y) (h : ¬ x < y) : Op.bytesLess bx.toList bz.toList = false := by
  subst hx hy; rw [ltS]; exact decide_eq_false h
theorem take_not {l : List Str} {k : Nat} {x : Str} (h : k < l.length) (hx : x ∉ l.take k) (hne : l[k] ≠ x) : x ∉ l.take (k + 1) := by
  rw [take_snoc' h, List.mem_append, List.mem_singleton]
  exact fun h2 => h2.elim hx (fun e => hne e.symm)
end Go.Proofs.Ytdmonbcinlmljaa

/- Sorted, of the package and of its reference, and the reference's Same. Bounds on sizes alone. -/
namespace Go.Proofs.Ytdmonbcinlmljaa
open Go.RowKit

/-- A list is sorted if each element is less than the next one. -/
theorem ss_adj : ∀ {l : List Str}, (∀ i, i + 1 < l.length → l.getD i [] < l.getD (i + 1) []) → SS l := by
  intro l; induction l with
  | nil => intro _; exact SS.nil
  | cons x l ih =>
    intro h
    have hl := ih (fun i hi => by have := h (i + 1) (by simp; omega); simpa using this)
    refine List.pairwise_cons.2 ⟨fun y hy => ?_, hl⟩
    cases l with
    | nil => simp at hy
    | cons z l =>
      have h0 := h 0 (by simp)
      simp at h0
      rcases List.mem_cons.1 hy with e | hy
      · rw [e]; exact h0
      · exact str_trans h0 ((List.pairwise_cons.1 hl).1 y hy)
theorem ss_get {l : List Str} (h : SS l) {i j : Nat} (hij : i < j) (hj : j < l.length) : l.getD i [] < l.getD j [] := by
  rw [getD_of hj, getD_of (by omega)]
  exact List.pairwise_iff_getElem.1 h i j (by omega) hj hij
/-- The first k elements are sorted. -/
def ssTo (l : List Str) (k : Nat) : Prop := ∀ i, i + 1 < k → l.getD i [] < l.getD (i + 1) []
theorem ssTo_succ {l : List Str} {k p : Nat} (h : ssTo l k) (hp : p + 1 = k) (h2 : l.getD p [] < l.getD k []) : ssTo l (k + 1) := by
  intro i hi
  by_cases e : i = p
  · subst e; rw [hp]; exact h2
  · exact h i (by omega)
instance (l : List Str) : Decidable (SS l) := by unfold SS; infer_instance
def ssB (l : List Str) : Bool := decide (SS l)
theorem ssB_yes {l : List Str} {n : Nat} (hn : n = l.length) (h : ssTo l n) : ssB l = true := decide_eq_true (ss_adj (fun i hi => h i (by omega)))
theorem ssB_no {l : List Str} {p k : Nat} (hp : p + 1 = k) (hk : k < l.length) (h : ¬ l.getD p [] < l.getD k []) : ssB l = false :=
  decide_eq_false (fun hs => h (ss_get hs (by omega) hk))
theorem ret_b {a b : Bool} (h : a = b) : Ending.returned (.bool a) = .returned (.bool b) := by rw [h]

set_option maxRecDepth 100000 in
theorem sorted_any (ao : Option Addr) (n cap : Nat) (l : List Str) (w : World) (R : Rd w (.slice ao n cap) (ss l)) :
    Calls Try.prog 63 #[.slice ao n cap] w fun e w' => e = .returned (.bool (ssB l)) ∧ Below w.heap.size w w' := by
  obtain ⟨hn, h1, h2, h3⟩ := rds_open R
  obtain ⟨r, hr⟩ : ∃ r, r = ssB l := ⟨_, rfl⟩
  rw [← hr]
  have HR := hid_of hr
  have HN := hid_of hn
  clear hr R hn
  rcases h3 with h3 | ⟨g, o, rfl, hg, hc⟩
  · have RF : Hid (r = true) := hid_of (by rw [HR.out, h3]; rfl)
    obtain rfl : n = 0 := by rw [HN.out, h3]; rfl
    clear h3 HN
    go_enter Try.func63, Try.ntmps63
    go_wp2
    go_loopw [3, 6] (fun xv iv wr => ∃ v : Value, xv = v ∧ iv = .int .i64 0 ∧ w = wr) (fun _ iv _ => 0)
    case atStart => exact ⟨_, rfl, rfl, rfl⟩
    case round =>
      obtain ⟨v, rfl, rfl, rfl⟩ := hrel
      go_wp2
      go_ret
      exact ⟨ret_b RF.out.symm, Below.refl _ _⟩
  · have HC := hid_of hc
    clear hc
    go_enter Try.func63, Try.ntmps63
    go_wp2
    go_loopw [3, 6] (fun xv iv wr => ∃ (k : Nat) (v : Value), xv = v ∧ k ≤ n ∧ iv = .int .i64 k ∧ Hid (ssTo l k) ∧ Hid (Below w.heap.size w wr)) (fun _ iv _ => n - (intOf iv).toNat)
    case atStart => exact ⟨0, _, rfl, Nat.zero_le _, rfl, hid_of (fun i hi => by omega), hid_of (Below.refl _ _)⟩
    case round =>
      obtain ⟨k, v, rfl, hk, rfl, hs, hb⟩ := hrel
      by_cases hlt : k < n
      · have hd : decide (k < n) = true := by simp; omega
        have hkl : Hid (k < l.length) := hid_of (by have := HN.out; omega)
        by_cases h0 : k = 0
        · have g0 : decide (0 < k) = false := by simp; omega
          have HS2 : Hid (ssTo l (k + 1)) := hid_of (fun i hi => by omega)
          clear h0
          go_wp2
          go_quiet (fail)
          go_wp2
          go_roundw
          case rel => exact ⟨k + 1, _, rfl, by omega, by go_num, HS2, hid_of (bel_drewN hb.out _)⟩
          case measure => simp [intOf]; omega
        · have g0 : decide (0 < k) = true := by simp; omega
          obtain ⟨p, hpk⟩ : ∃ p, p + 1 = k := ⟨k - 1, by omega⟩
          have hpl : Hid (p < l.length) := hid_of (by have := HN.out; omega)
          obtain ⟨bk, hbk⟩ : ∃ b, b = ba (l[k]'hkl.out) := ⟨_, rfl⟩
          obtain ⟨bp, hbp⟩ : ∃ b, b = ba (l[p]'hpl.out) := ⟨_, rfl⟩
          have c1 := (hb.out.cell (p := ⟨g, o + k, none⟩) hg).trans (HC.out k _ (List.getElem?_eq_getElem hkl.out))
          have c2 := (hb.out.cell (p := ⟨g, o + p, none⟩) hg).trans (HC.out p _ (List.getElem?_eq_getElem hpl.out))
          rw [← hbk] at c1
          rw [← hbp] at c2
          have s1 : IntKind.i64.wrap ((k : Int) - 1) = (p : Int) := by rw [IntWalk.i64_in _ (by omega)]; omega
          have b1 : (k : Int) < (n : Int) := by omega
          have b2 : (p : Int) < (n : Int) := by omega
          have b3 : (0 : Int) ≤ (k : Int) := by omega
          have b4 : (0 : Int) ≤ (p : Int) := by omega
          have HP := hid_of hpk
          clear hpk h0
          by_cases e : (l[p]'hpl.out) < (l[k]'hkl.out)
          · have t1 := lt_f hbk hbp (str_asym e)
            have t2 := eq_f hbk hbp (fun e2 => str_irr _ (e2 ▸ e))
            have HS2 := hid_of (ssTo_succ hs.out HP.out (by rw [getD_of hpl.out, getD_of hkl.out]; exact e))
            clear hbp hbk e
            go_wp2
            go_quiet (fail)
            clear s1
            go_wp2
            go_roundw
            case rel => exact ⟨k + 1, _, rfl, by omega, by go_num, HS2, hid_of (bel_drewN hb.out _)⟩
            case measure => simp [intOf]; omega
          · have RF : Hid (r = false) := hid_of (by rw [HR.out]; exact ssB_no HP.out hkl.out (by rw [getD_of hpl.out, getD_of hkl.out]; exact e))
            have t1 : (Op.bytesLess bk.toList bp.toList || bk.toList == bp.toList) = true := by
              rcases str_tri (l[p]'hpl.out) (l[k]'hkl.out) with h | h | h
              · exact absurd h e
              · rw [eq_t hbk hbp h.symm]; simp
              · rw [lt_t hbk hbp h]; simp
            clear hbp hbk e
            go_wp2
            go_quiet (fail)
            clear s1
            go_wp2
            go_ret
            exact ⟨ret_b RF.out.symm, bel_drewN hb.out _⟩
      · have hd : decide (k < n) = false := by simp; omega
        have RF : Hid (r = true) := hid_of (by rw [HR.out]; exact ssB_yes HN.out (by rw [show n = k by omega]; exact hs.out))
        go_wp2
        go_ret
        exact ⟨ret_b RF.out.symm, hb.out⟩
end Go.Proofs.Ytdmonbcinlmljaa

/- Descriptions of lattices as trees, and what is asked of them. No condition. -/
namespace Go.Proofs.Ytdmonbcinlmljaa

/-- A rule in names: its premises, its conclusion. -/
abbrev Gr := List Str × Str
def nameB (x : Str) : Bool := isName (strBytes (ba x))
inductive Lat where
  | mk (k lo hi : Int) (ns : List Str) (ps : List Lat) (rs : List Gr)
def Lat.k : Lat → Int | ⟨k, _, _, _, _, _⟩ => k
def Lat.lo : Lat → Int | ⟨_, lo, _, _, _, _⟩ => lo
def Lat.hi : Lat → Int | ⟨_, _, hi, _, _, _⟩ => hi
def Lat.ns : Lat → List Str | ⟨_, _, _, ns, _, _⟩ => ns
def Lat.ps : Lat → List Lat | ⟨_, _, _, _, ps, _⟩ => ps
def Lat.rs : Lat → List Gr | ⟨_, _, _, _, _, rs⟩ => rs
theorem lat_size {p : Lat} {k lo hi : Int} {ns : List Str} {ps : List Lat} {rs : List Gr} (h : p ∈ ps) : SizeOf.sizeOf p < SizeOf.sizeOf (Lat.mk k lo hi ns ps rs) := by
  have := List.sizeOf_lt_of_mem h
  simp only [Lat.mk.sizeOf_spec]
  omega
theorem lat_ind {P : Lat → Prop} (h : ∀ k lo hi ns ps rs, (∀ p ∈ ps, P p) → P ⟨k, lo, hi, ns, ps, rs⟩) : ∀ t, P t := by
  have : ∀ n t, SizeOf.sizeOf t < n → P t := by
    intro n
    induction n with
    | zero => intro t h; omega
    | succ n ih =>
      rintro ⟨k, lo, hi, ns, ps, rs⟩ hn
      exact h _ _ _ _ _ _ fun p hp => ih p (by have := lat_size (k := k) (lo := lo) (hi := hi) (ns := ns) (rs := rs) hp; omega)
  exact fun t => this _ t (Nat.lt_succ_self _)
noncomputable instance : DecidableEq Lat := fun _ _ => Classical.propDecidable _

/-- The kinds, split. -/
theorem kinds (k : Int) : k = 1 ∨ k = 2 ∨ k = 3 ∨ k = 4 ∨ k = 5 ∨ k = 6 ∨ k = 7 ∨ k = 8 ∨ k = 9 ∨ k = 10 ∨ (k ≠ 1 ∧ k ≠ 2 ∧ k ≠ 3 ∧ k ≠ 4 ∧ k ≠ 5 ∧ k ≠ 6 ∧ k ≠ 7 ∧ k ≠ 8 ∧ k ≠ 9 ∧ k ≠ 10) := by omega

mutual
def chainL : Lat → Bool
  | ⟨k, _, _, _, ps, _⟩ => if k = 7 then decide (ps.length = 2) && chainsL ps else decide (k = 1 ∨ k = 2 ∨ k = 3)
def chainsL : List Lat → Bool
  | [] => true
  | p :: ps => chainL p && chainsL ps
end
mutual
def finL : Lat → Bool
  | ⟨k, _, _, ns, ps, _⟩ => if k = 1 ∨ k = 2 ∨ k = 3 ∨ k = 10 then true else if k = 4 ∨ k = 8 then !ns.isEmpty else if k = 5 then !ns.isEmpty && finsL ps else if k = 6 ∨ k = 7 then finsL ps else false
def finsL : List Lat → Bool
  | [] => true
  | p :: ps => finL p && finsL ps
end
mutual
def rfinL : Lat → Bool
  | ⟨k, _, _, ns, ps, _⟩ => if k = 9 ∨ ns = [] ∧ (k = 4 ∨ k = 8 ∨ k = 5) then false else rfinsL ps
def rfinsL : List Lat → Bool
  | [] => true
  | p :: ps => rfinL p && rfinsL ps
end
mutual
def distL : Lat → Bool
  | ⟨k, _, _, _, ps, _⟩ => if k = 8 ∨ k = 10 then false else distsL ps
def distsL : List Lat → Bool
  | [] => true
  | p :: ps => distL p && distsL ps
end
mutual
def depthL : Lat → Nat
  | ⟨_, _, _, _, ps, _⟩ => depthsL ps + 1
def depthsL : List Lat → Nat
  | [] => 0
  | p :: ps => max (depthL p) (depthsL ps)
end
/-- A node has the fields of its kind, and no others. -/
def shapeB (t : Lat) : Bool :=
  if t.k = 1 ∨ t.k = 9 then decide (t.lo = 0 ∧ t.hi = 0 ∧ t.rs = [] ∧ t.ps = [] ∧ t.ns = [])
  else if t.k = 2 ∨ t.k = 3 then decide (t.rs = [] ∧ t.ps = [] ∧ t.ns = [])
  else if t.k = 4 ∨ t.k = 8 then decide (t.lo = 0 ∧ t.hi = 0 ∧ t.rs = [] ∧ t.ps = [])
  else if t.k = 5 then decide (t.lo = 0 ∧ t.hi = 0 ∧ t.rs = [] ∧ t.ps.length = 1)
  else if t.k = 6 then decide (t.lo = 0 ∧ t.hi = 0 ∧ t.rs = [] ∧ t.ps.length = t.ns.length ∧ t.ns ≠ [])
  else if t.k = 7 then decide (t.lo = 0 ∧ t.hi = 0 ∧ t.rs = [] ∧ t.ps.length = 2 ∧ t.ns = [])
  else if t.k = 10 then decide (t.lo = 0 ∧ t.hi = 0 ∧ t.ps = [] ∧ t.ns ≠ [])
  else false
def limL (k : Int) : Nat := if k = 6 then 8 else if k = 10 then 12 else 32
def namesB (t : Lat) : Bool := t.ns.all nameB && decide t.ns.Nodup && (decide (t.k = 6) || ssB t.ns)
def ruleB (ns : List Str) (r : Gr) : Bool := !r.1.isEmpty && ssB r.1 && (r.1 ++ [r.2]).all fun s => decide (s ∈ ns)
def rulesB (ns : List Str) (rs : List Gr) : Bool := rs.all (ruleB ns)
/-- The first error of a node, without those of its place and of its parts. -/
def nodeE (t : Lat) : Int :=
  if shapeB t = false then 1 else if limL t.k < t.ns.length ∨ 32 < t.rs.length then 6 else if (namesB t && rulesB t.ns t.rs) = false then 3
  else if t.lo > t.hi ∨ t.lo < -1000000000 ∨ t.hi > 1000000000 then 5 else if t.k = 7 ∧ chainsL (t.ps.take 1) = false then 4 else 0
mutual
/-- The nodes that are counted and the first error, of a tree at depth d behind c nodes. -/
def chkT : Lat → Nat → Nat → Nat × Int
  | ⟨k, lo, hi, ns, ps, rs⟩, d, c => if 6 < d ∨ 64 ≤ c then (c, 6) else if nodeE ⟨k, lo, hi, ns, ps, rs⟩ ≠ 0 then (c + 1, nodeE ⟨k, lo, hi, ns, ps, rs⟩) else chkTs ps (d + 1) (c + 1)
def chkTs : List Lat → Nat → Nat → Nat × Int
  | [], _, c => (c, 0)
  | p :: ps, d, c => if (chkT p d c).2 ≠ 0 then chkT p d c else chkTs ps d (chkT p d c).1
end
def chkL (t : Lat) : Int := (chkT t 1 0).2
theorem chkT_eq (t : Lat) (d c : Nat) : chkT t d c = if 6 < d ∨ 64 ≤ c then (c, 6) else if nodeE t ≠ 0 then (c + 1, nodeE t) else chkTs t.ps (d + 1) (c + 1) := by
  cases t
  rw [chkT]
  rfl
mutual
theorem chkT_le : ∀ (t : Lat) (d c : Nat), c ≤ 64 → c ≤ (chkT t d c).1 ∧ (chkT t d c).1 ≤ 64
  | ⟨k, lo, hi, ns, ps, rs⟩, d, c, h => by
    rw [chkT]
    split
    · exact ⟨Nat.le_refl _, h⟩
    · split
      · constructor <;> simp only <;> omega
      · have := chkTs_le ps (d + 1) (c + 1) (by omega)
        omega
theorem chkTs_le : ∀ (l : List Lat) (d c : Nat), c ≤ 64 → c ≤ (chkTs l d c).1 ∧ (chkTs l d c).1 ≤ 64
  | [], d, c, h => by rw [chkTs]; exact ⟨Nat.le_refl _, h⟩
  | p :: ps, d, c, h => by
    rw [chkTs]
    have h1 := chkT_le p d c h
    split
    · exact h1
    · have := chkTs_le ps d _ h1.2
      omega
end
mutual
theorem chkT_0 : ∀ (t : Lat) (d c : Nat), (chkT t d c).2 = 0 → nodeE t = 0
  | ⟨k, lo, hi, ns, ps, rs⟩, d, c, h => by
    rw [chkT] at h
    split at h
    · cases h
    · split at h
      · exact h
      · rename_i h2
        exact Classical.not_not.1 h2
end
/-- A tree without an error at a depth behind some nodes: so are its parts. -/
theorem chkTs_mem : ∀ (l : List Lat) (d c : Nat), (chkTs l d c).2 = 0 → ∀ p ∈ l, ∃ c', (chkT p d c').2 = 0 := by
  intro l
  induction l with
  | nil => intro d c _ p hp; cases hp
  | cons q l ih =>
    intro d c h p hp
    rw [chkTs] at h
    split at h
    · rename_i h2; exact absurd h h2
    · rename_i h2
      rcases List.mem_cons.1 hp with rfl | hp
      · exact ⟨c, Classical.not_not.1 h2⟩
      · exact ih _ _ h p hp
/-- Every node of the tree is without an error. -/
inductive Okay : Lat → Prop
  | mk {t : Lat} (h : nodeE t = 0) (hp : ∀ p ∈ t.ps, Okay p) : Okay t
theorem okay_of : ∀ (t : Lat) (d c : Nat), (chkT t d c).2 = 0 → Okay t := by
  refine lat_ind ?_
  intro k lo hi ns ps rs ih d c h
  refine .mk (chkT_0 _ d c h) fun p hp => ?_
  rw [chkT_eq] at h
  split at h
  · cases h
  · split at h
    · rename_i h2; exact absurd h h2
    · obtain ⟨c', h3⟩ := chkTs_mem _ _ _ h p hp
      exact ih p hp _ _ h3
theorem all_map {f : Lat → Bool} {fs : List Lat → Bool} (h0 : fs [] = true) (h1 : ∀ p ps, fs (p :: ps) = (f p && fs ps)) : ∀ l, fs l = l.all f := by
  intro l
  induction l with
  | nil => rw [h0]; rfl
  | cons p l ih => rw [h1, ih]; rfl
theorem chainsL_all : ∀ l, chainsL l = l.all chainL := all_map (by rw [chainsL]) (fun p ps => by rw [chainsL])
theorem finsL_all : ∀ l, finsL l = l.all finL := all_map (by rw [finsL]) (fun p ps => by rw [finsL])
theorem rfinsL_all : ∀ l, rfinsL l = l.all rfinL := all_map (by rw [rfinsL]) (fun p ps => by rw [rfinsL])
theorem distsL_all : ∀ l, distsL l = l.all distL := all_map (by rw [distsL]) (fun p ps => by rw [distsL])
theorem node_shape {t : Lat} (h : nodeE t = 0) : shapeB t = true := by
  unfold nodeE at h
  split at h
  · cases h
  · rename_i h2; simpa using h2
theorem shape_k {t : Lat} (h : shapeB t = true) : 1 ≤ t.k ∧ t.k ≤ 10 := by
  unfold shapeB at h
  repeat' split at h
  all_goals first | omega | cases h
theorem shape_leaf {t : Lat} (h : shapeB t = true) (hk : t.k = 1 ∨ t.k = 2 ∨ t.k = 3 ∨ t.k = 4 ∨ t.k = 8 ∨ t.k = 9 ∨ t.k = 10) : t.ps = [] := by
  unfold shapeB at h
  repeat' split at h
  all_goals first
    | (have h := of_decide_eq_true h; simp only [h])
    | omega
/-- A node that is without an error is finite by the one rule if it is by the other. -/
theorem fin_eq : ∀ t, Okay t → finL t = rfinL t := by
  refine lat_ind ?_
  intro k lo hi ns ps rs ih h
  obtain ⟨h0, hp⟩ := h
  have hs := node_shape h0
  have hk := shape_k hs
  have hl := shape_leaf hs
  simp only [Lat.k, Lat.ps] at hk hl hp
  have he : finsL ps = rfinsL ps := by
    rw [finsL_all, rfinsL_all]
    have : ∀ l : List Lat, (∀ p ∈ l, p ∈ ps) → l.all finL = l.all rfinL := by
      intro l
      induction l with
      | nil => intro _; rfl
      | cons p l ihl =>
        intro h
        simp only [List.all_cons]
        rw [ihl fun q hq => h q (by simp [hq]), ih p (h p (by simp)) (hp p (h p (by simp)))]
    exact this ps fun _ h => h
  rw [finL, rfinL, he]
  rcases kinds k with rfl | rfl | rfl | rfl | rfl | rfl | rfl | rfl | rfl | rfl | hx
  case inr.inr.inr.inr.inr.inr.inr.inr.inr.inr => omega
  all_goals first
    | (have hl := hl (by omega); subst hl; cases ns <;> simp [rfinsL])
    | (cases ns <;> simp [rfinsL])
/-- A chain is distributive, if it is without an error. -/
theorem chain_dist : ∀ t, Okay t → chainL t = true → distL t = true := by
  refine lat_ind ?_
  intro k lo hi ns ps rs ih h hc
  obtain ⟨h0, hp⟩ := h
  have hs := node_shape h0
  have hl := shape_leaf hs
  simp only [Lat.k, Lat.ps] at hl hp
  rw [chainL] at hc
  rw [distL, distsL_all]
  by_cases h7 : k = 7
  · subst h7
    simp only [if_true, Bool.and_eq_true, chainsL_all, List.all_eq_true] at hc
    simp only [show ¬((7 : Int) = 8 ∨ (7 : Int) = 10) by omega, if_false, List.all_eq_true]
    exact fun p hq => ih p hq (hp p hq) (hc.2 p hq)
  · rw [if_neg h7] at hc
    have hc := of_decide_eq_true hc
    rw [if_neg (by omega), hl (by omega)]
    rfl
end Go.Proofs.Ytdmonbcinlmljaa

/- What is asked of the parts of a description. Plain mathematics. -/
namespace Go.Proofs.Ytdmonbcinlmljaa
open Go.RowKit

mutual
theorem chkT_mono : ∀ (t : Lat) (d c d' c' : Nat), d' ≤ d → c' ≤ c → (chkT t d c).2 = 0 → (chkT t d' c').2 = 0 ∧ (chkT t d' c').1 + c = (chkT t d c).1 + c'
  | ⟨k, lo, hi, ns, ps, rs⟩, d, c, d', c', hd, hc, h => by
    rw [chkT] at h ⊢
    split at h
    · cases h
    · rename_i h1
      split at h
      · rename_i h2; exact absurd h h2
      · rename_i h2
        have := chkTs_mono ps (d + 1) (c + 1) (d' + 1) (c' + 1) (by omega) (by omega) h
        rw [if_neg (by omega), if_neg h2, chkT, if_neg h1, if_neg h2]
        exact ⟨this.1, by omega⟩
theorem chkTs_mono : ∀ (l : List Lat) (d c d' c' : Nat), d' ≤ d → c' ≤ c → (chkTs l d c).2 = 0 → (chkTs l d' c').2 = 0 ∧ (chkTs l d' c').1 + c = (chkTs l d c).1 + c'
  | [], d, c, d', c', hd, hc, h => by rw [chkTs, chkTs]; exact ⟨rfl, by simp only; omega⟩
  | p :: ps, d, c, d', c', hd, hc, h => by
    rw [chkTs] at h
    split at h
    · rename_i h2; exact absurd h h2
    · rename_i h2
      have h2 := Classical.not_not.1 h2
      have a := chkT_mono p d c d' c' hd hc h2
      have b := chkTs_mono ps d (chkT p d c).1 d' (chkT p d' c').1 hd (by omega) h
      rw [chkTs, if_neg (by rw [a.1]; simp), chkTs, if_neg (by rw [h2]; simp)]
      exact ⟨b.1, by omega⟩
end
mutual
theorem chkT_depth : ∀ (t : Lat) (d c : Nat), (chkT t d c).2 = 0 → depthL t + d ≤ 7
  | ⟨k, lo, hi, ns, ps, rs⟩, d, c, h => by
    rw [chkT] at h
    split at h
    · cases h
    · rename_i h1
      split at h
      · rename_i h2; exact absurd h h2
      · rw [depthL]
        have := chkTs_depth ps (d + 1) (c + 1) h
        omega
theorem chkTs_depth : ∀ (l : List Lat) (d c : Nat), (chkTs l d c).2 = 0 → depthsL l = 0 ∨ depthsL l + d ≤ 7
  | [], d, c, h => .inl (by rw [depthsL])
  | p :: ps, d, c, h => by
    rw [chkTs] at h
    split at h
    · rename_i h2; exact absurd h h2
    · rename_i h2
      have h2 := Classical.not_not.1 h2
      have a := chkT_depth p d c h2
      have b := chkTs_depth ps d _ h
      rw [depthsL]
      omega
end
/-- What is asked of the parts of a description without an error. -/
theorem parts_ok {t : Lat} (h : chkL t = 0) : depthL t ≤ 6 ∧ ∀ p ∈ t.ps, chkL p = 0 ∧ (distL t = true → distL p = true) ∧ (finL t = true → finL p = true) := by
  have hd := chkT_depth t 1 0 h
  have ho := okay_of t 1 0 h
  refine ⟨by omega, fun p hp => ?_⟩
  have h1 := h
  unfold chkL at h1
  rw [chkT_eq] at h1
  split at h1
  · cases h1
  · split at h1
    · rename_i h2; exact absurd h1 h2
    · obtain ⟨c', h3⟩ := chkTs_mem _ _ _ h1 p hp
      refine ⟨?_, fun hq => ?_, fun hq => ?_⟩
      · -- at any place: the place 1, 0
        have : ∀ (l : List Lat) (d c : Nat), (chkTs l d c).2 = 0 → 1 ≤ d → p ∈ l → chkL p = 0 := by
          intro l
          induction l with
          | nil => intro d c _ _ hp; cases hp
          | cons q l ih =>
            intro d c h hd hp
            rw [chkTs] at h
            split at h
            · rename_i h2; exact absurd h h2
            · rename_i h2
              rcases List.mem_cons.1 hp with rfl | hp
              · exact (chkT_mono p d c 1 0 hd (Nat.zero_le _) (Classical.not_not.1 h2)).1
              · exact ih _ _ h hd hp
        exact this t.ps _ _ h1 (by omega) hp
      · obtain ⟨k, lo, hi, ns, ps, rs⟩ := t
        rw [distL] at hq
        split at hq
        · cases hq
        · rw [distsL_all, List.all_eq_true] at hq
          exact hq p hp
      · cases ho with
        | mk h0 _ =>
          have hl := shape_leaf (node_shape h0)
          obtain ⟨k, lo, hi, ns, ps, rs⟩ := t
          simp only [Lat.k, Lat.ps] at hl hp
          rw [finL] at hq
          have hno : ps ≠ [] := fun e => by rw [e] at hp; cases hp
          have hk : ¬(k = 1 ∨ k = 2 ∨ k = 3 ∨ k = 10) := fun e => hno (hl (by omega))
          have hk2 : ¬(k = 4 ∨ k = 8) := fun e => hno (hl (by omega))
          rw [if_neg hk, if_neg hk2] at hq
          split at hq
          · rw [Bool.and_eq_true, finsL_all, List.all_eq_true] at hq
            exact hq.2 p hp
          · split at hq
            · rw [finsL_all, List.all_eq_true] at hq
              exact hq p hp
            · cases hq
end Go.Proofs.Ytdmonbcinlmljaa

/- Plain mathematics of the wire encoding: groups of seven bits, the reading of a number, zigzag. No condition. -/
namespace Go.Proofs.Ytdmonbcinlmljaa.Wr
open Go.RowKit

/-- The encoding of a number without sign. -/
def enc (n : Nat) : List Int := if n < 128 then [(n : Int)] else ((n % 128 + 128 : Nat) : Int) :: enc (n / 128)
termination_by n
decreasing_by omega

theorem enc_lt {n : Nat} (h : n < 128) : enc n = [(n : Int)] := by rw [enc, if_pos h]
theorem enc_ge {n : Nat} (h : ¬ n < 128) : enc n = ((n % 128 + 128 : Nat) : Int) :: enc (n / 128) := by rw [enc, if_neg h]

theorem enc_length_pos (n : Nat) : 0 < (enc n).length := by
  rw [enc]; split <;> simp

theorem enc_length_le : ∀ (k n : Nat), n < 128 ^ (k + 1) → (enc n).length ≤ k + 1 := by
  intro k
  induction k with
  | zero => intro n h; rw [enc_lt (by simpa using h)]; simp
  | succ k ih =>
    intro n h
    by_cases h1 : n < 128
    · rw [enc_lt h1]; simp
    · rw [enc_ge h1]
      have := ih (n / 128) (by rw [Nat.div_lt_iff_lt_mul (by omega)]; rw [Nat.pow_succ] at h; exact h)
      simp; omega

theorem enc_length_10 (n : Nat) (h : n < 18446744073709551616) : (enc n).length ≤ 10 := enc_length_le 9 n (by omega)

theorem enc_bytes : ∀ (k n : Nat), n ≤ k → ∀ x ∈ enc n, 0 ≤ x ∧ x ≤ 255 := by
  intro k
  induction k with
  | zero => intro n h x hx; rw [enc_lt (by omega)] at hx; simp at hx; omega
  | succ k ih =>
    intro n h x hx
    by_cases h1 : n < 128
    · rw [enc_lt h1] at hx; simp at hx; omega
    · rw [enc_ge h1] at hx
      rcases List.mem_cons.1 hx with rfl | hx
      · omega
      · exact ih (n / 128) (by omega) x hx

theorem enc_byte (n : Nat) : ∀ x ∈ enc n, 0 ≤ x ∧ x ≤ 255 := enc_bytes n n (Nat.le_refl _)

/-- What the loop of Uint has written after k rounds, and what is left of the number. -/
def encTake : Nat → Nat → List Int
  | 0, _ => []
  | k + 1, n => ((n % 128 + 128 : Nat) : Int) :: encTake k (n / 128)
theorem encTake_length : ∀ k n, (encTake k n).length = k := by
  intro k; induction k with
  | zero => intro n; rfl
  | succ k ih => intro n; simp [encTake, ih]
theorem encTake_snoc : ∀ k n, encTake (k + 1) n = encTake k n ++ [((n / 128 ^ k % 128 + 128 : Nat) : Int)] := by
  intro k; induction k with
  | zero => intro n; simp [encTake]
  | succ k ih =>
    intro n
    rw [encTake, ih (n / 128)]
    simp only [encTake, List.cons_append]
    rw [Nat.div_div_eq_div_mul, Nat.pow_succ, Nat.mul_comm]

/-- While every rest so far was 128 or more: the encoding is what was written, and that of the rest. -/
theorem enc_take : ∀ k n, (∀ j, j < k → 128 ≤ n / 128 ^ j) → enc n = encTake k n ++ enc (n / 128 ^ k) := by
  intro k; induction k with
  | zero => intro n _; simp [encTake]
  | succ k ih =>
    intro n h
    have h0 := h 0 (by omega)
    rw [enc_ge (by simpa using h0), encTake, ih (n / 128)]
    · simp only [List.cons_append]
      rw [Nat.div_div_eq_div_mul, Nat.pow_succ, Nat.mul_comm]
    · intro j hj
      have := h (j + 1) (by omega)
      rw [Nat.pow_succ, Nat.mul_comm, ← Nat.div_div_eq_div_mul] at this
      exact this

end Go.Proofs.Ytdmonbcinlmljaa.Wr

/- The contracts of clone and of the Writer of package wire: what each call does to the world. No condition but bounds on sizes. -/
namespace Go.Proofs.Ytdmonbcinlmljaa.Wr
open Go.RowKit

theorem Try.infoU8 : (Try.prog.info? 5).map (fun i => (i.zero, i.size, i.bytes)) = some (some (.int .u8 0), 1, 1) := by kernel_rfl
theorem Try.sizeU8 : (Try.prog.info? 5).map (·.size) = some 1 := by kernel_rfl

/-- The cells of a list of bytes. -/
def bs (l : List Int) : List Value := l.map (Value.int .u8)
theorem bs_length (l : List Int) : (bs l).length = l.length := by simp [bs]
theorem bs_one (l : List Int) : ∀ v ∈ bs l, v.oneCell' = true := by
  intro v hv; simp [bs] at hv; obtain ⟨x, _, rfl⟩ := hv; rfl
theorem bs_append (a b : List Int) : bs (a ++ b) = bs a ++ bs b := by simp [bs]

theorem hid_of {p : Prop} (h : p) : Hid p := h

/-- What make has laid, as a whole block. -/
theorem made_row {w : World} {B g e n : Nat} {z : Value} {xs : List Value} (h : w.ownsRow B e 1 (.slice (some ⟨g, 0, none⟩) n n) n xs) (hx : xs = (madeCells #[z] n).toList := by (first | rfl | simp)) :
    w.heap[g]? = some (.cells (List.replicate n z).toArray e (0, 0)) := by
  obtain ⟨hn0, hn1⟩ := h
  rcases hn1 with ⟨h, _⟩ | ⟨g, cap', cur, h, _, hg, _, _, hsz, ht⟩
  · cases h
  · cases h
    rw [hg]
    have e : cur.toList = (madeCells #[z] n).toList := by
      rw [← hx, ← ht, List.take_of_length_le (by simp [hsz])]
    rw [toList_madeCells_one] at e
    rw [← e]

set_option maxHeartbeats 400000 in
theorem clone_any (ao : Option Addr) (l : List Int) (cap : Nat) (w : World) (hl : l.length ≤ 140737488351232)
    (hpos : 0 < l.length → ∃ ad, ao = some ad ∧ ∀ j v, (bs l)[j]? = some v → w.cell? (ad.add j) = some v) :
    Calls Try.prog 53 #[.slice ao l.length cap] w fun e w' => e = .returned (.slice (some ⟨w.heap.size, 0, none⟩) l.length l.length) ∧
      w'.heap[w.heap.size]? = some (.cells (bs l).toArray 5 (0, 0)) ∧ Below w.heap.size w w' := by
  obtain ⟨i0, hi, hz0, hz1, hz2⟩ := info_parts Try.infoU8
  go_enter Try.func53, Try.ntmps53
  go_wp2_with (first | (at_make; refine wpList_make_full _ rfl _ _ 34 rfl w.heap.size 5 i0 (.int .u8 0) 1 Try.underlying34 hi hz0 hz1 .i64 .i64 l.length l.length l.length rfl rfl rfl rfl ?b2 ?b3 ?b4 ?_))
  case b2 => rw [hz2]; omega
  case b3 => unfold maxLen; omega
  case b4 => exact Nat.le_refl _
  intro w1 hown hgrow
  have hH := made_row hown
  have hb : Below w.heap.size w w1 := (Below.refl _ _).grown hgrow (Nat.le_refl _) (fun k h => by cases h)
  clear hown hgrow
  have hcells : Hid (0 < (bs l).length → ∃ ad, ao = some ad ∧ ∀ j v, (bs l)[j]? = some v → w1.cell? (ad.add j) = some v) := by
    intro h0
    obtain ⟨ad, ha, hc⟩ := hpos (by simpa [bs] using h0)
    refine ⟨ad, ha, fun j v hv => ?_⟩
    have h1 := hc j v hv
    rw [hb.cell (World.block_lt_of_cell? w _ h1)]
    exact h1
  go_wp2_with (with_reducible refine wpList_copy_splice rfl _ _ 34 34 rfl 5 Try.underlying34 Try.sizeU8 (some ⟨w.heap.size, 0, none⟩) ao l.length l.length l.length cap rfl rfl w.heap.size 0 (List.replicate l.length (Value.int .u8 0)) 5 hH (bs l) (by simp [bs]) ?hp ?hf ?h1 w.heap.size w hb (Nat.le_refl _) ?_)
  case hp => exact hcells.out
  case hf => simp [bs]
  case h1 => exact bs_one l
  intro w2 HG2 hB2
  go_wp2
  go_ret
  refine ⟨rfl, ?_, hB2⟩
  have := HG2.out
  rw [this]
  simp [splice, bs]

/-- The Writer in block b holds the bytes l, in the row of v. -/
structure Wst (B b : Nat) (w : World) (v : Value) (l : List Int) : Prop where
  blk : w.heap[b]? = some (.cells #[v] 52 (0, 0))
  own : w.ownsRow B 5 1 v l.length (bs l)

/-- Between w and w' nothing has turned but the blocks of S and new ones. -/
structure Kept (S : Nat → Prop) (w w' : World) : Prop where
  os : w'.os = w.os
  tape : w'.tape = w.tape
  output : w'.output = w.output
  size : w.heap.size ≤ w'.heap.size
  block : ∀ k, k < w.heap.size → ¬ S k → w'.heap[k]? = w.heap[k]?


theorem blk_setCell {w : World} {g k t : Nat} {cur : List Value} {u : Value} (h : w.heap[g]? = some (.cells cur.toArray t (0, 0))) :
    (w.setCell ⟨g, k, none⟩ u).heap[g]? = some (.cells (cur.set k u).toArray t (0, 0)) := by
  have hlt := lt_of_block h
  have h' : w.heap[g] = .cells cur.toArray t (0, 0) := by simpa [Array.getElem?_eq_getElem hlt] using h
  show (w.heap.modify g _)[g]? = _
  rw [Array.getElem?_eq_getElem (by simpa using hlt), Array.getElem_modify_self, h']
  simp

/-- What is owned stays owned where the row's block is as it was. -/
theorem own_same {w w' : World} {base e size n : Nat} {v : Value} {xs : List Value} (h : w.ownsRow base e size v n xs) (hs : ∀ k, v.ownBlock = some k → w'.heap[k]? = w.heap[k]?) : w'.ownsRow base e size v n xs := by
  obtain ⟨h1, h2⟩ := h
  refine ⟨h1, ?_⟩
  rcases h2 with h2 | ⟨g, cap, cur, hv, hb, hg, r⟩
  · exact .inl h2
  · exact .inr ⟨g, cap, cur, hv, hb, (hs g (by rw [hv]; rfl)).trans hg, r⟩

theorem Wst.ne {B b : Nat} {w : World} {v : Value} {l : List Int} (h : Wst B b w v l) : v.ownBlock ≠ some b := by
  intro e
  rcases h.own.2 with ⟨h2, _⟩ | ⟨g, cap, cur, hv, _, hg, _⟩
  · rw [h2] at e; cases e
  · rw [hv] at e
    have : g = b := by simpa [Value.ownBlock] using e
    subst this
    rw [h.blk] at hg; cases hg

theorem Kept.below {S : Nat → Prop} {w w' : World} {B : Nat} (h : Kept S w w') (hB : B ≤ w.heap.size) (hS : ∀ k, S k → B ≤ k) : Below B w w' :=
  ⟨h.os, h.tape, h.output, h.size, fun k hk => h.block k (by omega) (fun hs => by have := hS k hs; omega)⟩

theorem mask_or (m : Nat) (h : m < 18446744073709551616) : bits BinOp.or IntKind.u8 (bits BinOp.and IntKind.u64 (m : Int) 127 % 256) 128 = ((m % 128 + 128 : Nat) : Int) := by
  have h1 : bits BinOp.and IntKind.u64 (m : Int) 127 = ((m % 128 : Nat) : Int) := by
    have := u64_and_nat m 127 h (by omega)
    rw [nat_mask7] at this
    exact_mod_cast this
  rw [h1]
  have h2 : ((m % 128 : Nat) : Int) % 256 = ((m % 128 : Nat) : Int) := by omega
  rw [h2]
  have h3 := u8_or_nat (m % 128) 128 (by omega) (by omega)
  rw [show ((128 : Nat) : Int) = 128 from rfl] at h3
  rw [h3]
  have h4 : m % 128 ||| 128 = 128 + m % 128 := by rw [Nat.or_comm]; exact nat_join 7 128 (m % 128) (by decide) (by omega)
  rw [h4, Nat.add_comm]

theorem take_set {cur : List Value} {k : Nat} {xs : List Value} {u : Value} (hl : k < cur.length) (h : cur.take k = xs) : (cur.set k u).take (k + 1) = xs ++ [u] := by
  rw [List.take_add_one, List.take_set_of_le (Nat.le_refl k), h]
  simp [hl]

set_option maxHeartbeats 1000000 in
theorem uint_any (n : Nat) (b B : Nat) (v : Value) (l : List Int) (w : World) (hn : n < 18446744073709551616) (h : Wst B b w v l) (hl : l.length ≤ 140737488300000) (hB : B ≤ w.heap.size) :
    Calls Try.prog 49 #[.pointer (some ⟨b, 0, none⟩), .int .u64 n] w fun e w' => e = .returned (.tuple #[]) ∧
      ∃ v', Wst B b w' v' (l ++ enc n) ∧ Kept (fun k => k = b ∨ v.ownBlock = some k) w w' ∧ (v'.ownBlock = v.ownBlock ∨ ∀ g, v'.ownBlock = some g → w.heap.size ≤ g) := by
  obtain ⟨i0, hi, hz0, hz1, hz2⟩ := info_parts Try.infoU8
  have hbl := lt_of_block h.blk
  have hbH : b ≠ w.heap.size := by omega
  have hel := enc_length_10 n hn
  go_enter Try.func49, Try.ntmps49
  go_wp2
  go_loopw [1, 5] (fun nv kv wr => ∃ k : Nat, k ≤ 9 ∧ kv = .int .i64 k ∧ nv = .int .u64 ((n / 128 ^ k : Nat) : Int) ∧ Hid (∀ j, j < k → 128 ≤ n / 128 ^ j) ∧ Hid (wr.heap.size = w.heap.size + 1) ∧ Below w.heap.size w wr ∧
      ∃ cur : List Value, Hid (cur.length = 10 ∧ cur.take k = bs (encTake k n)) ∧ wr.heap[w.heap.size]? = some (.cells cur.toArray 93 (0, 0)))
    (fun _ i _ => 10 - (intOf i).toNat)
  case atStart =>
    refine ⟨0, by omega, rfl, by simp, fun j hj => by omega, by simp [Hid], (Below.refl _ _).alloc (Nat.le_refl _) _, List.replicate 10 (.int .u8 0), ⟨rfl, rfl⟩, ?_⟩
    rw [heap_alloc_new]; rfl
  case round =>
    obtain ⟨k, hk, rfl, rfl, hge, hsz, hbel, cur, hcur, hblk⟩ := hrel
    have hc0 : wr.cell? ⟨w.heap.size, k, none⟩ = some (cur.getD k (.int .u8 0)) := by
      have := hcur.out.1
      rw [cell_of_row _ _ _ _ _ _ hblk]
      simp [List.getD, show k < cur.length by omega]
    have hf0 : wr.frozen? ⟨w.heap.size, k, none⟩ = false := by simp [World.frozen?, hblk]
    obtain ⟨m, hm⟩ : ∃ m, m = n / 128 ^ k := ⟨_, rfl⟩
    rw [← hm]
    have hmn : m ≤ n := by rw [hm]; exact Nat.div_le_self _ _
    have HM : Hid (m = n / 128 ^ k) := hm
    have HB : Hid (wr.heap[w.heap.size]? = some (.cells cur.toArray 93 (0, 0))) := hblk
    clear hm hblk
    by_cases hlt : m < 128
    · have hd : decide ((127 : Int) < (m : Int)) = false := by simp; omega
      have hX0 : Hid ((wr.setCell ⟨w.heap.size, k, none⟩ (.int .u8 m)).heap[w.heap.size]? = some (.cells (cur.set k (.int .u8 m)).toArray 93 (0, 0))) := blk_setCell HB.out
      have hX1 : Below w.heap.size w (wr.setCell ⟨w.heap.size, k, none⟩ (.int .u8 m)) := hbel.setCell (Nat.le_refl _) _
      have hX2 : Hid ((wr.setCell ⟨w.heap.size, k, none⟩ (.int .u8 m)).heap.size = w.heap.size + 1) := hid_of (by have := hsz.out; show (wr.heap.modify _ _).size = _; rw [Array.size_modify]; exact this)
      go_wp2
      clear hc0 hf0
      generalize wr.setCell ⟨w.heap.size, k, none⟩ (.int .u8 m) = X at *
      have hXs := hX2.out
      have hXv : X.cell? ⟨b, 0, none⟩ = some v := (hX1.cell (p := ⟨b, 0, none⟩) hbl).trans (cell_of_one h.blk)
      have hXf : X.frozen? ⟨b, 0, none⟩ = false := (hX1.frozen (p := ⟨b, 0, none⟩) hbl).trans (free_of_one h.blk)
      have hXo : X.ownsRow B 5 1 v l.length (bs l) := own_same h.own fun k hk => hX1.block k (h.own.lt k hk).2
      have hnew : Hid (bs (enc n) = (cur.set k (.int .u8 m)).take (k + 1)) := hid_of (by
        obtain ⟨c1, c2⟩ := hcur.out
        rw [take_set (by omega) c2, enc_take k n hge.out, ← HM.out, enc_lt hlt]
        simp [bs])
      have hnl : Hid ((enc n).length = k + 1) := hid_of (by
        obtain ⟨c1, c2⟩ := hcur.out
        have := congrArg List.length hnew.out
        simp [bs, c1] at this
        omega)
      have hnw : ∀ j u, (bs (enc n))[j]? = some u → X.drew.cell? ((⟨w.heap.size, 0, none⟩ : Addr).add j) = some u := by
        intro j u hu
        refine World.news_of_block (cs := (cur.set k (.int .u8 m)).toArray) (t := 93) (fr := (0, 0)) hX0.out j u ?_
        rw [hnew.out, List.getElem?_take] at hu
        split at hu
        · simpa using hu
        · cases hu
      have HNW := hid_of hnw
      clear hnw
      have a1 : IntKind.i64.wrap ((k : Int) + 1) = (k : Int) + 1 := IntWalk.i64_in _ (by omega)
      have a2 : (0 : Int) ≤ (k : Int) + 1 := by omega
      have a3 : (k : Int) + 1 ≤ 10 := by omega
      have a4 : ((k : Int) + 1).toNat = k + 1 := by omega
      go_region_law
        ((refine step_append_lies _ (by rfl) _ _ _ (by rfl) B 5 i0 _ 1 1 Try.underlying34 hi hz0 hz1 hz2 rfl (by omega) v l.length (bs l) (by rfl) (hXo.drew)
            ⟨w.heap.size, 0, none⟩ (k + 1) 10 (bs (enc n)) (by rfl) (by rw [bs_length, hnl.out]; omega) HNW.out (bs_one _)
            (by omega) (by unfold maxLen; omega) (by omega) (by simp; omega) (w.heap.size + 1) (by simp; omega) ?_; intro gg cap w1 hown1 hgrow hat hlt; have k0 : w1.cell? ⟨b, 0, none⟩ = some v := (hgrow.cell_far ⟨b, 0, none⟩ (by simp; omega) (Ne.symm h.ne)).trans hXv; have k1 : w1.frozen? ⟨b, 0, none⟩ = false := (hgrow.frozen_far ⟨b, 0, none⟩ (by simp; omega) (Ne.symm h.ne)).trans hXf))
      go_end0
      refine ⟨rfl, .slice (some ⟨gg, 0, none⟩) (l.length + (k + 1)) cap, ⟨one_setCell (v := v) ?_, ?_⟩, ?_, ?_⟩
      · rw [hgrow.block b (by simp; omega) (Ne.symm h.ne)]
        exact (hX1.block b hbl).trans h.blk
      · have e1 : (l ++ enc n).length = l.length + (k + 1) := by rw [List.length_append, hnl.out]
        rw [e1, bs_append]
        refine ownsRow_setCell_other hown1 ?_ _
        intro e
        have e2 : gg = b := by simpa [Value.ownBlock] using e
        rcases hat with hat | hat
        · rw [e2] at hat; exact h.ne hat
        · omega
      · refine ⟨hgrow.os.trans hX1.os, hgrow.tape.trans hX1.tape, hgrow.output.trans hX1.output, ?_, ?_⟩
        · have e1 := hgrow.size
          have e2 : X.drew.heap.size = X.heap.size := rfl
          show w.heap.size ≤ (w1.heap.modify _ _).size
          rw [Array.size_modify]
          omega
        · intro q hq hS
          rw [Below.heap_setCell _ _ _ _ (fun e => hS (Or.inl e)), hgrow.block q (by simp; omega) (fun e => hS (Or.inr e.symm))]
          exact hX1.block q hq
      · rcases hat with hat | hat
        · exact Or.inl hat.symm
        · refine Or.inr fun g hg => ?_
          have : gg = g := by simpa [Value.ownBlock] using hg
          omega
    · have hk8 : k ≤ 8 := by
        have h1 := HM.out
        rcases Nat.lt_or_ge k 9 with h2 | h2
        · omega
        · obtain rfl : k = 9 := by omega
          have h3 : m = n / 9223372036854775808 := h1
          omega
      have hd : decide ((127 : Int) < (m : Int)) = true := by simp; omega
      have hbits := mask_or m (by omega)
      go_wp2
      go_roundw
      case rel =>
        refine ⟨k + 1, by omega, by go_num, ?_, ?_, ?_, hbel.setCell (Nat.le_refl _) _, cur.set k (.int .u8 ((m % 128 + 128 : Nat) : Int)), ?_, blk_setCell HB.out⟩
        · rw [HM.out, Nat.pow_succ, ← Nat.div_div_eq_div_mul]
          go_num
        · refine hid_of fun j hj => ?_
          rcases Nat.lt_or_ge j k with h1 | h1
          · exact hge.out j h1
          · obtain rfl : j = k := by omega
            rw [← HM.out]; omega
        · refine hid_of ?_
          have := hsz.out
          show (wr.heap.modify _ _).size = _
          rw [Array.size_modify]; exact this
        · obtain ⟨c1, c2⟩ := hcur.out
          refine hid_of ⟨by simpa using c1, ?_⟩
          rw [take_set (by omega) c2, encTake_snoc, HM.out]
          simp [bs]
      case measure => simp [intOf]; omega

end Go.Proofs.Ytdmonbcinlmljaa.Wr

/- The contracts of the Writer's other methods. No condition but bounds on sizes. -/
namespace Go.Proofs.Ytdmonbcinlmljaa.Wr
open Go.RowKit

theorem own_shape {w : World} {base e size n : Nat} {v : Value} {xs : List Value} (h : w.ownsRow base e size v n xs) : ∃ ao cap, v = .slice ao n cap := by
  rcases h.2 with ⟨h1, h2⟩ | ⟨g, cap, cur, h1, _⟩
  · exact ⟨none, 0, by rw [h1, h2]⟩
  · exact ⟨_, cap, h1⟩

/-- What is owned, as cells behind its address. -/
theorem own_src {w : World} {base e n cap : Nat} {ao : Option Addr} {xs : List Value} (h : w.ownsRow base e 1 (.slice ao n cap) n xs) : 0 < n → ∃ ad, ao = some ad ∧ ∀ j u, xs[j]? = some u → w.cell? (ad.add j) = some u := by
  intro h0
  rcases h.2 with ⟨h1, h2⟩ | ⟨g, cap', cur, h1, _⟩
  · omega
  · cases h1
    exact ⟨_, rfl, h.cells rfl⟩

theorem Wst.alloc {B b : Nat} {w : World} {v : Value} {l : List Int} (h : Wst B b w v l) (o : Obj) : Wst B b (w.alloc o) v l :=
  ⟨by rw [Below.heap_alloc _ _ _ (lt_of_block h.blk)]; exact h.blk, h.own.alloc o⟩

/-- What the last store of a Writer's method leaves. -/
theorem wst_store {B b n2 : Nat} {w1 w2 : World} {v1 v2 : Value} {l1 l2 : List Int} (h : Wst B b w1 v1 l1) (hown : w2.ownsRow B 5 1 v2 n2 (bs l2)) (hn : n2 = l2.length) (hg : w1.grownBy w2 v1.ownBlock)
    (hat : v2.ownBlock = v1.ownBlock ∨ v2.ownBlock = some w1.heap.size) :
    Wst B b (w2.setCell ⟨b, 0, none⟩ v2) v2 l2 ∧ Kept (fun k => k = b ∨ v1.ownBlock = some k) w1 (w2.setCell ⟨b, 0, none⟩ v2) ∧ (v2.ownBlock = v1.ownBlock ∨ ∀ g, v2.ownBlock = some g → w1.heap.size ≤ g) := by
  subst hn
  have hbl := lt_of_block h.blk
  have hblk2 : w2.heap[b]? = some (.cells #[v1] 52 (0, 0)) := (hg.block b hbl (Ne.symm h.ne)).trans h.blk
  refine ⟨⟨one_setCell (v := v1) hblk2, ownsRow_setCell_other hown ?_ _⟩, ⟨hg.os, hg.tape, hg.output, ?_, ?_⟩, ?_⟩
  · intro e
    rcases hat with hat | hat
    · rw [hat] at e; exact h.ne e
    · rw [hat] at e
      have : w1.heap.size = b := by simpa using e
      omega
  · show w1.heap.size ≤ (w2.heap.modify _ _).size
    rw [Array.size_modify]; exact hg.size
  · intro q hq hS
    rw [Below.heap_setCell _ _ _ _ (fun e => hS (Or.inl e)), hg.block q hq (fun e => hS (Or.inr e.symm))]
  · rcases hat with hat | hat
    · exact Or.inl hat
    · refine Or.inr fun g hgg => ?_
      rw [hat] at hgg
      have : w1.heap.size = g := by simpa using hgg
      omega

theorem Kept.trans {S T : Nat → Prop} {a b c : World} (h : Kept S a b) (k : Kept T b c) (hST : ∀ q, q < a.heap.size → T q → S q) : Kept S a c :=
  ⟨k.os.trans h.os, k.tape.trans h.tape, k.output.trans h.output, Nat.le_trans h.size k.size, fun q hq hS => (k.block q (by have := h.size; omega) (fun ht => hS (hST q hq ht))).trans (h.block q hq hS)⟩
theorem Kept.of_alloc {S : Nat → Prop} {a c : World} {o : Obj} (k : Kept S (a.alloc o) c) : Kept S a c :=
  ⟨k.os, k.tape, k.output, by have := k.size; simp at this; omega, fun q hq hS => (k.block q (by simp; omega) hS).trans (Below.heap_alloc _ _ _ hq)⟩

/-- The bytes of a string. -/
def strBytes (s : ByteArray) : List Int := s.data.toList.map fun b => (b.toNat : Int)
theorem strBytes_length (s : ByteArray) : (strBytes s).length = s.size := by simp [strBytes]
theorem byteCells_eq (s : ByteArray) : byteCells s = bs (strBytes s) := by simp [byteCells, bs, strBytes]

theorem src_str (s : ByteArray) (w : World) : Src Try.prog 1 9 (.string s) s.size (bs (strBytes s)) w := by
  have := Src.ofString (P := Try.prog) w Try.underlying9 s
  rwa [byteCells_eq] at this
theorem src_slice (ao : Option Addr) (m : List Int) (cap : Nat) (w : World) (h : 0 < m.length → ∃ ad, ao = some ad ∧ ∀ j v, (bs m)[j]? = some v → w.cell? (ad.add j) = some v) (hnil : ao = none → cap = 0) :
    Src Try.prog 1 34 (.slice ao m.length cap) m.length (bs m) w := by
  cases m with
  | nil =>
    cases ao with
    | none => exact Src.ofNil w Try.underlying34 cap
    | some ad => exact Src.ofSlice w Try.underlying34 ad 0 cap [] rfl (fun j u hu => absurd hu (by simp)) (fun u hu => absurd hu (by simp))
  | cons x r =>
    obtain ⟨ad, rfl, hc⟩ := h (by simp)
    exact Src.ofSlice w Try.underlying34 ad _ cap _ (by simp [bs]) hc (bs_one _)

theorem kept_two {b : Nat} {v v1 : Value} {w w1 w2 : World} (h1 : Kept (fun k => k = b ∨ v.ownBlock = some k) w w1) (h2 : Kept (fun k => k = b ∨ v1.ownBlock = some k) w1 w2)
    (ho : v1.ownBlock = v.ownBlock ∨ ∀ g, v1.ownBlock = some g → w.heap.size ≤ g) : Kept (fun k => k = b ∨ v.ownBlock = some k) w w2 :=
  h1.trans h2 fun q hq hT => by
    rcases hT with hT | hT
    · exact Or.inl hT
    · rcases ho with ho | ho
      · exact Or.inr (ho ▸ hT)
      · have := ho q hT; omega
theorem own_two {v v1 v2 : Value} {w w1 : World} (hs : w.heap.size ≤ w1.heap.size) (h1 : v1.ownBlock = v.ownBlock ∨ ∀ g, v1.ownBlock = some g → w.heap.size ≤ g) (h2 : v2.ownBlock = v1.ownBlock ∨ ∀ g, v2.ownBlock = some g → w1.heap.size ≤ g) :
    v2.ownBlock = v.ownBlock ∨ ∀ g, v2.ownBlock = some g → w.heap.size ≤ g := by
  rcases h2 with h2 | h2
  · rw [h2]; exact h1
  · exact Or.inr fun g hg => Nat.le_trans hs (h2 g hg)

set_option maxHeartbeats 400000 in
theorem text_any (s : ByteArray) (b B : Nat) (v : Value) (l : List Int) (w : World) (h : Wst B b w v l) (hs : s.size ≤ 70000000000000) (hl : l.length ≤ 70000000000000) (hB : B ≤ w.heap.size) :
    Calls Try.prog 52 #[.pointer (some ⟨b, 0, none⟩), .string s] w fun e w' => e = .returned (.tuple #[]) ∧
      ∃ v', Wst B b w' v' (l ++ enc s.size ++ strBytes s) ∧ Kept (fun k => k = b ∨ v.ownBlock = some k) w w' ∧ (v'.ownBlock = v.ownBlock ∨ ∀ g, v'.ownBlock = some g → w.heap.size ≤ g) := by
  obtain ⟨i0, hi, hz0, hz1, hz2⟩ := info_parts Try.infoU8
  have hbl := lt_of_block h.blk
  have hel := enc_length_10 s.size (by omega)
  go_enter Try.func52, Try.ntmps52
  go_wp2_with (first
    | (go_at_call 49; refine (uint_any s.size b B v l w (by omega) h (by omega) hB).mono ?_; rintro e w1 ⟨rfl, v1, h1, hk1, ho1⟩; have c0 := cell_of_one h1.blk; have c1 := free_of_one h1.blk; have H1 := hid_of h1; have HK1 := hid_of hk1; have HO1 := hid_of ho1; have hBw : B ≤ w1.heap.size := Nat.le_trans hB hk1.size; clear h1 hk1 ho1)
    | (at_builtin; with_reducible refine wpList_append_src _ rfl _ _ 34 9 rfl B 5 i0 (.int .u8 0) 1 1 Try.underlying34 hi hz0 hz1 hz2 rfl (by decide) v1 (l ++ enc s.size).length (bs (l ++ enc s.size)) rfl H1.out.own (.string s) s.size (bs (strBytes s)) rfl (src_str s _) (by rw [List.length_append]; unfold maxLen; omega) (by rw [List.length_append]; omega) hBw ?_
       intro v2 w2 hown2 hg2 _ hat2
       have k0 : w2.cell? ⟨b, 0, none⟩ = some v1 := (hg2.cell_far ⟨b, 0, none⟩ (lt_of_block H1.out.blk) (Ne.symm H1.out.ne)).trans c0
       have k1 : w2.frozen? ⟨b, 0, none⟩ = false := (hg2.frozen_far ⟨b, 0, none⟩ (lt_of_block H1.out.blk) (Ne.symm H1.out.ne)).trans c1
       have R := hid_of (wst_store (l2 := l ++ enc s.size ++ strBytes s) H1.out (by rw [bs_append _ (strBytes s)]; exact hown2) (by simp [strBytes_length, Nat.add_assoc]) hg2 hat2)
       obtain ⟨ao, cap, rfl⟩ := own_shape hown2
       clear hown2 hg2 hat2 c0 c1))
  go_end0
  obtain ⟨R1, R2, R3⟩ := R.out
  simp only [List.length_append] at R1 R2 R3
  have ho1 := HO1.out
  have hk1 := HK1.out
  exact ⟨rfl, _, R1, kept_two hk1 R2 ho1, own_two hk1.size ho1 R3⟩

/-- Zigzag. -/
def zig (n : Int) : Nat := if 0 ≤ n then (2 * n).toNat else (-2 * n - 1).toNat
theorem zig_lt (n : Int) (h0 : -9223372036854775808 ≤ n) (h1 : n ≤ 9223372036854775807) : zig n < 18446744073709551616 := by
  unfold zig; split <;> omega

theorem xor_ones (x : Nat) (h : x < 18446744073709551616) : 18446744073709551615 ^^^ x = 18446744073709551615 - x := by
  have h1 : (BitVec.allOnes 64 ^^^ BitVec.ofNat 64 x).toNat = (~~~ (BitVec.ofNat 64 x)).toNat := by rw [BitVec.allOnes_xor]
  rw [BitVec.toNat_xor, BitVec.toNat_not, BitVec.toNat_allOnes, BitVec.toNat_ofNat, Nat.mod_eq_of_lt (by omega)] at h1
  simpa using h1

theorem zig_neg (n : Int) (h0 : -9223372036854775808 ≤ n) (h1 : n < 0) : bits BinOp.xor IntKind.u64 (if IntKind.u64.signed = true then -1 else IntKind.u64.max) (IntKind.u64.wrap (IntKind.u64.wrap n * 2)) = (zig n : Int) := by
  have e1 : IntKind.u64.wrap (IntKind.u64.wrap n * 2) = ((2 * n + 18446744073709551616).toNat : Int) := by
    rw [IntKind.wrap_u64, IntKind.wrap_u64]; omega
  have e2 : (if IntKind.u64.signed = true then -1 else IntKind.u64.max) = ((18446744073709551615 : Nat) : Int) := by decide
  rw [e1, e2, bits_xor_u64_nat _ _ (by omega) (by omega), xor_ones _ (by omega)]
  unfold zig
  rw [if_neg (by omega)]
  omega

theorem zig_pos (n : Int) (h1 : ¬ n < 0) : n * 2 = (zig n : Int) := by
  unfold zig; rw [if_pos (by omega)]; omega

set_option maxHeartbeats 400000 in
theorem int_any (n : Int) (b B : Nat) (v : Value) (l : List Int) (w : World) (h0 : -9223372036854775808 ≤ n) (h1 : n ≤ 9223372036854775807) (h : Wst B b w v l) (hl : l.length ≤ 70000000000000) (hB : B ≤ w.heap.size) :
    Calls Try.prog 50 #[.pointer (some ⟨b, 0, none⟩), .int .i64 n] w fun e w' => e = .returned (.tuple #[]) ∧
      ∃ v', Wst B b w' v' (l ++ enc (zig n)) ∧ Kept (fun k => k = b ∨ v.ownBlock = some k) w w' ∧ (v'.ownBlock = v.ownBlock ∨ ∀ g, v'.ownBlock = some g → w.heap.size ≤ g) := by
  have hz := zig_lt n h0 h1
  by_cases hn : n < 0
  · have HZ := hid_of (zig_neg n h0 hn)
    go_enter Try.func50, Try.ntmps50
    go_wp2_with (go_at_call 49; rw [HZ.out]; refine (uint_any (zig n) b B v l w hz h (by omega) hB).mono ?_; rintro e w1 ⟨rfl, v1, h1, hk1, ho1⟩; have R := hid_of (And.intro h1 (And.intro hk1 ho1)); clear h1 hk1 ho1)
    go_end0
    exact ⟨rfl, v1, R.out⟩
  · have HZ := hid_of (zig_pos n hn)
    go_enter Try.func50, Try.ntmps50
    go_wp2_with (go_at_call 49; rw [HZ.out]; refine (uint_any (zig n) b B v l w hz h (by omega) hB).mono ?_; rintro e w1 ⟨rfl, v1, h1, hk1, ho1⟩; have R := hid_of (And.intro h1 (And.intro hk1 ho1)); clear h1 hk1 ho1)
    go_end0
    exact ⟨rfl, v1, R.out⟩

set_option maxHeartbeats 400000 in
theorem data_any (b B : Nat) (v : Value) (l : List Int) (w : World) (h : Wst B b w v l) (hl : l.length ≤ 140737488351232) :
    Calls Try.prog 28 #[.pointer (some ⟨b, 0, none⟩)] w fun e w' => e = .returned (.slice (some ⟨w.heap.size, 0, none⟩) l.length l.length) ∧
      w'.heap[w.heap.size]? = some (.cells (bs l).toArray 5 (0, 0)) ∧ Below w.heap.size w w' := by
  obtain ⟨ao, cap, rfl⟩ := own_shape h.own
  have c0 := cell_of_one h.blk
  have hsrc := hid_of (own_src h.own)
  go_enter Try.func28, Try.ntmps28
  go_wp2_with (go_at_call 53; refine (clone_any ao l cap w hl hsrc.out).mono ?_; rintro e w1 ⟨rfl, h1, h2⟩; have H1 := hid_of h1; clear h1)
  go_ret
  exact ⟨rfl, H1.out, h2⟩

end Go.Proofs.Ytdmonbcinlmljaa.Wr

/- The Writer as a whole. No condition but bounds on sizes. -/
namespace Go.Proofs.Ytdmonbcinlmljaa.Wr
open Go.RowKit

/-- The Writer in block b holds l; below B the world is as w0 was. -/
def WS (B b : Nat) (w0 w : World) (l : List Int) : Prop := B ≤ b ∧ B ≤ w0.heap.size ∧ Below B w0 w ∧ ∃ v, Wst B b w v l

theorem WS.size {B b : Nat} {w0 w : World} {l : List Int} (h : WS B b w0 w l) : B ≤ w.heap.size := Nat.le_trans h.2.1 h.2.2.1.size
theorem WS.step {B b : Nat} {w0 w w' : World} {v v' : Value} {l l' : List Int} (h1 : B ≤ b) (h2 : B ≤ w0.heap.size) (h3 : Below B w0 w) (hv : Wst B b w v l) (hv' : Wst B b w' v' l') (hk : Kept (fun k => k = b ∨ v.ownBlock = some k) w w') : WS B b w0 w' l' :=
  ⟨h1, h2, h3.trans (hk.below (Nat.le_trans h2 h3.size) (fun k hk => hk.elim (fun e => by omega) (fun e => (hv.own.lt k e).1))), v', hv'⟩

theorem uint_ws (n : Nat) (b B : Nat) (l : List Int) (w0 w : World) (hn : n < 18446744073709551616) (h : WS B b w0 w l) (hl : l.length ≤ 140737488300000) :
    Calls Try.prog 49 #[.pointer (some ⟨b, 0, none⟩), .int .u64 n] w fun e w' => e = .returned (.tuple #[]) ∧ WS B b w0 w' (l ++ enc n) := by
  have hB := h.size
  obtain ⟨h1, h2, h3, v, hv⟩ := h
  exact (uint_any n b B v l w hn hv hl hB).mono fun e w' ⟨he, v', hv', hk, _⟩ => ⟨he, WS.step h1 h2 h3 hv hv' hk⟩
theorem int_ws (n : Int) (b B : Nat) (l : List Int) (w0 w : World) (n0 : -9223372036854775808 ≤ n) (n1 : n ≤ 9223372036854775807) (h : WS B b w0 w l) (hl : l.length ≤ 70000000000000) :
    Calls Try.prog 50 #[.pointer (some ⟨b, 0, none⟩), .int .i64 n] w fun e w' => e = .returned (.tuple #[]) ∧ WS B b w0 w' (l ++ enc (zig n)) := by
  have hB := h.size
  obtain ⟨h1, h2, h3, v, hv⟩ := h
  exact (int_any n b B v l w n0 n1 hv hl hB).mono fun e w' ⟨he, v', hv', hk, _⟩ => ⟨he, WS.step h1 h2 h3 hv hv' hk⟩
theorem text_ws (s : ByteArray) (b B : Nat) (l : List Int) (w0 w : World) (hs : s.size ≤ 70000000000000) (h : WS B b w0 w l) (hl : l.length ≤ 70000000000000) :
    Calls Try.prog 52 #[.pointer (some ⟨b, 0, none⟩), .string s] w fun e w' => e = .returned (.tuple #[]) ∧ WS B b w0 w' (l ++ enc s.size ++ strBytes s) := by
  have hB := h.size
  obtain ⟨h1, h2, h3, v, hv⟩ := h
  exact (text_any s b B v l w hv hs hl hB).mono fun e w' ⟨he, v', hv', hk, _⟩ => ⟨he, WS.step h1 h2 h3 hv hv' hk⟩
theorem data_ws (b B : Nat) (l : List Int) (w0 w : World) (h : WS B b w0 w l) (hl : l.length ≤ 140737488351232) :
    Calls Try.prog 28 #[.pointer (some ⟨b, 0, none⟩)] w fun e w' => e = .returned (.slice (some ⟨w.heap.size, 0, none⟩) l.length l.length) ∧
      w'.heap[w.heap.size]? = some (.cells (bs l).toArray 5 (0, 0)) ∧ WS B b w0 w' l := by
  obtain ⟨h1, h2, h3, v, hv⟩ := h
  refine (data_any b B v l w hv hl).mono fun e w' ⟨he, hr, hb⟩ => ⟨he, hr, h1, h2, h3.trans (hb.mono (Nat.le_trans h2 h3.size)), v, ?_⟩
  exact ⟨(hb.block b (lt_of_block hv.blk)).trans hv.blk, own_same hv.own fun k hk => hb.block k (hv.own.lt k hk).2⟩

theorem ws_new (w : World) : WS w.heap.size w.heap.size w (w.alloc (.cells #[.slice none 0 0] 52)) [] :=
  ⟨Nat.le_refl _, Nat.le_refl _, (Below.refl _ _).alloc (Nat.le_refl _) _, .slice none 0 0, ⟨heap_alloc_new _ _, World.ownsRow_nil _ _ _ _⟩⟩

/-- A row, as cells behind its address. -/
theorem row_src {w : World} {g : Nat} {l : List Int} (h : w.heap[g]? = some (.cells (bs l).toArray 5 (0, 0))) : 0 < l.length → ∃ ad, (some (⟨g, 0, none⟩ : Addr)) = some ad ∧ ∀ j v, (bs l)[j]? = some v → w.cell? (ad.add j) = some v :=
  fun _ => ⟨_, rfl, fun j v hv => World.news_of_block h j v (by simpa using hv)⟩

end Go.Proofs.Ytdmonbcinlmljaa.Wr

/- The contracts of the Reader of package wire. No condition but bounds on sizes. -/
namespace Go.Proofs.Ytdmonbcinlmljaa.Wr
open Go.RowKit

/-- May a number end with the group g at place i? -/
def mayEnd (i : Nat) (g : Int) : Bool := decide (i = 0) || (decide (g ≠ 0) && (decide (i < 9) || decide (g = 1)))

/-- Reading a number from place i on: what was read so far is acc. -/
def decAt : Nat → Nat → Nat → List Int → Option (Nat × Nat)
  | 0, _, _, _ => none
  | _ + 1, _, _, [] => none
  | f + 1, i, acc, g :: r => if 128 ≤ g then decAt f (i + 1) (acc + (g - 128).toNat * 128 ^ i) r else if mayEnd i g then some (acc + g.toNat * 128 ^ i, i + 1) else none
def dec (l : List Int) : Option (Nat × Nat) := decAt 10 0 0 l

/-- The Reader in block b, its bytes in block g. -/
structure Rst (w : World) (b g : Nat) (d : List Int) (off last : Nat) (err : Int) : Prop where
  blk : w.heap[b]? = some (.cells #[.slice (some ⟨g, 0, none⟩) d.length d.length, .int .i64 off, .int .i64 last, .int .i64 err] 82 (0, 0))
  row : w.heap[g]? = some (.cells (bs d).toArray 5 (0, 0))
  rng : ∀ x ∈ d, 0 ≤ x ∧ x ≤ 255
  le : off ≤ d.length
  small : d.length ≤ 140737488351232

theorem Rst.c0 {w : World} {b g off last : Nat} {d : List Int} {err : Int} (h : Rst w b g d off last err) : w.cell? ⟨b, 0, none⟩ = some (.slice (some ⟨g, 0, none⟩) d.length d.length) := by rw [cell_of_row _ _ _ _ _ _ h.blk]; rfl
theorem Rst.c1 {w : World} {b g off last : Nat} {d : List Int} {err : Int} (h : Rst w b g d off last err) : w.cell? ⟨b, 1, none⟩ = some (.int .i64 off) := by rw [cell_of_row _ _ _ _ _ _ h.blk]; rfl
theorem Rst.c2 {w : World} {b g off last : Nat} {d : List Int} {err : Int} (h : Rst w b g d off last err) : w.cell? ⟨b, 2, none⟩ = some (.int .i64 last) := by rw [cell_of_row _ _ _ _ _ _ h.blk]; rfl
theorem Rst.c3 {w : World} {b g off last : Nat} {d : List Int} {err : Int} (h : Rst w b g d off last err) : w.cell? ⟨b, 3, none⟩ = some (.int .i64 err) := by rw [cell_of_row _ _ _ _ _ _ h.blk]; rfl
theorem Rst.free {w : World} {b g off last : Nat} {d : List Int} {err : Int} (h : Rst w b g d off last err) (j : Nat) : w.frozen? ⟨b, j, none⟩ = false := by simp [World.frozen?, h.blk]
theorem Rst.byte {w : World} {b g off last : Nat} {d : List Int} {err : Int} (h : Rst w b g d off last err) {j : Nat} (hj : j < d.length) : w.cell? ⟨g, j, none⟩ = some (.int .u8 d[j]) := by
  rw [cell_of_row _ _ _ _ _ _ h.row]; simp [bs, hj]
theorem Rst.drewN {w : World} {b g off last : Nat} {d : List Int} {err : Int} (h : Rst w b g d off last err) (m : Nat) : Rst (w.drewN m) b g d off last err := ⟨h.blk, h.row, h.rng, h.le, h.small⟩

set_option maxHeartbeats 400000 in
theorem mayEnd_any (i : Nat) (g : Int) (w : World) (hi : i < 10) (h0 : 0 ≤ g) (h1 : g ≤ 255) :
    Calls Try.prog 78 #[.int .i64 i, .int .u8 g] w fun e w' => e = .returned (.bool (mayEnd i g)) ∧ w = w' := by
  by_cases h2 : i = 0
  · subst h2
    go_enter Try.func78, Try.ntmps78
    go_wp2
    go_ret
    exact ⟨rfl, rfl⟩
  · have hb : ((i : Int) == 0) = false := by simp; omega
    by_cases h3 : g = 0
    · subst h3
      go_enter Try.func78, Try.ntmps78
      go_wp2
      go_ret
      exact ⟨by simp [mayEnd, h2], rfl⟩
    · have hb3 : (g != 0) = true := by simp; omega
      by_cases h4 : i < 9
      · have hb4 : decide ((i : Int) < 9) = true := by simp; omega
        go_enter Try.func78, Try.ntmps78
        go_wp2
        go_ret
        exact ⟨by simp [mayEnd, h2, h3, h4], rfl⟩
      · have hb4 : decide ((i : Int) < 9) = false := by simp; omega
        go_enter Try.func78, Try.ntmps78
        go_wp2
        go_ret
        exact ⟨by simp [mayEnd, h2, h3, h4]; rfl, rfl⟩

/-- What number returns. -/
def numRes (off : Nat) : Option (Nat × Nat) → Value
  | some (n, k) => .tuple #[.int .u64 n, .int .i64 ((off + k : Nat) : Int), .bool true]
  | none => .tuple #[.int .u64 0, .int .i64 0, .bool false]

theorem ret3_num {a b c d : Int} (h1 : a = b) (h2 : c = d) : Ending.returned (.tuple #[.int .u64 a, .int .i64 c, .bool true]) = Ending.returned (.tuple #[.int .u64 b, .int .i64 d, .bool true]) := by rw [h1, h2]

def Drew (w w' : World) : Prop := ∃ m, w' = w.drewN m

theorem or_form (x i : Nat) (y : Int) (h0 : 0 ≤ y) (h1 : y ≤ 255) (hx : x < 18446744073709551616) :
    bits BinOp.or IntKind.u64 (x : Int) (IntKind.u64.wrap (IntKind.u64.wrap (bits BinOp.and IntKind.u8 y 127) * 2 ^ (7 * i))) = ((x ||| (y.toNat % 128 * 2 ^ (7 * i) % 18446744073709551616) : Nat) : Int) := by
  have e1 : bits BinOp.and IntKind.u8 y 127 = ((y.toNat % 128 : Nat) : Int) := by
    have := u8_and y 127 h0 (by omega) (by omega) (by omega)
    rw [show (127 : Int).toNat = 127 from rfl, nat_mask7] at this
    exact this
  have e2 : IntKind.u64.wrap (IntKind.u64.wrap ((y.toNat % 128 : Nat) : Int) * 2 ^ (7 * i)) = ((y.toNat % 128 * 2 ^ (7 * i) % 18446744073709551616 : Nat) : Int) := by
    have hz : y.toNat % 128 < 128 := Nat.mod_lt _ (by decide)
    generalize y.toNat % 128 = z at hz
    rw [IntKind.wrap_u64, IntKind.wrap_u64]
    have e3 : (z : Int) % 18446744073709551616 = (z : Int) := by omega
    rw [e3]
    simp only [Int.natCast_emod, Int.natCast_mul, Int.natCast_pow]
    rfl
  rw [e1, e2]
  exact u64_or_nat _ _ hx (Nat.mod_lt _ (by decide))

theorem or_val (x z i : Nat) (hx : x < 128 ^ i) (hz : z * 128 ^ i < 18446744073709551616) : x ||| (z * 2 ^ (7 * i) % 18446744073709551616) = x + z * 128 ^ i := by
  have e : 2 ^ (7 * i) = 128 ^ i := by rw [Nat.pow_mul]
  rw [e, Nat.mod_eq_of_lt hz, Nat.or_comm, Nat.add_comm]
  rw [← e] at hx ⊢
  exact nat_join (7 * i) _ _ (Nat.mul_mod_left _ _) hx

theorem or_lt (x i : Nat) (z : Nat) (hx : x < 18446744073709551616) : x ||| (z * 2 ^ (7 * i) % 18446744073709551616) < 18446744073709551616 :=
  Nat.or_lt_two_pow (n := 64) hx (Nat.mod_lt _ (by decide))

theorem pow_le9 (i : Nat) (h : i ≤ 8) : 128 ^ (i + 1) ≤ 9223372036854775808 := by
  have : 128 ^ (i + 1) ≤ 128 ^ 9 := Nat.pow_le_pow_right (by decide) (by omega)
  exact this

theorem decAt_nil (i acc : Nat) (h : i < 10) : decAt (10 - i) i acc [] = none := by
  obtain ⟨f, hf⟩ : ∃ f, 10 - i = f + 1 := ⟨9 - i, by omega⟩
  rw [hf]; rfl
theorem decAt_cons (i acc : Nat) (y : Int) (r : List Int) (h : i < 10) :
    decAt (10 - i) i acc (y :: r) = if 128 ≤ y then decAt (10 - (i + 1)) (i + 1) (acc + (y - 128).toNat * 128 ^ i) r else if mayEnd i y then some (acc + y.toNat * 128 ^ i, i + 1) else none := by
  obtain ⟨f, hf⟩ : ∃ f, 10 - i = f + 1 := ⟨9 - i, by omega⟩
  have hf2 : 10 - (i + 1) = f := by omega
  rw [hf, hf2]; rfl
theorem drop_at {d : List Int} {k : Nat} {y : Int} (h : k < d.length) (hy : y = d[k]) : d.drop k = y :: d.drop (k + 1) := by
  rw [List.drop_eq_getElem_cons h, hy]

set_option maxHeartbeats 1000000 in
theorem number_any (b g off last : Nat) (d : List Int) (err : Int) (w : World) (h : Rst w b g d off last err) :
    Calls Try.prog 68 #[.pointer (some ⟨b, 0, none⟩)] w fun e w' => e = .returned (numRes off (dec (d.drop off))) ∧ Drew w w' := by
  have c0 := h.c0
  have c1 := h.c1
  have hsm := h.small
  have hle := h.le
  by_cases he : off = d.length
  · subst he
    go_enter Try.func68, Try.ntmps68
    go_wp2
    go_quiet (fail)
    go_wp2
    refine wp_loop_rounds 1 ?_
    rw [rounds_succ]
    go_wp2
    go_ret3
    refine ⟨?_, nq, rfl⟩
    rw [List.drop_length]; rfl
  · have b1 : (0 : Int) ≤ (off : Int) := by omega
    have b2 : (off : Int) ≤ (d.length : Int) := by omega
    have b3 : ¬ d.length = off := by omega
    go_enter Try.func68, Try.ntmps68
    go_wp2
    go_quiet (fail)
    go_wp2
    go_loop [6, 18] (fun nv iv => ∃ i acc x : Nat, i ≤ 10 ∧ iv = .int .i64 i ∧ nv = .int .u64 x ∧ Hid (dec (d.drop off) = decAt (10 - i) i acc (d.drop (off + i))) ∧ Hid (off + i ≤ d.length ∧ acc < 128 ^ i ∧ x < 18446744073709551616 ∧ (i ≤ 9 → x = acc)))
      (fun _ i => 10 - (intOf i).toNat)
    case atStart => exact ⟨0, 0, 0, by omega, rfl, rfl, hid_of rfl, hid_of ⟨by omega, by decide, by omega, fun _ => rfl⟩⟩
    case round =>
      obtain ⟨i, acc, x, hi, rfl, rfl, hdec, hinv⟩ := hrel
      have hinv1 := hinv.out.1
      by_cases hlt : i < 10
      · by_cases hend : off + i = d.length
        · have hee : ((i : Int) == ((d.length - off : Nat) : Int)) = true := by simp; omega
          go_wp2
          go_ret3
          refine ⟨?_, nq, rfl⟩
          rw [hdec.out, hend, List.drop_length, decAt_nil i acc hlt]; rfl
        · have hee : ((i : Int) == ((d.length - off : Nat) : Int)) = false := by simp; omega
          have hcell := h.byte (j := off + i) (by omega)
          obtain ⟨y, hy⟩ : ∃ y, y = d[off + i]'(by omega) := ⟨_, rfl⟩
          rw [← hy] at hcell
          have hy0 := h.rng y (by rw [hy]; exact List.getElem_mem _)
          have HY := hid_of hy
          clear hy
          by_cases h128 : 128 ≤ y
          · have hz : y.toNat % 128 = (y - 128).toNat := by omega
            go_wp2
            go_round
            case rel =>
              obtain ⟨i1, i2, i3, i4⟩ := hinv.out
              refine ⟨i + 1, acc + (y - 128).toNat * 128 ^ i, x ||| (y.toNat % 128 * 2 ^ (7 * i) % 18446744073709551616), by omega, by go_num, ?_, hid_of ?_, hid_of ⟨by omega, ?_, or_lt _ _ _ i3, fun h9 => ?_⟩⟩
              · rw [or_form x i y hy0.1 hy0.2 i3]
              · rw [hdec.out, drop_at (by omega) HY.out, decAt_cons i acc y _ hlt, if_pos h128]; rfl
              · rw [Nat.pow_succ]
                have : (y - 128).toNat * 128 ^ i ≤ 127 * 128 ^ i := Nat.mul_le_mul_right _ (by omega)
                omega
              · rw [i4 (by omega), hz]
                refine or_val _ _ _ i2 ?_
                have h1 := pow_le9 i (by omega)
                rw [Nat.pow_succ] at h1
                have : (y - 128).toNat * 128 ^ i ≤ 127 * 128 ^ i := Nat.mul_le_mul_right _ (by omega)
                omega
            case measure => simp [intOf]; omega
          · have hdec2 : Hid (dec (d.drop off) = if mayEnd i y then some (acc + y.toNat * 128 ^ i, i + 1) else none) := hid_of (by
              rw [hdec.out, drop_at (by omega) HY.out, decAt_cons i acc y _ hlt, if_neg h128])
            cases hm : mayEnd i y
            · have HM := hid_of hm
              clear hm
              go_wp2_with (go_at_call 78; refine (mayEnd_any i y _ hlt hy0.1 hy0.2).mono ?_; rintro e w' ⟨rfl, rfl⟩; rw [HM.out])
              go_ret3
              refine ⟨?_, nq, rfl⟩
              rw [hdec2.out, HM.out]; rfl
            · have HM := hid_of hm
              clear hm
              have a1 : IntKind.i64.wrap ((off : Int) + (i : Int)) = (off : Int) + (i : Int) := IntWalk.i64_in _ (by omega)
              have a2 : IntKind.i64.wrap ((off : Int) + (i : Int) + 1) = (off : Int) + (i : Int) + 1 := IntWalk.i64_in _ (by omega)
              go_wp2_with (go_at_call 78; refine (mayEnd_any i y _ hlt hy0.1 hy0.2).mono ?_; rintro e w' ⟨rfl, rfl⟩; rw [HM.out])
              go_quiet (fail)
              go_wp2
              go_ret3
              refine ⟨?_, _, (World.drewN_drewN _ _ _)⟩
              obtain ⟨i1, i2, i3, i4⟩ := hinv.out
              rw [hdec2.out, HM.out]
              have hz : y.toNat % 128 = y.toNat := by omega
              have hzl : y.toNat * 128 ^ i < 18446744073709551616 := by
                rcases Nat.lt_or_ge i 9 with h9 | h9
                · have h1 := pow_le9 i (by omega)
                  rw [Nat.pow_succ] at h1
                  have : y.toNat * 128 ^ i ≤ 127 * 128 ^ i := Nat.mul_le_mul_right _ (by omega)
                  omega
                · obtain rfl : i = 9 := by omega
                  have hm := HM.out
                  simp [mayEnd] at hm
                  obtain ⟨_, rfl⟩ := hm
                  decide
              refine ret3_num ?_ (by omega)
              rw [or_form x i y hy0.1 hy0.2 i3, i4 (by omega), hz, or_val _ _ _ i2 hzl]
      · go_wp2
        go_ret3
        refine ⟨?_, nq, rfl⟩
        obtain rfl : i = 10 := by omega
        rw [hdec.out]; rfl

theorem Kept.refl (S : Nat → Prop) (w : World) : Kept S w w := ⟨rfl, rfl, rfl, Nat.le_refl _, fun _ _ _ => rfl⟩
theorem Kept.drewN {S : Nat → Prop} {a b : World} (h : Kept S a b) (m : Nat) : Kept S a (b.drewN m) := ⟨h.os, h.tape, h.output, h.size, h.block⟩
theorem Kept.ofDrewN {S : Nat → Prop} {a b : World} {m : Nat} (h : Kept S (a.drewN m) b) : Kept S a b := ⟨h.os, h.tape, h.output, h.size, h.block⟩
theorem Kept.setCell {S : Nat → Prop} {a b : World} (h : Kept S a b) {p : Addr} (hp : S p.block) (u : Value) : Kept S a (b.setCell p u) :=
  ⟨h.os, h.tape, h.output, by show a.heap.size ≤ (b.heap.modify _ _).size; rw [Array.size_modify]; exact h.size, fun k hk hS => (Below.heap_setCell _ _ _ _ (fun e => hS (by rw [e]; exact hp))).trans (h.block k hk hS)⟩
theorem Kept.mono {S T : Nat → Prop} {a b : World} (h : Kept S a b) (hST : ∀ k, S k → T k) : Kept T a b := ⟨h.os, h.tape, h.output, h.size, fun k hk hT => h.block k hk (fun hs => hT (hST k hs))⟩

theorem Rst.gne {w : World} {b g off last : Nat} {d : List Int} {err : Int} (h : Rst w b g d off last err) : g ≠ b := by
  intro e
  have := h.row
  rw [e, h.blk] at this
  simp at this
theorem Rst.glt {w : World} {b g off last : Nat} {d : List Int} {err : Int} (h : Rst w b g d off last err) : g < w.heap.size := lt_of_block h.row
theorem Rst.blt {w : World} {b g off last : Nat} {d : List Int} {err : Int} (h : Rst w b g d off last err) : b < w.heap.size := lt_of_block h.blk

/-- A Reader whose own block and row are as they were. -/
theorem Rst.same {w w' : World} {b g off last : Nat} {d : List Int} {err : Int} (h : Rst w b g d off last err) (hb : w'.heap[b]? = w.heap[b]?) (hg : w'.heap[g]? = w.heap[g]?) : Rst w' b g d off last err :=
  ⟨hb.trans h.blk, hg.trans h.row, h.rng, h.le, h.small⟩

/-- What two stores into the Reader's block leave. -/
theorem Rst.set2 {w : World} {b g off last : Nat} {d : List Int} {err : Int} (h : Rst w b g d off last err) {j1 j2 : Nat} {u1 u2 : Value} {off' last' : Nat} {err' : Int}
    (he : (([.slice (some ⟨g, 0, none⟩) d.length d.length, .int .i64 off, .int .i64 last, .int .i64 err] : List Value).set j1 u1).set j2 u2 = [.slice (some ⟨g, 0, none⟩) d.length d.length, .int .i64 off', .int .i64 last', .int .i64 err'])
    (hle : off' ≤ d.length) : Rst ((w.setCell ⟨b, j1, none⟩ u1).setCell ⟨b, j2, none⟩ u2) b g d off' last' err' ∧ Kept (fun k => k = b) w ((w.setCell ⟨b, j1, none⟩ u1).setCell ⟨b, j2, none⟩ u2) ∧
      ((w.setCell ⟨b, j1, none⟩ u1).setCell ⟨b, j2, none⟩ u2).heap.size = w.heap.size := by
  have hb := blk_setCell (k := j2) (u := u2) (blk_setCell (k := j1) (u := u1) (g := b) (cur := [.slice (some ⟨g, 0, none⟩) d.length d.length, .int .i64 off, .int .i64 last, .int .i64 err]) h.blk)
  rw [he] at hb
  refine ⟨⟨hb, ?_, h.rng, hle, h.small⟩, (Kept.setCell (p := ⟨b, j1, none⟩) (Kept.refl (fun k => k = b) w) rfl u1).setCell (p := ⟨b, j2, none⟩) rfl u2, ?_⟩
  · rw [Below.heap_setCell _ _ _ _ h.gne, Below.heap_setCell _ _ _ _ h.gne]; exact h.row
  · simp [World.setCell]

/-- The Reader has gone from w to w'. -/
def RTo (w w' : World) (b g : Nat) (d : List Int) (off last : Nat) (err : Int) : Prop :=
  Rst w' b g d off last err ∧ Kept (fun k => k = b) w w' ∧ w'.heap.size = w.heap.size

theorem RTo.ofDrewN {w w' : World} {b g off last m : Nat} {d : List Int} {err : Int} (h : RTo (w.drewN m) w' b g d off last err) : RTo w w' b g d off last err := ⟨h.1, h.2.1.ofDrewN, h.2.2⟩
theorem RTo.drewN {w w' : World} {b g off last m : Nat} {d : List Int} {err : Int} (h : RTo w w' b g d off last err) : RTo w (w'.drewN m) b g d off last err := ⟨h.1.drewN m, h.2.1.drewN m, h.2.2⟩

set_option maxHeartbeats 400000 in
theorem settle_ok (b g off last en : Nat) (d : List Int) (w : World) (h : Rst w b g d off last 0) (hen : en ≤ d.length) :
    Calls Try.prog 69 #[.pointer (some ⟨b, 0, none⟩), .int .i64 en, .bool true] w fun e w' => e = .returned (.bool true) ∧ RTo w w' b g d en off 0 := by
  have c1 := h.c1
  have c2 := h.c2
  have c3 := h.c3
  have f1 := h.free 1
  have f2 := h.free 2
  have R := hid_of (h.set2 (j1 := 2) (j2 := 1) (u1 := .int .i64 off) (u2 := .int .i64 en) (off' := en) (last' := off) (err' := 0) rfl hen)
  go_enter Try.func69, Try.ntmps69
  go_wp2
  go_ret
  exact ⟨rfl, R.out⟩

set_option maxHeartbeats 400000 in
theorem settle_bad (b g off last : Nat) (en : Int) (d : List Int) (w : World) (h : Rst w b g d off last 0) :
    Calls Try.prog 69 #[.pointer (some ⟨b, 0, none⟩), .int .i64 en, .bool false] w fun e w' => e = .returned (.bool false) ∧ RTo w w' b g d off off 2 := by
  have c1 := h.c1
  have c2 := h.c2
  have c3 := h.c3
  have f2 := h.free 2
  have f3 := h.free 3
  have R := hid_of (h.set2 (j1 := 2) (j2 := 3) (u1 := .int .i64 off) (u2 := .int .i64 2) (off' := off) (last' := off) (err' := 2) rfl h.le)
  go_enter Try.func69, Try.ntmps69
  go_wp2
  go_ret
  exact ⟨rfl, R.out⟩

set_option maxHeartbeats 400000 in
theorem settle_dead (b g off last : Nat) (en : Int) (ok : Bool) (d : List Int) (w : World) (h : Rst w b g d off last 2) :
    Calls Try.prog 69 #[.pointer (some ⟨b, 0, none⟩), .int .i64 en, .bool ok] w fun e w' => e = .returned (.bool false) ∧ RTo w w' b g d off last 2 := by
  have c3 := h.c3
  have R := hid_of h
  go_enter Try.func69, Try.ntmps69
  go_wp2
  go_ret
  exact ⟨rfl, R.out, Kept.refl _ _, rfl⟩

/-! What a number that was read says. -/
theorem decAt_bound : ∀ (f i acc : Nat) (l : List Int) (n k : Nat), f + i = 10 → acc < 128 ^ i → (∀ x ∈ l, 0 ≤ x ∧ x ≤ 255) → decAt f i acc l = some (n, k) → i < k ∧ k ≤ i + l.length ∧ k ≤ 10 ∧ n < 18446744073709551616 := by
  intro f
  induction f with
  | zero => intro i acc l n k _ _ _ h; cases h
  | succ f ih =>
    intro i acc l n k hf ha hr h
    cases l with
    | nil => cases h
    | cons y r =>
      have hy := hr y (by simp)
      rw [decAt] at h
      split at h
      · have hl : acc + (y - 128).toNat * 128 ^ i < 128 ^ (i + 1) := by
          rw [Nat.pow_succ]
          have : (y - 128).toNat * 128 ^ i ≤ 127 * 128 ^ i := Nat.mul_le_mul_right _ (by omega)
          omega
        have := ih (i + 1) _ r n k (by omega) hl (fun x hx => hr x (by simp [hx])) h
        simp only [List.length_cons]
        omega
      · split at h
        · rename_i h1 h2
          simp only [Option.some.injEq, Prod.mk.injEq] at h
          obtain ⟨rfl, rfl⟩ := h
          refine ⟨by omega, by simp, by omega, ?_⟩
          rcases Nat.lt_or_ge i 9 with h9 | h9
          · have h3 := pow_le9 i (by omega)
            rw [Nat.pow_succ] at h3
            have : y.toNat * 128 ^ i ≤ 127 * 128 ^ i := Nat.mul_le_mul_right _ (by omega)
            omega
          · obtain rfl : i = 9 := by omega
            simp [mayEnd] at h2
            obtain ⟨_, rfl⟩ := h2
            have : (128 : Nat) ^ 9 = 9223372036854775808 := by decide
            simp
            omega
        · cases h

theorem dec_bound {l : List Int} {n k : Nat} (hr : ∀ x ∈ l, 0 ≤ x ∧ x ≤ 255) (h : dec l = some (n, k)) : 0 < k ∧ k ≤ l.length ∧ k ≤ 10 ∧ n < 18446744073709551616 := by
  have := decAt_bound 10 0 0 l n k (by omega) (by decide) hr h
  omega

theorem Rst.dec_bound {w : World} {b g off last n k : Nat} {d : List Int} {err : Int} (h : Rst w b g d off last err) (hd : dec (d.drop off) = some (n, k)) : 0 < k ∧ off + k ≤ d.length ∧ k ≤ 10 ∧ n < 18446744073709551616 := by
  have := _root_.Go.Proofs.Ytdmonbcinlmljaa.Wr.dec_bound (fun x hx => h.rng x (List.mem_of_mem_drop hx)) hd
  have h2 := h.le
  rw [List.length_drop] at this
  omega

theorem number_some (b g off last n k : Nat) (d : List Int) (err : Int) (w : World) (h : Rst w b g d off last err) (hd : dec (d.drop off) = some (n, k)) :
    Calls Try.prog 68 #[.pointer (some ⟨b, 0, none⟩)] w fun e w' => e = .returned (.tuple #[.int .u64 n, .int .i64 ((off + k : Nat) : Int), .bool true]) ∧ Drew w w' :=
  (number_any b g off last d err w h).mono fun e w' ⟨h1, h2⟩ => ⟨by rw [h1, hd]; rfl, h2⟩
theorem number_none (b g off last : Nat) (d : List Int) (err : Int) (w : World) (h : Rst w b g d off last err) (hd : dec (d.drop off) = none) :
    Calls Try.prog 68 #[.pointer (some ⟨b, 0, none⟩)] w fun e w' => e = .returned (.tuple #[.int .u64 0, .int .i64 0, .bool false]) ∧ Drew w w' :=
  (number_any b g off last d err w h).mono fun e w' ⟨h1, h2⟩ => ⟨by rw [h1, hd]; rfl, h2⟩

set_option maxHeartbeats 400000 in
theorem ruint_ok (b g off last n k : Nat) (d : List Int) (w : World) (h : Rst w b g d off last 0) (hd : dec (d.drop off) = some (n, k)) :
    Calls Try.prog 54 #[.pointer (some ⟨b, 0, none⟩)] w fun e w' => e = .returned (.int .u64 n) ∧ RTo w w' b g d (off + k) off 0 := by
  have hb := hid_of (h.dec_bound hd)
  have HD := hid_of hd
  have H := hid_of h
  clear hd h
  go_enter Try.func54, Try.ntmps54
  go_wp2_with (first
    | (go_at_call 68; refine (number_some b g off last n k d 0 w H.out HD.out).mono ?_; rintro e w1 ⟨rfl, m, rfl⟩)
    | (go_at_call 69; refine (settle_ok b g off last (off + k) d _ (H.out.drewN _) hb.out.2.1).mono ?_; rintro e w2 ⟨rfl, h2⟩; have R := hid_of h2.ofDrewN; clear h2))
  go_ret
  exact ⟨rfl, R.out⟩

set_option maxHeartbeats 400000 in
theorem ruint_bad (b g off last : Nat) (d : List Int) (w : World) (h : Rst w b g d off last 0) (hd : dec (d.drop off) = none) :
    Calls Try.prog 54 #[.pointer (some ⟨b, 0, none⟩)] w fun e w' => e = .returned (.int .u64 0) ∧ RTo w w' b g d off off 2 := by
  have HD := hid_of hd
  have H := hid_of h
  clear hd h
  go_enter Try.func54, Try.ntmps54
  go_wp2_with (first
    | (go_at_call 68; refine (number_none b g off last d 0 w H.out HD.out).mono ?_; rintro e w1 ⟨rfl, m, rfl⟩)
    | (go_at_call 69; refine (settle_bad b g off last 0 d _ (H.out.drewN _)).mono ?_; rintro e w2 ⟨rfl, h2⟩; have R := hid_of h2.ofDrewN; clear h2))
  go_ret
  exact ⟨rfl, R.out⟩

set_option maxHeartbeats 400000 in
theorem ruint_dead (b g off last : Nat) (d : List Int) (w : World) (h : Rst w b g d off last 2) :
    Calls Try.prog 54 #[.pointer (some ⟨b, 0, none⟩)] w fun e w' => e = .returned (.int .u64 0) ∧ RTo w w' b g d off last 2 := by
  have H := hid_of h
  clear h
  rcases hd : dec (d.drop off) with _ | ⟨n, k⟩
  all_goals
    have HD := hid_of hd
    clear hd
    go_enter Try.func54, Try.ntmps54
    go_wp2_with (first
      | (go_at_call 68; (first | (refine (number_none b g off last d 2 w H.out HD.out).mono ?_) | (refine (number_some b g off last _ _ d 2 w H.out HD.out).mono ?_)); rintro e w1 ⟨rfl, m, rfl⟩)
      | (go_at_call 69; refine (settle_dead b g off last _ _ d _ (H.out.drewN _)).mono ?_; rintro e w2 ⟨rfl, h2⟩; have R := hid_of h2.ofDrewN; clear h2))
    go_ret
    exact ⟨rfl, R.out⟩

end Go.Proofs.Ytdmonbcinlmljaa.Wr

/- An encoding is read as its number. No condition. -/
namespace Go.Proofs.Ytdmonbcinlmljaa.Wr
open Go.RowKit

theorem decAt_enc : ∀ (k n i acc : Nat) (r : List Int), n ≤ k → i < 10 → n < 128 ^ (10 - i) → n * 128 ^ i < 18446744073709551616 → 0 < n ∨ i = 0 → decAt (10 - i) i acc (enc n ++ r) = some (acc + n * 128 ^ i, i + (enc n).length) := by
  intro k
  induction k with
  | zero =>
    intro n i acc r h1 h2 h3 h4 h5
    obtain rfl : n = 0 := by omega
    obtain rfl : i = 0 := by omega
    rw [enc_lt (by omega)]; rfl
  | succ k ih =>
    intro n i acc r h1 h2 h3 h4 h5
    by_cases hn : n < 128
    · rw [enc_lt hn, List.singleton_append, decAt_cons i acc _ _ h2, if_neg (by omega)]
      have hm : mayEnd i (n : Int) = true := by
        unfold mayEnd
        rcases h5 with h5 | h5
        · by_cases h9 : i < 9
          · simp [h9]; omega
          · obtain rfl : i = 9 := by omega
            have : (128 : Nat) ^ 9 = 9223372036854775808 := by decide
            simp; omega
        · simp [h5]
      rw [if_pos hm]
      simp
    · have hi : i + 1 < 10 := by
        rcases Nat.lt_or_ge (i + 1) 10 with h | h
        · exact h
        · obtain rfl : i = 9 := by omega
          simp at h3; omega
      rw [enc_ge hn, List.cons_append, decAt_cons i acc _ _ h2, if_pos (by omega)]
      have e1 : (((n % 128 + 128 : Nat) : Int) - 128).toNat = n % 128 := by omega
      have e2 : 128 ^ (i + 1) = 128 ^ i * 128 := Nat.pow_succ 128 i
      have e3 : n / 128 * 128 ^ (i + 1) + n % 128 * 128 ^ i = n * 128 ^ i := by
        rw [e2, Nat.mul_comm (128 ^ i) 128, ← Nat.mul_assoc, ← Nat.add_mul, show n / 128 * 128 + n % 128 = n by omega]
      rw [e1, ih (n / 128) (i + 1) _ r (by omega) hi ?_ (by omega) (by left; omega)]
      · have q1 : acc + n % 128 * 128 ^ i + n / 128 * 128 ^ (i + 1) = acc + n * 128 ^ i := by rw [← e3, Nat.add_assoc, Nat.add_comm (n % 128 * 128 ^ i)]
        have q2 : i + 1 + (enc (n / 128)).length = i + ((enc (n / 128)).length + 1) := by omega
        rw [q1, q2, List.length_cons]
      · have e4 : 10 - i = 10 - (i + 1) + 1 := by omega
        rw [e4, Nat.pow_succ] at h3
        exact Nat.div_lt_of_lt_mul (by rw [Nat.mul_comm]; exact h3)
theorem dec_enc (n : Nat) (r : List Int) (h : n < 18446744073709551616) : dec (enc n ++ r) = some (n, (enc n).length) := by
  have hp : (128 : Nat) ^ (10 - 0) = 1180591620717411303424 := by decide
  have := decAt_enc n n 0 0 r (Nat.le_refl _) (by omega) (by rw [hp]; omega) (by rw [Nat.pow_zero]; omega) (Or.inr rfl)
  rw [Nat.pow_zero, Nat.mul_one, Nat.zero_add, Nat.zero_add] at this
  exact this
end Go.Proofs.Ytdmonbcinlmljaa.Wr
