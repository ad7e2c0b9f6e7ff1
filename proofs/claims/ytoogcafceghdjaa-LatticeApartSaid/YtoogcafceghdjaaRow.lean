/- Slices of elements of one cell: what a slice reads as, a slice of the call's own, append of the one onto the other. Bounds on sizes alone. -/
import Derived.Test.YtoogcafceghdjaaAppOwn
import Derived.WalkKit
import Derived.WalkSpells
import Derived.WalkLawsBesides
import Derived.Below
import Derived.Laws.CopyOwn
import Derived.Deep.RegionHeld3
import Derived.Deep.AppendLies
import Derived.Deep.RegionLaw
import Derived.Deep.QuietTactic
import Derived.BigQuiet
import Derived.BigRegion
import Derived.RegionTactic
import Derived.StillTailTactics
import Derived.IntWalk
import Derived.Outline
import Derived.Lib.Hide
import Derived.OpenShut
import Derived.Deep.Draws
namespace Go.Proofs.Ytoogcafceghdjaa
open Go.RowKit

theorem hid_of {p : Prop} (h : p) : Hid p := h
theorem bel_alloc (w : World) (o : Obj) : Below w.heap.size w (w.alloc o) := (Below.refl _ _).alloc (Nat.le_refl _) o
theorem bel_fst {w w' : World} {o : Obj} (h : Below (w.alloc o).heap.size (w.alloc o) w') : Below w.heap.size w w' :=
  (bel_alloc w o).trans (h.mono (by simp))

theorem bel_drewN {B : Nat} {w w' : World} (h : Below B w w') (n : Nat) : Below B w (w'.drewN n) := ⟨h.os, h.tape, h.output, h.size, h.block⟩
/-- A slice type S over an element type E of one cell. -/
structure Elem (P : Program) (S E : TypeId) (z : Value) (eb : Nat) : Prop where
  und : P.underlying S = some (.slice E)
  info : (P.info? E).map (fun i => (i.zero, i.size, i.bytes)) = some (some z, 1, eb)
  one : z.cells.size = 1

/-- The slice v reads as the cells xs. -/
def Rd (w : World) (v : Value) (xs : List Value) : Prop :=
  ∃ ao cap, v = .slice ao xs.length cap ∧ xs.length ≤ cap ∧ cap ≤ 9223372036854775807 ∧ (0 < xs.length → ∃ g o, ao = some ⟨g, o, none⟩ ∧ g < w.heap.size ∧ ∀ j u, xs[j]? = some u → w.cell? ⟨g, o + j, none⟩ = some u)
theorem Rd.later {w w' : World} {v : Value} {l : List Value} {B : Nat} (h : Rd w v l) (hb : Below B w w') (hB : w.heap.size ≤ B) : Rd w' v l := by
  obtain ⟨ao, cap, h1, h2, h3, h4⟩ := h
  refine ⟨ao, cap, h1, h2, h3, fun h0 => ?_⟩
  obtain ⟨g, o, q1, q2, q3⟩ := h4 h0
  exact ⟨g, o, q1, Nat.lt_of_lt_of_le q2 hb.size, fun j u hu => (hb.cell (p := ⟨g, o + j, none⟩) (by show g < B; omega)).trans (q3 j u hu)⟩
theorem Rd.at {w w' : World} {v : Value} {l : List Value} (h : Rd w v l) (hb : Below w.heap.size w w') : Rd w' v l := h.later hb (Nat.le_refl _)

theorem spot_none {w : World} {x : Addr} {u : Value} (h : w.cell? x = some u) : x = ⟨x.block, x.off, none⟩ := by
  obtain ⟨b, o, s⟩ := x
  cases s with
  | none => rfl
  | some s =>
    exfalso
    unfold World.cell? at h
    split at h <;> simp at h

/-- What the walk is told of a slice of integers that came in. -/
def IsRow (k : IntKind) (w : World) (a : Option Addr) (len cap : Nat) (zs : List Int) : Prop :=
  (a = none ∧ len = 0 ∧ cap = 0 ∧ zs = []) ∨
  ∃ x, a = some x ∧ len ≤ cap ∧ cap ≤ maxLen ∧ zs.length = cap ∧ (∀ i, i < zs.length → w.cell? (x.add i) = some (.int k (zs.getD i 0))) ∧ ∀ n ∈ zs, (Lit.int k n).wf = true

/-- A row of integers that came in, as a list. -/
theorem IsRow.rd {k : IntKind} {w : World} {a : Option Addr} {len cap : Nat} {zs : List Int} (h : IsRow k w a len cap zs) :
    ∃ l : List Int, l.length = len ∧ (∀ y ∈ l, (Lit.int k y).wf = true) ∧ Rd w (.slice a len cap) (l.map (Value.int k)) := by
  rcases h with ⟨rfl, rfl, rfl, rfl⟩ | ⟨x, rfl, h1, h2, h3, h4, h5⟩
  · exact ⟨[], rfl, by simp, none, 0, rfl, by simp, by omega, fun h => by simp at h⟩
  · unfold maxLen at h2
    have htl : (zs.take len).length = len := by rw [List.length_take]; omega
    refine ⟨zs.take len, htl, fun y hy => h5 y (List.mem_of_mem_take hy), some x, cap, by rw [List.length_map, htl], by rw [List.length_map]; omega, by omega, fun h0 => ?_⟩
    rw [List.length_map, htl] at h0
    have h6 := h4 0 (by omega)
    rw [show x.add 0 = x by rfl] at h6
    have hx := spot_none h6
    refine ⟨x.block, x.off, by rw [← hx], World.block_lt_of_cell? w _ h6, fun j u hu => ?_⟩
    have hj : j < len := by
      have := (List.getElem?_eq_some_iff.1 hu).1
      simp at this; omega
    have h7 := h4 j (by omega)
    rw [hx, Addr.add_mid] at h7
    rw [h7]
    simp only [List.getElem?_map, List.getElem?_take, hj, if_true] at hu
    rw [List.getElem?_eq_getElem (by omega)] at hu
    simp only [Option.map_some, Option.some.injEq] at hu
    rw [← hu]
    simp [List.getD, show j < zs.length by omega]

theorem Rd.srcs {P : Program} {S E : TypeId} {z : Value} {eb : Nat} (T : Elem P S E z eb) {w : World} {v : Value} {l : List Value} (h : Rd w v l) (h1 : ∀ u ∈ l, u.oneCell' = true) : Src P 1 S v l.length l w := by
  obtain ⟨ao, cap, rfl, h2, h3, h4⟩ := h
  cases ao with
  | none =>
    cases l with
    | nil => exact Src.ofNil _ T.und cap
    | cons x r => obtain ⟨g, o, q, _⟩ := h4 (by simp); cases q
  | some a =>
    refine Src.ofSlice _ T.und a l.length cap l (by simp) (fun j u hu => ?_) h1
    have h0 : 0 < l.length := by
      have := (List.getElem?_eq_some_iff.1 hu).1
      omega
    obtain ⟨g, o, q1, q2, q3⟩ := h4 h0
    cases q1
    rw [Addr.add_mid]; exact q3 j u hu

theorem own_shape {w : World} {base e size n : Nat} {v : Value} {xs : List Value} (h : w.ownsRow base e size v n xs) : ∃ ao cap, v = .slice ao n cap := by
  rcases h.2 with ⟨h1, h2⟩ | ⟨g, cap, cur, h1, _⟩
  · exact ⟨none, 0, by rw [h1, h2]⟩
  · exact ⟨_, cap, h1⟩

/-- A slice of the call's own that holds l; below B the world is as w0 was. -/
def Ow (E : TypeId) (B : Nat) (w0 w : World) (v : Value) (l : List Value) : Prop := B ≤ w0.heap.size ∧ Below B w0 w ∧ w.ownsRow B E 1 v l.length l
section
variable {E : TypeId} {B : Nat} {w0 w w' : World} {v : Value} {l : List Value}
theorem Ow.size (h : Ow E B w0 w v l) : B ≤ w.heap.size := Nat.le_trans h.1 h.2.1.size
theorem Ow.own (h : Ow E B w0 w v l) : w.ownsRow B E 1 v l.length l := h.2.2
theorem Ow.bel (h : Ow E B w0 w v l) : Below B w0 w := h.2.1
theorem Ow.alloc (h : Ow E B w0 w v l) (o : Obj) : Ow E B w0 (w.alloc o) v l := ⟨h.1, h.2.1.alloc h.size _, h.2.2.alloc o⟩
theorem Ow.drew (h : Ow E B w0 w v l) : Ow E B w0 w.drew v l := ⟨h.1, h.2.1.drew, h.2.2.drew⟩
theorem Ow.app {n : Nat} {v' : Value} {m : List Value} (h : Ow E B w0 w v l) (hown : w'.ownsRow B E 1 v' n (l ++ m)) (hn : n = l.length + m.length) (hg : w.grownBy w' v.ownBlock) : Ow E B w0 w' v' (l ++ m) := by
  subst hn
  refine ⟨h.1, h.2.1.grown hg h.size (fun k hk => (h.own.lt k hk).1), ?_⟩
  rw [List.length_append]
  exact hown
/-- What is owned stays owned where the row's block is as it was. -/
theorem own_same {w w' : World} {base e size n : Nat} {v : Value} {xs : List Value} (h : w.ownsRow base e size v n xs) (hs : ∀ k, v.ownBlock = some k → w'.heap[k]? = w.heap[k]?) : w'.ownsRow base e size v n xs := by
  obtain ⟨h1, h2⟩ := h
  refine ⟨h1, ?_⟩
  rcases h2 with h2 | ⟨g, cap, cur, hv, hb, hg, r⟩
  · exact .inl h2
  · exact .inr ⟨g, cap, cur, hv, hb, (hs g (by rw [hv]; rfl)).trans hg, r⟩
theorem Ow.later (h : Ow E B w0 w v l) (hb : Below w.heap.size w w') : Ow E B w0 w' v l :=
  ⟨h.1, h.2.1.trans (hb.mono h.size), own_same h.own fun k hk => hb.block k (h.own.lt k hk).2⟩
theorem ow_made {n g : Nat} (hown : w'.ownsRow w.heap.size E 1 (.slice (some ⟨g, 0, none⟩) 0 n) 0 []) (hgrow : w.grownBy w' none) : Ow E w.heap.size w w' (.slice (some ⟨g, 0, none⟩) 0 n) [] :=
  ⟨Nat.le_refl _, (Below.refl _ _).grown hgrow (Nat.le_refl _) (fun k h => by cases h), hown⟩
theorem ow_empty (E : TypeId) (w : World) : Ow E w.heap.size w (w.alloc (.cells #[] E)) (.slice (some ⟨w.heap.size, 0, none⟩) 0 0) [] :=
  ⟨Nat.le_refl _, bel_alloc w _, rfl, .inr ⟨w.heap.size, 0, #[], rfl, Nat.le_refl _, heap_alloc_new w _, Nat.le_refl _, by unfold maxLen; omega, rfl, rfl⟩⟩
theorem ow_nil (E : TypeId) (w : World) : Ow E w.heap.size w w (.slice none 0 0) [] := ⟨Nat.le_refl _, Below.refl _ _, World.ownsRow_nil _ _ _ _⟩
theorem Ow.start (h : Ow E B w0 w v l) {B2 : Nat} {w2 : World} (hB : B2 ≤ w2.heap.size) (hb : Below B2 w2 w0) (hle : B2 ≤ B) : Ow E B2 w2 w v l := by
  refine ⟨hB, hb.trans (h.bel.mono hle), h.own.1, ?_⟩
  rcases h.own.2 with h2 | ⟨g, cap, cur, hv, hb2, hg, r⟩
  · exact .inl h2
  · exact .inr ⟨g, cap, cur, hv, Nat.le_trans hle hb2, hg, r⟩
theorem Ow.rd (h : Ow E B w0 w v l) (_hl : l.length ≤ 140737488355328) : Rd w v l := by
  rcases h.own.2 with ⟨h1, h2⟩ | ⟨g, c, cur, h1, _, hg, hnc, hcm, _, ht⟩
  · exact ⟨none, 0, by rw [h1, h2], by omega, by omega, fun h => by omega⟩
  · unfold maxLen at hcm
    refine ⟨_, _, h1, hnc, by omega, fun h0 => ⟨g, 0, rfl, lt_of_block hg, fun j u hu => ?_⟩⟩
    have := World.news_of_block hg j u (by
      rw [← ht, List.getElem?_take] at hu
      split at hu
      · exact hu
      · cases hu)
    rw [Addr.add_mid] at this
    exact this
end

/-- A slice over a block that was made last. -/
theorem rd_new {w : World} {l : List Value} {n : Nat} {cs : Array Value} {E : TypeId} {m : Nat × Nat} (hn : n = l.length) (hc : cs = l.toArray) (h : l.length ≤ 9223372036854775807) : Rd (w.alloc (.cells cs E m)) (.slice (some ⟨w.heap.size, 0, none⟩) n n) l := by
  subst hn hc
  refine ⟨_, _, rfl, Nat.le_refl _, h, fun _ => ⟨_, _, rfl, by simp, fun j u hu => ?_⟩⟩
  have := World.news_of_block (heap_alloc_new w (.cells l.toArray E m)) j u (by simpa using hu)
  rw [Addr.add_mid] at this
  exact this

/-- append of a row. -/
theorem wpList_app {P : Program} {S E : TypeId} {z : Value} {eb : Nat} (T : Elem P S E z eb) {ops : Array Oper} {rest : List Oper} {o : Oper} {a : Act} {w : World} {Q : Exit → Act → World → Prop} (hgd : o.guard = none) (s x : Operand)
    (ho : o.op = .call { callee := .builtin .append, args := #[s, x], argTypes := #[S, S] })
    {B : Nat} {w0 : World} {v : Value} {l : List Value} (hv : a.eval s = v) (H : Ow E B w0 w v l) {vx : Value} {m : List Value} (hx : a.eval x = vx) (L : Rd w vx m) (h1 : ∀ u ∈ m, u.oneCell' = true) (hl : (l.length + m.length) * eb ≤ 140737488355328) (hl2 : l.length + m.length ≤ 140737488355328)
    (h : ∀ (ao : Option Addr) (n cap : Nat) (w' : World), n = l.length + m.length → Ow E B w0 w' (.slice ao n cap) (l ++ m) → wpList P ops Q rest (a.put o.dst (.slice ao n cap)) w') :
    wpList P ops Q (o :: rest) a w := by
  obtain ⟨i0, hi, hz0, hz1, hz2⟩ := info_parts T.info
  refine wpList_append_src _ hgd s x S S ho B E i0 z 1 eb T.und hi hz0 hz1 hz2 T.one (by decide) v l.length l hv H.own vx m.length m hx (L.srcs T h1) (by unfold maxLen; omega) (by omega) H.size ?_
  intro v2 w2 hown hg _ _
  have H2 := H.app hown rfl hg
  obtain ⟨ao, cap, rfl⟩ := own_shape hown
  exact h ao _ cap w2 rfl H2

/-- Between w and w' nothing has turned but the blocks of S and new ones. -/
structure Kept (S : Nat → Prop) (w w' : World) : Prop where
  os : w'.os = w.os
  tape : w'.tape = w.tape
  output : w'.output = w.output
  size : w.heap.size ≤ w'.heap.size
  block : ∀ k, k < w.heap.size → ¬ S k → w'.heap[k]? = w.heap[k]?
theorem Kept.below {S : Nat → Prop} {w w' : World} {B : Nat} (h : Kept S w w') (hB : B ≤ w.heap.size) (hS : ∀ k, S k → B ≤ k) : Below B w w' :=
  ⟨h.os, h.tape, h.output, h.size, fun k hk => h.block k (by omega) (fun hs => by have := hS k hs; omega)⟩
theorem Kept.drew {S : Nat → Prop} {w w' : World} (h : Kept S w w') : Kept S w w'.drew := ⟨h.os, h.tape, h.output, h.size, h.block⟩
theorem Kept.drewN {S : Nat → Prop} {w w' : World} (h : Kept S w w') (n : Nat) : Kept S w (w'.drewN n) := ⟨h.os, h.tape, h.output, h.size, h.block⟩
theorem Kept.refl (S : Nat → Prop) (w : World) : Kept S w w := ⟨rfl, rfl, rfl, Nat.le_refl _, fun _ _ _ => rfl⟩
theorem Kept.trans {S : Nat → Prop} {w w1 w2 : World} (h : Kept S w w1) (h2 : Kept S w1 w2) : Kept S w w2 :=
  ⟨h2.os.trans h.os, h2.tape.trans h.tape, h2.output.trans h.output, Nat.le_trans h.size h2.size, fun k h1 hs => (h2.block k (Nat.lt_of_lt_of_le h1 h.size) hs).trans (h.block k h1 hs)⟩
theorem Kept.ofBelow {S : Nat → Prop} {w w' : World} (h : Below w.heap.size w w') : Kept S w w' := ⟨h.os, h.tape, h.output, h.size, fun k h1 _ => h.block k h1⟩
theorem Kept.set (w : World) (b o : Nat) (v : Value) : Kept (fun k => k = b) w (w.setCell ⟨b, o, none⟩ v) :=
  ⟨rfl, rfl, rfl, by simp, fun k _ hk => Below.heap_setCell _ _ _ _ hk⟩

theorem blk_setCell {w : World} {g k t : Nat} {cur : List Value} {u : Value} (h : w.heap[g]? = some (.cells cur.toArray t (0, 0))) :
    (w.setCell ⟨g, k, none⟩ u).heap[g]? = some (.cells (cur.set k u).toArray t (0, 0)) := by
  have hlt := lt_of_block h
  have h' : w.heap[g] = .cells cur.toArray t (0, 0) := by simpa [Array.getElem?_eq_getElem hlt] using h
  show (w.heap.modify g _)[g]? = _
  rw [Array.getElem?_eq_getElem (by simpa using hlt), Array.getElem_modify_self, h']
  simp

/-- What make has laid, as a whole block. -/
theorem made_row {w : World} {B g e n : Nat} {z : Value} {xs : List Value} (h : w.ownsRow B e 1 (.slice (some ⟨g, 0, none⟩) n n) n xs) (hx : xs = (madeCells #[z] n).toList := by (first | rfl | simp)) :
    w.heap[g]? = some (.cells (List.replicate n z).toArray e (0, 0)) := by
  obtain ⟨hn0, hn1⟩ := h
  rcases hn1 with ⟨h, _⟩ | ⟨g, cap', cur, h, _, hg, _, _, hsz, ht⟩
  · cases h
  · cases h
    rw [hg]
    have e : cur.toList = (madeCells #[z] n).toList := by
      rw [← hx, ← ht, List.take_of_length_le (by simp [hsz])]
    rw [toList_madeCells_one] at e
    rw [← e]
end Go.Proofs.Ytoogcafceghdjaa
