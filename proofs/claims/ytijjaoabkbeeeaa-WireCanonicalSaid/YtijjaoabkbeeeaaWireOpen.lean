/- A slice of items that came in, opened. No condition. -/
import Derived.Test.YtijjaoabkbeeeaaWireWritesW
import Derived.Deep.Strs
import Derived.ProofKit
namespace Go.Proofs.Ytijjaoabkbeeeaa
open Go.RowKit Go.ChangeShapes Go.WideShapes

/-- What is known of the items that came in. -/
structure Raw (w : World) (a o : Nat) (its : List It) : Prop where
  lt : 0 < its.length → a < w.heap.size
  len : its.length ≤ 9223372036854775807
  c0 : ∀ i x, its[i]? = some x → w.cell? ⟨a, o + i * 3, none⟩ = some (.int .i64 x.kind)
  c1 : ∀ i x, its[i]? = some x → w.cell? ⟨a, o + i * 3 + 1, none⟩ = some (.int .u64 x.n)
  c2 : ∀ i x, its[i]? = some x → w.cell? ⟨a, o + i * 3 + 2, none⟩ = some (.slice x.ao x.m.length x.cap)
  n : ∀ x ∈ its, x.n < 18446744073709551616
  ml : ∀ x ∈ its, x.m.length ≤ 9223372036854775807
  nil : ∀ x ∈ its, x.ao = none → x.cap = 0
  rng : ∀ x ∈ its, ∀ y ∈ x.m, 0 ≤ y ∧ y ≤ 255
  src : ∀ x ∈ its, 0 < x.m.length → ∃ ad, x.ao = some ad ∧ ad.block < w.heap.size ∧ ∀ j u, (bs x.m)[j]? = some u → w.cell? (ad.add j) = some u

theorem mem_tot {its : List It} {x : It} (h : x ∈ its) : x.m.length ≤ tot its := by
  obtain ⟨k, hk⟩ := List.getElem?_of_mem h
  have h1 := tot_take its k x hk
  have h2 := tot_le its (k + 1)
  omega
theorem Raw.items {w : World} {a o : Nat} {its : List It} (h : Raw w a o its) (hs : Small its) : Items w.heap.size w a o its :=
  ⟨h.lt, h.c0, h.c1, h.c2, fun x hx => ⟨h.n x hx, by have := mem_tot hx; have := hs.2; omega, h.nil x hx, h.rng x hx, h.src x hx⟩⟩

theorem Try.cellsItem : Try.prog.cellsOf 32 = 3 := by kernel_rfl
theorem Try.cellsInt : Try.prog.cellsOf 3 = 1 := by kernel_rfl
theorem Try.cellsU64 : Try.prog.cellsOf 30 = 1 := by kernel_rfl
theorem Try.cellsBytes : Try.prog.cellsOf 25 = 1 := by kernel_rfl
theorem Try.cellsU8 : Try.prog.cellsOf 5 = 1 := by kernel_rfl

theorem plain_add (a o j : Nat) : (⟨a, o, none⟩ : Addr).add j = ⟨a, o + j, none⟩ := by unfold Addr.add; split <;> simp_all

theorem open_item {H : Type} {enc : TypeId × Value → H} {w : World} {n : Nat} {cs : List Value} {y : DataW H × List MemPlace} (h : DataW.trod enc Try.prog w 0 (fun _ => true) true n 32 cs = some y) :
    ∃ x : It, cs = [.int .i64 x.kind, .int .u64 x.n, .slice x.ao x.m.length x.cap] ∧ x.n < 18446744073709551616 ∧ x.m.length ≤ 9223372036854775807 ∧ (x.ao = none → x.cap = 0) ∧ (∀ y ∈ x.m, 0 ≤ y ∧ y ≤ 255) ∧
      (0 < x.m.length → ∃ ad, x.ao = some ad ∧ ad.block < w.heap.size ∧ ∀ j u, (bs x.m)[j]? = some u → w.cell? (ad.add j) = some u) := by
  obtain ⟨y0, y1, y2, m, _, hl, h0, h1, h2⟩ := Go.Deep.trod_struct3 Try.underlying32 h
  rw [Try.cellsItem] at hl
  match cs, hl with
  | [v0, v1, v2], _ =>
    simp only [Try.cellsInt, Try.cellsU64, Try.cellsBytes, List.drop_zero, List.drop_succ_cons, List.take_succ_cons, List.take_zero] at h0 h1 h2
    obtain ⟨k, e0, _, _⟩ := DataW.trod_int Try.underlying3 h0
    obtain ⟨q, e1, _, wq⟩ := DataW.trod_int Try.underlying30 h1
    have bq := bounds_u64 wq
    simp only [List.cons.injEq, and_true] at e0 e1
    subst e0
    subst e1
    rcases open_ints Try.underlying25 Try.underlying5 Try.cellsU8 h2 with ⟨e2, _⟩ | ⟨a, len, cap, zs, e2, _, hlc, hcm, hz, _, hcell, hwz⟩
    · simp only [List.cons.injEq, and_true] at e2
      subst e2
      exact ⟨⟨k, q.toNat, none, [], 0⟩, by simp; omega, by simp; omega, by simp, fun _ => rfl, by simp, fun h => by simp at h⟩
    · simp only [List.cons.injEq, and_true] at e2
      subst e2
      simp at hz
      unfold maxLen at hcm
      have htl : (zs.take len).length = len := by rw [List.length_take]; omega
      refine ⟨⟨k, q.toNat, some a, zs.take len, cap⟩, ?_, by simp; omega, by simp only; omega, fun h => by simp at h, ?_, ?_⟩
      · simp only [htl]
        rw [show ((q.toNat : Nat) : Int) = q by omega]
      · intro y hy
        exact bounds_u8 (hwz y (List.mem_of_mem_take hy))
      · intro h0
        simp only [htl] at h0
        have hc : ∀ j u, (bs (zs.take len))[j]? = some u → w.cell? (a.add j) = some u := by
          intro j u hu
          have hj : j < len := by
            have := (List.getElem?_eq_some_iff.1 hu).1
            simp [bs] at this; omega
          rw [hcell j (by omega)]
          simp only [bs, List.getElem?_map, List.getElem?_take, hj, if_true] at hu
          rw [List.getElem?_eq_getElem (by omega)] at hu
          simp only [Option.map_some, Option.some.injEq] at hu
          rw [← hu]
          simp [List.getD, show j < zs.length by omega]
        refine ⟨a, rfl, ?_, hc⟩
        have h3 := hcell 0 (by omega)
        have := World.block_lt_of_cell? w _ h3
        rwa [add_block] at this

theorem open_items {H : Type} {enc : TypeId × Value → H} {w : World} {fuel a0l cap : Nat} {a0 : Option Addr} {x : DataW H × List MemPlace} (h : DataW.trod enc Try.prog w 0 (fun _ => true) true fuel 22 [.slice a0 a0l cap] = some x) :
    a0l = 0 ∨ ∃ a o its, a0 = some ⟨a, o, none⟩ ∧ its.length = a0l ∧ 0 < a0l ∧ Raw w a o its := by
  rcases Go.Deep.open_slice Try.underlying22 h with ⟨e, _⟩ | ⟨ad, len, cap', m, n, D, Pl, e, _, hlc, hcm, hm, _, hel⟩
  · left; simp at e; exact e.2.1
  · simp only [List.cons.injEq, Value.slice.injEq, and_true] at e
    obtain ⟨rfl, rfl, rfl⟩ := e
    simp only [if_true] at hm
    subst hm
    unfold maxLen at hcm
    by_cases h0 : a0l = 0
    · exact Or.inl h0
    · right
      have hex : ∀ i, i < a0l → ∃ y : It, (∀ j, j < 3 → w.cell? ((ad.add (i * 3)).add j) = [.int .i64 y.kind, .int .u64 y.n, .slice y.ao y.m.length y.cap][j]?) ∧ y.n < 18446744073709551616 ∧ y.m.length ≤ 9223372036854775807 ∧ (y.ao = none → y.cap = 0) ∧ (∀ z ∈ y.m, 0 ≤ z ∧ z ≤ 255) ∧
          (0 < y.m.length → ∃ ad, y.ao = some ad ∧ ad.block < w.heap.size ∧ ∀ j u, (bs y.m)[j]? = some u → w.cell? (ad.add j) = some u) := by
        intro i hi
        obtain ⟨cs', h1, h2⟩ := hel i (by omega)
        rw [Try.cellsItem] at h1
        obtain ⟨y, hy, r⟩ := open_item h2
        obtain ⟨_, _, hc⟩ := World.cells?_some h1
        exact ⟨y, fun j hj => by rw [hc j hj, hy], r⟩
      have hsp : ad.spot = none := by
        obtain ⟨y, hc, _⟩ := hex 0 (by omega)
        have := hc 0 (by omega)
        simpa [Addr.add] using World.cell?_spot (w := w) (a := (ad.add (0 * 3)).add 0) this
      obtain ⟨b, o, sp⟩ := ad
      simp only at hsp
      subst hsp
      haveI : Inhabited It := ⟨⟨0, 0, none, [], 0⟩⟩
      obtain ⟨f, hf⟩ := Go.Deep.choose_lt hex
      have hget : ∀ i x, ((List.range a0l).map f)[i]? = some x → i < a0l ∧ x = f i := by
        intro i x hx
        simp only [List.getElem?_map] at hx
        rcases hr : (List.range a0l)[i]? with _ | q
        · rw [hr] at hx; cases hx
        · rw [hr] at hx
          obtain ⟨h1, h2⟩ := List.getElem?_eq_some_iff.1 hr
          simp at h1 h2
          subst h2
          simp at hx
          exact ⟨h1, hx.symm⟩
      have hmem : ∀ x ∈ (List.range a0l).map f, ∃ i, i < a0l ∧ x = f i := by
        intro x hx
        obtain ⟨i, hi⟩ := List.getElem?_of_mem hx
        exact ⟨i, hget i x hi⟩
      have hcell : ∀ i j, i < a0l → j < 3 → w.cell? ⟨b, o + i * 3 + j, none⟩ = [.int .i64 (f i).kind, .int .u64 (f i).n, .slice (f i).ao (f i).m.length (f i).cap][j]? := by
        intro i j hi hj
        have := (hf i hi).1 j hj
        rwa [plain_add, plain_add] at this
      refine ⟨b, o, (List.range a0l).map f, rfl, by simp, by omega, ⟨fun _ => ?_, by simp; omega, ?_, ?_, ?_, ?_, ?_, ?_, ?_, ?_⟩⟩
      · exact World.block_lt_of_cell? w _ (hcell 0 0 (by omega) (by omega))
      · intro i x hx; obtain ⟨hi, rfl⟩ := hget i x hx; exact hcell i 0 hi (by omega)
      · intro i x hx; obtain ⟨hi, rfl⟩ := hget i x hx; exact hcell i 1 hi (by omega)
      · intro i x hx; obtain ⟨hi, rfl⟩ := hget i x hx; exact hcell i 2 hi (by omega)
      · intro x hx; obtain ⟨i, hi, rfl⟩ := hmem x hx; exact (hf i hi).2.1
      · intro x hx; obtain ⟨i, hi, rfl⟩ := hmem x hx; exact (hf i hi).2.2.1
      · intro x hx; obtain ⟨i, hi, rfl⟩ := hmem x hx; exact (hf i hi).2.2.2.1
      · intro x hx; obtain ⟨i, hi, rfl⟩ := hmem x hx; exact (hf i hi).2.2.2.2.1
      · intro x hx; obtain ⟨i, hi, rfl⟩ := hmem x hx; exact (hf i hi).2.2.2.2.2

theorem writes_law (a0 : Option Addr) (len0 cap0 : Nat) (w : World) (w0 : len0 = 0 ∨ ∃ a o its, a0 = some ⟨a, o, none⟩ ∧ its.length = len0 ∧ 0 < len0 ∧ Raw w a o its) :
    Calls Try.prog 3 #[.slice a0 len0 cap0] w fun e w' => e = .returned (.bool true) ∧ Below w.heap.size w w' := by
  rcases w0 with rfl | ⟨a, o, its, rfl, rfl, h0, hr⟩
  · exact writes_nil a0 cap0 w
  · by_cases hs : Small its
    · exact writes_small a o its cap0 w (hr.items hs) hs
    · exact writes_big a o its cap0 w hr.len (hr.lt h0) hr.c2 hr.ml hs

/-- What the walk is told of a slice of integers that came in. -/
def IsRow (k : IntKind) (w : World) (a : Option Addr) (len cap : Nat) (zs : List Int) : Prop :=
  (a = none ∧ len = 0 ∧ cap = 0 ∧ zs = []) ∨
  ∃ x, a = some x ∧ len ≤ cap ∧ cap ≤ maxLen ∧ zs.length = cap ∧ (∀ i, i < zs.length → w.cell? (x.add i) = some (.int k (zs.getD i 0))) ∧ ∀ n ∈ zs, (Lit.int k n).wf = true

/-- A row of bytes that came in, as a list. -/
theorem IsRow.bytes {w : World} {a : Option Addr} {len cap : Nat} {zs : List Int} (h : IsRow .u8 w a len cap zs) :
    ∃ l : List Int, l.length = len ∧ len ≤ 9223372036854775807 ∧ (a = none → cap = 0) ∧ (∀ y ∈ l, 0 ≤ y ∧ y ≤ 255) ∧ (0 < l.length → ∃ ad, a = some ad ∧ ad.block < w.heap.size ∧ ∀ j u, (bs l)[j]? = some u → w.cell? (ad.add j) = some u) := by
  rcases h with ⟨rfl, rfl, rfl, rfl⟩ | ⟨x, rfl, h1, h2, h3, h4, h5⟩
  · exact ⟨[], rfl, by omega, fun _ => rfl, by simp, fun h => by simp at h⟩
  · unfold maxLen at h2
    have htl : (zs.take len).length = len := by rw [List.length_take]; omega
    refine ⟨zs.take len, htl, by omega, fun h => by simp at h, fun y hy => bounds_u8 (h5 y (List.mem_of_mem_take hy)), fun h0 => ?_⟩
    rw [htl] at h0
    have hc : ∀ j u, (bs (zs.take len))[j]? = some u → w.cell? (x.add j) = some u := by
      intro j u hu
      have hj : j < len := by
        have := (List.getElem?_eq_some_iff.1 hu).1
        simp [bs] at this; omega
      rw [h4 j (by omega)]
      simp only [bs, List.getElem?_map, List.getElem?_take, hj, if_true] at hu
      rw [List.getElem?_eq_getElem (by omega)] at hu
      simp only [Option.map_some, Option.some.injEq] at hu
      rw [← hu]
      simp [List.getD, show j < zs.length by omega]
    refine ⟨x, rfl, ?_, hc⟩
    have h6 := h4 0 (by omega)
    have := World.block_lt_of_cell? w _ h6
    rwa [add_block] at this

end Go.Proofs.Ytijjaoabkbeeeaa
