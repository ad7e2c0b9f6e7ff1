/- A slice of operations (plexusref05.Op) that came in, opened. No condition. -/
import Derived.Test.YtogfgcihhnblkaaDoorKeyShort
import Derived.Test.YtogfgcihhnblkaaDoorShaLaid
import Derived.Deep.Strs
import Derived.ProofKit
namespace Go.Proofs.YtogfgcihhnblkaaDoor
open Go.RowKit Go.ChangeShapes Go.WideShapes

/-- An operation as it came in: two rows of bytes. -/
structure Opx where
  kind : Int
  n : Int
  p : Int
  bo : Option Addr
  bl : Nat
  bc : Nat
  b : List Int
  to : Option Addr
  tl : Nat
  tc : Nat
  t : List Int
def Opx.cells (x : Opx) : List Value := [.int .i64 x.kind, .int .i64 x.n, .int .i64 x.p, .slice x.bo x.bl x.bc, .slice x.to x.tl x.tc]
structure OpW (w : World) (x : Opx) : Prop where
  kind : R64 x.kind
  n : R64 x.n
  p : R64 x.p
  bl : x.b.length = x.bl
  br : ∀ y ∈ x.b, 0 ≤ y ∧ y ≤ 255
  b : Lies w (.slice x.bo x.bl x.bc) x.b
  tl : x.t.length = x.tl
  tr : ∀ y ∈ x.t, 0 ≤ y ∧ y ≤ 255
  t : Lies w (.slice x.to x.tl x.tc) x.t
/-- The operations that came in. -/
def OpsIn (w : World) (a : Option Addr) (len cap : Nat) (l : List Opx) : Prop :=
  l.length = len ∧ len ≤ cap ∧ cap ≤ 9223372036854775807 ∧ (∀ x ∈ l, OpW w x) ∧ (0 < len → ∃ g o, a = some ⟨g, o, none⟩ ∧ g < w.heap.size ∧ ∀ i x, l[i]? = some x → ∀ j, j < 5 → w.cell? ⟨g, o + i * 5 + j, none⟩ = x.cells[j]?)

section
variable {H : Type} {enc : TypeId × Value → H} {P : Program} {w : World} {base : Nat} {spare : TypeId → Bool} {held : Bool}
theorem trod_struct5 {t : TypeId} {f0 f1 f2 f3 f4 : Field} {fuel : Nat} {cs : List Value} {x : DataW H × List MemPlace} (ht : P.underlying t = some (.struct #[f0, f1, f2, f3, f4])) (h : DataW.trod enc P w base spare held fuel t cs = some x) :
    ∃ y0 y1 y2 y3 y4 n, cs.length = P.cellsOf t ∧ DataW.trod enc P w base spare held n f0.type ((cs.drop f0.offset).take (P.cellsOf f0.type)) = some y0 ∧
      DataW.trod enc P w base spare held n f1.type ((cs.drop f1.offset).take (P.cellsOf f1.type)) = some y1 ∧ DataW.trod enc P w base spare held n f2.type ((cs.drop f2.offset).take (P.cellsOf f2.type)) = some y2 ∧
      DataW.trod enc P w base spare held n f3.type ((cs.drop f3.offset).take (P.cellsOf f3.type)) = some y3 ∧ DataW.trod enc P w base spare held n f4.type ((cs.drop f4.offset).take (P.cellsOf f4.type)) = some y4 := by
  obtain ⟨xs, n, _, rfl, hl, hlen, hf⟩ := DataW.trod_struct ht h
  match xs, hlen with
  | [y0, y1, y2, y3, y4], _ => exact ⟨y0, y1, y2, y3, y4, n, hl, by simpa using hf 0 f0 rfl, by simpa using hf 1 f1 rfl, by simpa using hf 2 f2 rfl, by simpa using hf 3 f3 rfl, by simpa using hf 4 f4 rfl⟩
end
theorem Tryd.cellsOp : Tryd.prog.cellsOf 30 = 5 := by kernel_rfl
theorem Tryd.cellsInt5 : Tryd.prog.cellsOf 3 = 1 := by kernel_rfl
theorem Tryd.cellsBytes5 : Tryd.prog.cellsOf 22 = 1 := by kernel_rfl
theorem Tryd.cellsU85 : Tryd.prog.cellsOf 5 = 1 := by kernel_rfl

theorem plain_add5 (a o j : Nat) : (⟨a, o, none⟩ : Addr).add j = ⟨a, o + j, none⟩ := by unfold Addr.add; split <;> simp_all

theorem open_bytes5 {H : Type} {enc : TypeId × Value → H} {w : World} {n : Nat} {v : Value} {y : DataW H × List MemPlace} (h : DataW.trod enc Tryd.prog w 0 (fun _ => true) true n 22 [v] = some y) :
    ∃ a len cap l, v = .slice a len cap ∧ List.length l = len ∧ (∀ y ∈ l, 0 ≤ y ∧ y ≤ 255) ∧ Lies w (.slice a len cap) l := by
  rcases open_ints Tryd.underlying22 Tryd.underlying5 Tryd.cellsU85 h with ⟨e2, _⟩ | ⟨a, len, cap, zs, e2, _, hlc, hcm, hz, _, hcell, hwz⟩
  · simp only [List.cons.injEq, and_true] at e2
    have hr : IsRow .u8 w none 0 0 [] := .inl ⟨rfl, rfl, rfl, rfl⟩
    obtain ⟨l, h1, h2, h3⟩ := hr.lies
    exact ⟨none, 0, 0, l, e2, h1, h2, h3⟩
  · simp only [List.cons.injEq, and_true] at e2
    have hr : IsRow .u8 w (some a) len cap zs := .inr ⟨a, rfl, hlc, hcm, by simpa using hz, hcell, hwz⟩
    obtain ⟨l, h1, h2, h3⟩ := hr.lies
    exact ⟨some a, len, cap, l, e2, h1, h2, h3⟩

theorem open_op {H : Type} {enc : TypeId × Value → H} {w : World} {n : Nat} {cs : List Value} {y : DataW H × List MemPlace} (h : DataW.trod enc Tryd.prog w 0 (fun _ => true) true n 30 cs = some y) :
    ∃ x : Opx, cs = x.cells ∧ OpW w x := by
  obtain ⟨y0, y1, y2, y3, y4, m, hl, h0, h1, h2, h3, h4⟩ := trod_struct5 Tryd.underlying30 h
  rw [Tryd.cellsOp] at hl
  match cs, hl with
  | [v0, v1, v2, v3, v4], _ =>
    simp only [Tryd.cellsInt5, Tryd.cellsBytes5, List.drop_zero, List.drop_succ_cons, List.take_succ_cons, List.take_zero] at h0 h1 h2 h3 h4
    obtain ⟨k0, e0, _, q0⟩ := DataW.trod_int Tryd.underlying3 h0
    obtain ⟨k1, e1, _, q1⟩ := DataW.trod_int Tryd.underlying3 h1
    obtain ⟨k2, e2, _, q2⟩ := DataW.trod_int Tryd.underlying3 h2
    simp only [List.cons.injEq, and_true] at e0 e1 e2
    subst e0 e1 e2
    obtain ⟨bo, bl, bc, b, rfl, b1, b2, b3⟩ := open_bytes5 h3
    obtain ⟨to, tl, tc, t, rfl, t1, t2, t3⟩ := open_bytes5 h4
    exact ⟨⟨k0, k1, k2, bo, bl, bc, b, to, tl, tc, t⟩, rfl, ⟨wf_r64 q0, wf_r64 q1, wf_r64 q2, b1, b2, b3, t1, t2, t3⟩⟩

theorem open_ops {H : Type} {enc : TypeId × Value → H} {w : World} {fuel len cap : Nat} {a : Option Addr} {x : DataW H × List MemPlace} (h : DataW.trod enc Tryd.prog w 0 (fun _ => true) true fuel 28 [.slice a len cap] = some x) :
    ∃ l, OpsIn w a len cap l := by
  rcases Go.Deep.open_slice Tryd.underlying28 h with ⟨e, _⟩ | ⟨ad, len', cap', m, n, D, Pl, e, _, hlc, hcm, hm, _, hel⟩
  · simp only [List.cons.injEq, Value.slice.injEq, and_true] at e
    obtain ⟨rfl, rfl, rfl⟩ := e
    exact ⟨[], rfl, by omega, by omega, by simp, fun h => by omega⟩
  · simp only [List.cons.injEq, Value.slice.injEq, and_true] at e
    obtain ⟨rfl, rfl, rfl⟩ := e
    simp only [if_true] at hm
    subst hm
    unfold maxLen at hcm
    by_cases h0 : len = 0
    · subst h0
      exact ⟨[], rfl, by omega, by omega, by simp, fun h => by omega⟩
    · have hex : ∀ i, i < len → ∃ y : Opx, (∀ j, j < 5 → w.cell? ((ad.add (i * 5)).add j) = y.cells[j]?) ∧ OpW w y := by
        intro i hi
        obtain ⟨cs', h1, h2⟩ := hel i (by omega)
        rw [Tryd.cellsOp] at h1
        obtain ⟨y, hy, r⟩ := open_op h2
        obtain ⟨_, _, hc⟩ := World.cells?_some h1
        exact ⟨y, fun j hj => by rw [hc j hj, hy], r⟩
      have hsp : ad.spot = none := by
        obtain ⟨y, hc, _⟩ := hex 0 (by omega)
        have := hc 0 (by omega)
        simpa [Addr.add] using World.cell?_spot (w := w) (a := (ad.add (0 * 5)).add 0) this
      obtain ⟨b, o, sp⟩ := ad
      simp only at hsp
      subst hsp
      haveI : Inhabited Opx := ⟨⟨0, 0, 0, none, 0, 0, [], none, 0, 0, []⟩⟩
      obtain ⟨f, hf⟩ := Go.Deep.choose_lt hex
      have hget : ∀ i x, ((List.range len).map f)[i]? = some x → i < len ∧ x = f i := by
        intro i x hx
        simp only [List.getElem?_map] at hx
        rcases hr : (List.range len)[i]? with _ | q
        · rw [hr] at hx; cases hx
        · rw [hr] at hx
          obtain ⟨h1, h2⟩ := List.getElem?_eq_some_iff.1 hr
          simp at h1 h2
          subst h2
          simp at hx
          exact ⟨h1, hx.symm⟩
      have hcell : ∀ i j, i < len → j < 5 → w.cell? ⟨b, o + i * 5 + j, none⟩ = (f i).cells[j]? := by
        intro i j hi hj
        have := (hf i hi).1 j hj
        rwa [plain_add5, plain_add5] at this
      refine ⟨(List.range len).map f, by simp, hlc, by omega, fun x hx => ?_, fun _ => ⟨b, o, rfl, ?_, fun i x hx j hj => ?_⟩⟩
      · obtain ⟨i, hi⟩ := List.getElem?_of_mem hx
        obtain ⟨h1, rfl⟩ := hget i x hi
        exact (hf i h1).2
      · exact World.block_lt_of_cell? w _ (hcell 0 0 (by omega) (by omega))
      · obtain ⟨h1, rfl⟩ := hget i x hx
        exact hcell i j h1 hj
end Go.Proofs.YtogfgcihhnblkaaDoor
