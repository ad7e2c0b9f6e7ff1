/- A list of tokens that came in, opened. No condition. -/
import Derived.Test.YtdmjlmlmdllhgaaDoorLexLaid
import Derived.Test.YtdmjlmlmdllhgaaDoorLexTxt
import Derived.Deep.Strs
import Derived.Lib.SmallJoins
import Derived.ProofKit
namespace Go.Proofs.YtdmjlmlmdllhgaaDoor
open Go.RowKit Go.ChangeShapes Go.WideShapes

theorem wf_t64 {n : Int} (h : (Lit.int .i64 n).wf = true) : -9223372036854775808 ≤ n ∧ n ≤ 9223372036854775807 := by
  simpa [Lit.wf, IntKind.min, IntKind.max, IntKind.signed, IntKind.bits] using h
/-- The tokens that came in. -/
def TksIn (w : World) (a : Option Addr) (len cap : Nat) (l : List T4) : Prop := l.length = len ∧ QRd w (.slice a len cap) (qs4 l) ∧ ∀ t ∈ l, -9223372036854775808 ≤ t.n ∧ t.n ≤ 9223372036854775807
theorem Tryd.cellsTok : Tryd.prog.cellsOf 25 = 4 := by kernel_rfl
theorem Tryd.cellsInt6 : Tryd.prog.cellsOf 3 = 1 := by kernel_rfl
theorem Tryd.cellsInt64 : Tryd.prog.cellsOf 2 = 1 := by kernel_rfl
theorem Tryd.cellsStr6 : Tryd.prog.cellsOf 9 = 1 := by kernel_rfl
theorem plain_add6 (a o j : Nat) : (⟨a, o, none⟩ : Addr).add j = ⟨a, o + j, none⟩ := by unfold Addr.add; split <;> simp_all
theorem four_of {α : Type} : ∀ {l : List α}, l.length = 4 → ∃ a b c d, l = [a, b, c, d]
  | [a, b, c, d], _ => ⟨a, b, c, d, rfl⟩
set_option maxRecDepth 100000 in
theorem open_tok {H : Type} {enc : TypeId × Value → H} {w : World} {n : Nat} {cs : List Value} {y : DataW H × List MemPlace} (h : DataW.trod enc Tryd.prog w 0 (fun _ => true) true n 25 cs = some y) :
    ∃ x : T4, cs = x.q.cs ∧ -9223372036854775808 ≤ x.n ∧ x.n ≤ 9223372036854775807 := by
  obtain ⟨y0, y1, y2, y3, m, _, hl, h0, h1, h2, h3⟩ := Go.Joins.trod_struct4 Tryd.underlying25 h
  rw [Tryd.cellsTok] at hl
  obtain ⟨v0, v1, v2, v3, rfl⟩ := four_of hl
  clear hl
  simp only [Tryd.cellsInt6, Tryd.cellsInt64, Tryd.cellsStr6, List.drop_zero, List.drop_succ_cons, List.take_succ_cons, List.take_zero] at h0 h1 h2 h3
  obtain ⟨k0, e0, _, q0⟩ := DataW.trod_int Tryd.underlying3 h0
  obtain ⟨s1, e1, _, _⟩ := DataW.trod_string Tryd.underlying9 h1
  obtain ⟨k2, e2, _, q2⟩ := DataW.trod_int Tryd.underlying2 h2
  obtain ⟨k3, e3, _, q3⟩ := DataW.trod_int Tryd.underlying3 h3
  simp only [List.cons.injEq, and_true] at e0 e1 e2 e3
  subst e0 e1 e2 e3
  exact ⟨⟨k0, s1, k2, k3⟩, rfl, wf_t64 q2⟩
theorem open_toks {H : Type} {enc : TypeId × Value → H} {w : World} {fuel len cap : Nat} {a : Option Addr} {x : DataW H × List MemPlace} (h : DataW.trod enc Tryd.prog w 0 (fun _ => true) true fuel 32 [.slice a len cap] = some x) :
    ∃ l, TksIn w a len cap l := by
  rcases Go.Deep.open_slice Tryd.underlying32 h with ⟨e, _⟩ | ⟨ad, len', cap', m, n, D, Pl, e, _, hlc, hcm, hm, _, hel⟩
  · simp only [List.cons.injEq, Value.slice.injEq, and_true] at e
    obtain ⟨rfl, rfl, rfl⟩ := e
    exact ⟨[], rfl, ⟨none, 0, rfl, by simp [qs4], by omega, fun h => by simp [qs4] at h⟩, by simp⟩
  · simp only [List.cons.injEq, Value.slice.injEq, and_true] at e
    obtain ⟨rfl, rfl, rfl⟩ := e
    simp only [if_true] at hm
    subst hm
    unfold maxLen at hcm
    by_cases h0 : len = 0
    · subst h0
      exact ⟨[], rfl, ⟨_, _, rfl, by simp [qs4], by omega, fun h => by simp [qs4] at h⟩, by simp⟩
    · have hex : ∀ i, i < len → ∃ y : T4, (∀ j, j < 4 → w.cell? ((ad.add (i * 4)).add j) = y.q.cs[j]?) ∧ -9223372036854775808 ≤ y.n ∧ y.n ≤ 9223372036854775807 := by
        intro i hi
        obtain ⟨cs', h1, h2⟩ := hel i (by omega)
        rw [Tryd.cellsTok] at h1
        obtain ⟨y, hy, r⟩ := open_tok h2
        obtain ⟨_, _, hc⟩ := World.cells?_some h1
        exact ⟨y, fun j hj => by rw [hc j hj, hy], r⟩
      have hsp : ad.spot = none := by
        obtain ⟨y, hc, _⟩ := hex 0 (by omega)
        have := hc 0 (by omega)
        simpa [Addr.add] using World.cell?_spot (w := w) (a := (ad.add (0 * 4)).add 0) this
      obtain ⟨b, o, sp⟩ := ad
      simp only at hsp
      subst hsp
      haveI : Inhabited T4 := ⟨⟨0, ⟨#[]⟩, 0, 0⟩⟩
      obtain ⟨f, hf⟩ := Go.Deep.choose_lt hex
      have hget : ∀ i x, ((List.range len).map f)[i]? = some x → i < len ∧ x = f i := by
        intro i x hx
        simp only [List.getElem?_map] at hx
        rcases hr : (List.range len)[i]? with _ | q
        · rw [hr] at hx; cases hx
        · rw [hr] at hx
          obtain ⟨h1, h2⟩ := List.getElem?_eq_some_iff.1 hr
          simp at h1 h2
          subst h2
          simp at hx
          exact ⟨h1, hx.symm⟩
      have hcell : ∀ i j, i < len → j < 4 → w.cell? ⟨b, o + i * 4 + j, none⟩ = (f i).q.cs[j]? := by
        intro i j hi hj
        have := (hf i hi).1 j hj
        rwa [plain_add6, plain_add6] at this
      have hll : (qs4 ((List.range len).map f)).length = len := by simp [qs4]
      refine ⟨(List.range len).map f, by simp, ⟨_, m, by rw [hll], by rw [hll]; omega, by omega, fun _ => ⟨b, o, rfl, ?_, fun i x hx => ?_⟩⟩, fun x hx => ?_⟩
      · exact World.block_lt_of_cell? w _ (hcell 0 0 (by omega) (by omega))
      · rw [qs4, List.getElem?_map, Option.map_eq_some_iff] at hx
        obtain ⟨y, hy, rfl⟩ := hx
        obtain ⟨h1, rfl⟩ := hget i y hy
        exact ⟨hcell i 0 h1 (by omega), hcell i 1 h1 (by omega), hcell i 2 h1 (by omega), hcell i 3 h1 (by omega)⟩
      · obtain ⟨i, hi⟩ := List.getElem?_of_mem hx
        obtain ⟨h1, rfl⟩ := hget i x hi
        exact (hf i h1).2
end Go.Proofs.YtdmjlmlmdllhgaaDoor
