/- Names and rules that came in, opened. Bounds on sizes alone. -/
import Derived.SliceStrings
import Derived.Deep.Strs
import Derived.ProofKit
import Derived.Test.YtjponegeidiheaaRows
import Derived.Test.YtjponegeidiheaaClsTop
namespace Go.Proofs.Ytjponegeidiheaa
open Go.RowKit Go.ChangeShapes Go.WideShapes

set_option maxRecDepth 100000 in
theorem open_sl {H : Type} {enc : TypeId × Value → H} {w : World} {fuel : Nat} {v : Value} {x : DataW H × List MemPlace} (h : DataW.trod enc Try.prog w 0 (fun _ => true) true fuel 22 [v] = some x) :
    ∃ (a : Option Addr) (len cap : Nat) (l : List Str), v = .slice a len cap ∧ Rd w (.slice a len cap) (ss l) ∧ ∀ y ∈ l, y.length ≤ 9223372036854775807 := by
  rcases open_strings Try.underlying22 Try.underlying9 (by kernel_rfl) h with ⟨e, _⟩ | ⟨ad, len, cap, sl, e, _, hl, hm, hz, _, hcell, hwf⟩
  · simp only [List.cons.injEq, and_true] at e
    subst e
    exact ⟨none, 0, 0, [], rfl, ⟨none, 0, rfl, Nat.le_refl _, by omega, fun h => by simp [ss] at h⟩, by simp⟩
  · simp only [List.cons.injEq, and_true] at e
    subst e
    simp only [if_true] at hz
    unfold maxLen at hm
    have htl : (sl.take len).length = len := by rw [List.length_take]; omega
    refine ⟨some ad, len, cap, (sl.take len).map (·.data.toList), rfl, ⟨some ad, cap, by rw [ss_length, List.length_map, htl], by rw [ss_length, List.length_map, htl]; exact hl, by omega, fun h0 => ?_⟩, fun y hy => ?_⟩
    · rw [ss_length, List.length_map, htl] at h0
      have h6 := hcell 0 (by omega)
      rw [show ad.add 0 = ad by rfl] at h6
      have hx := spot_none h6
      refine ⟨ad.block, ad.off, by rw [← hx], World.block_lt_of_cell? w _ h6, fun j u hu => ?_⟩
      have hj : j < len := by
        have := (List.getElem?_eq_some_iff.1 hu).1
        rw [ss_length, List.length_map, htl] at this; exact this
      have h7 := hcell j (by omega)
      rw [hx, Addr.add_mid] at h7
      rw [h7, ← hu]
      have hjs : j < sl.length := by omega
      simp [ss, List.getElem?_take, hj, List.getElem?_eq_getElem hjs, List.getD, ba_of]
    · obtain ⟨s, hs, rfl⟩ := List.mem_map.1 hy
      have := hwf s (List.mem_of_mem_take hs)
      unfold maxLen at this
      have e : s.data.toList.length = s.size := Array.length_toList
      omega
/-- A rule as it came in. -/
structure RuX where
  v : Value
  s : ByteArray
  l : List Str
def RuX.cells (x : RuX) : List Value := [x.v, .string x.s]
theorem Try.cellsRule : Try.prog.cellsOf 41 = 2 := by kernel_rfl
theorem Try.cellsStrs : Try.prog.cellsOf 22 = 1 := by kernel_rfl
theorem Try.cellsStr : Try.prog.cellsOf 9 = 1 := by kernel_rfl
theorem plain_add2 (a o j : Nat) : (⟨a, o, none⟩ : Addr).add j = ⟨a, o + j, none⟩ := by unfold Addr.add; split <;> simp_all
set_option maxRecDepth 100000 in
theorem open_rule {H : Type} {enc : TypeId × Value → H} {w : World} {n : Nat} {cs : List Value} {y : DataW H × List MemPlace} (h : DataW.trod enc Try.prog w 0 (fun _ => true) true n 41 cs = some y) :
    ∃ x : RuX, cs = x.cells ∧ Rd w x.v (ss x.l) := by
  obtain ⟨y0, y1, m, _, hl, h0, h1⟩ := trod_struct2 Try.underlying41 h
  rw [Try.cellsRule] at hl
  match cs, hl with
  | [v0, v1], _ =>
    simp only [Try.cellsStrs, Try.cellsStr, List.drop_zero, List.drop_succ_cons, List.take_succ_cons, List.take_zero] at h0 h1
    obtain ⟨a, len, cap, l, rfl, h2, _⟩ := open_sl h0
    obtain ⟨s, e, _⟩ := DataW.trod_string Try.underlying9 h1
    simp only [List.cons.injEq, and_true] at e
    subst e
    exact ⟨⟨_, s, l⟩, rfl, h2⟩

set_option maxRecDepth 100000 in
theorem open_rules {H : Type} {enc : TypeId × Value → H} {w : World} {fuel len cap : Nat} {a : Option Addr} {x : DataW H × List MemPlace} (h : DataW.trod enc Try.prog w 0 (fun _ => true) true fuel 23 [.slice a len cap] = some x) :
    ∃ rs, RuR w (.slice a len cap) rs := by
  rcases Go.Deep.open_slice Try.underlying23 h with ⟨e, _⟩ | ⟨ad, len', cap', m, n, D, Pl, e, _, hlc, hcm, hm, _, hel⟩
  · simp only [List.cons.injEq, Value.slice.injEq, and_true] at e
    obtain ⟨rfl, rfl, rfl⟩ := e
    exact ⟨[], [], prd_nil w, rfl, fun i t r ht => by simp at ht⟩
  · simp only [List.cons.injEq, Value.slice.injEq, and_true] at e
    obtain ⟨rfl, rfl, rfl⟩ := e
    simp only [if_true] at hm
    subst hm
    unfold maxLen at hcm
    by_cases h0 : len = 0
    · subst h0
      exact ⟨[], [], ⟨_, _, rfl, hlc, by omega, fun h => by simp at h⟩, rfl, fun i t r ht => by simp at ht⟩
    · have hex : ∀ i, i < len → ∃ y : RuX, (∀ j, j < 2 → w.cell? ((ad.add (i * 2)).add j) = y.cells[j]?) ∧ Rd w y.v (ss y.l) := by
        intro i hi
        obtain ⟨cs', h1, h2⟩ := hel i (by omega)
        rw [Try.cellsRule] at h1
        obtain ⟨y, hy, r⟩ := open_rule h2
        obtain ⟨_, _, hc⟩ := World.cells?_some h1
        exact ⟨y, fun j hj => by rw [hc j hj, hy], r⟩
      have hsp : ad.spot = none := by
        obtain ⟨y, hc, _⟩ := hex 0 (by omega)
        have := hc 0 (by omega)
        simpa [Addr.add] using World.cell?_spot (w := w) (a := (ad.add (0 * 2)).add 0) this
      obtain ⟨b, o, sp⟩ := ad
      simp only at hsp
      subst hsp
      haveI : Inhabited RuX := ⟨⟨.slice none 0 0, ⟨#[]⟩, []⟩⟩
      obtain ⟨f, hf⟩ := Go.Deep.choose_lt hex
      have hget : ∀ (i : Nat) (q : Nat), (List.range len)[i]? = some q → i < len ∧ q = i := by
        intro i q hr
        obtain ⟨h1, h2⟩ := List.getElem?_eq_some_iff.1 hr
        simp at h1 h2
        exact ⟨h1, h2.symm⟩
      have hcell : ∀ i j, i < len → j < 2 → w.cell? ⟨b, o + i * 2 + j, none⟩ = (f i).cells[j]? := by
        intro i j hi hj
        have := (hf i hi).1 j hj
        rwa [plain_add2, plain_add2] at this
      have c00 := hcell 0 0 (by omega) (by omega)
      refine ⟨(List.range len).map fun i => ((f i).l, (f i).s.data.toList), (List.range len).map fun i => ((f i).v, .string (f i).s), ⟨_, _, by rw [List.length_map, List.length_range], by simpa using hlc, by omega, fun _ => ⟨b, o, rfl, World.block_lt_of_cell? w _ c00, fun i t ht => ?_⟩⟩, by simp, fun i t r ht hr => ?_⟩
      · rw [List.getElem?_map] at ht
        obtain ⟨q, hq, rfl⟩ := Option.map_eq_some_iff.1 ht
        obtain ⟨h1, rfl⟩ := hget i q hq
        exact ⟨hcell q 0 h1 (by omega), hcell q 1 h1 (by omega)⟩
      · rw [List.getElem?_map] at ht hr
        obtain ⟨q, hq, rfl⟩ := Option.map_eq_some_iff.1 ht
        obtain ⟨q', hq', rfl⟩ := Option.map_eq_some_iff.1 hr
        obtain ⟨h1, rfl⟩ := hget i q hq
        obtain ⟨_, rfl⟩ := hget _ q' hq'
        exact ⟨(hf _ h1).2, by rw [ba_of]⟩

theorem Try.cellsTwo : Try.prog.cellsOf 37 = 2 := by kernel_rfl
set_option maxRecDepth 100000 in
theorem open_two {H : Type} {enc : TypeId × Value → H} {w : World} {n : Nat} {cs : List Value} {y : DataW H × List MemPlace} (h : DataW.trod enc Try.prog w 0 (fun _ => true) true n 37 cs = some y) :
    ∃ (a0 : Option Addr) (n0 c0 : Nat) (l0 : List Str) (a1 : Option Addr) (n1 c1 : Nat) (l1 : List Str), cs = [.slice a0 n0 c0, .slice a1 n1 c1] ∧ Rd w (.slice a0 n0 c0) (ss l0) ∧ Rd w (.slice a1 n1 c1) (ss l1) := by
  obtain ⟨xs, m, _, _, hl, hx, hel⟩ := DataW.trod_array Try.underlying37 h
  rw [Try.cellsTwo] at hl
  match cs, hl with
  | [v0, v1], _ =>
    match xs, hx with
    | [x0, x1], _ =>
      have h0 := hel 0 (by omega)
      have h1 := hel 1 (by omega)
      simp only [Try.cellsStrs, Nat.zero_mul, Nat.one_mul, List.drop_zero, List.drop_succ_cons, List.take_succ_cons, List.take_zero, List.getElem?_cons_zero, List.getElem?_cons_succ] at h0 h1
      obtain ⟨a0, n0, c0, l0, rfl, r0, _⟩ := open_sl h0
      obtain ⟨a1, n1, c1, l1, rfl, r1, _⟩ := open_sl h1
      exact ⟨a0, n0, c0, l0, a1, n1, c1, l1, rfl, r0, r1⟩
theorem open_strz {H : Type} {enc : TypeId × Value → H} {w : World} {fuel len cap : Nat} {a : Option Addr} {x : DataW H × List MemPlace} (h : DataW.trod enc Try.prog w 0 (fun _ => true) true fuel 22 [.slice a len cap] = some x) :
    ∃ l : List Str, Rd w (.slice a len cap) (ss l) ∧ ∀ y ∈ l, y.length ≤ 9223372036854775807 := by
  obtain ⟨_, _, _, l, e, h1, h2⟩ := open_sl h
  simp only [Value.slice.injEq] at e
  obtain ⟨rfl, rfl, rfl⟩ := e
  exact ⟨l, h1, h2⟩
theorem okWide_arr {P : Program} {t e : TypeId} {n : Nat} {v : Value} {w : World} {r : Reach} {base : Nat} (ht : P.underlying t = some (.array n e)) (h : Value.okWide P w r base t v) : ∃ cs, v = .agg cs := by
  unfold Value.okWide at h
  rw [ht] at h
  obtain ⟨cs, h, _⟩ := h
  exact ⟨cs, h⟩
set_option maxRecDepth 100000 in
theorem open_twov {H : Type} {enc : TypeId × Value → H} {w : World} {base : Nat} {v : Value} {d : DataW H} {p : List MemPlace} (hv : Value.okWide Try.prog w .any base 37 v) (h : DataW.Trod enc Try.prog w 0 (fun _ => true) true 37 v d p) :
    ∃ (a0 : Option Addr) (n0 c0 : Nat) (l0 : List Str) (a1 : Option Addr) (n1 c1 : Nat) (l1 : List Str), v = .agg #[.slice a0 n0 c0, .slice a1 n1 c1] ∧ Rd w (.slice a0 n0 c0) (ss l0) ∧ Rd w (.slice a1 n1 c1) (ss l1) := by
  obtain ⟨cs, rfl⟩ := okWide_arr Try.underlying37 hv
  obtain ⟨fuel, hf⟩ := h
  obtain ⟨a0, n0, c0, l0, a1, n1, c1, l1, e, r0, r1⟩ := open_two hf
  have e2 : cs.toList = [.slice a0 n0 c0, .slice a1 n1 c1] := e
  have e3 : cs = #[.slice a0 n0 c0, .slice a1 n1 c1] := by rw [← Array.toArray_toList (xs := cs), e2]
  subst e3
  exact ⟨a0, n0, c0, l0, a1, n1, c1, l1, rfl, r0, r1⟩
end Go.Proofs.Ytjponegeidiheaa
