/- Expressions and functions that came in, opened. No condition. -/
import Derived.Test.YtdacalplnggnoaaDoorVarOf
import Derived.SliceStrings
import Derived.Deep.Strs
import Derived.ProofKit
import Derived.SizedLaws
import Derived.Test.YtdacalplnggnoaaDoorRows
namespace Go.Proofs.YtdacalplnggnoaaDoor
open Go.RowKit Go.ChangeShapes Go.WideShapes

theorem wf_r64 {n : Int} (h : (Lit.int .i64 n).wf = true) : R64 n := by
  have h1 : IntKind.i64.min = -9223372036854775808 := by rfl
  have h2 : IntKind.i64.max = 9223372036854775807 := by rfl
  have : (decide (IntKind.i64.min ≤ n) && decide (n ≤ IntKind.i64.max)) = true := h
  rw [h1, h2] at this
  simpa using this
theorem Tryd.cellsInt : Tryd.prog.cellsOf 3 = 1 := by kernel_rfl
theorem Tryd.cellsI64 : Tryd.prog.cellsOf 2 = 1 := by kernel_rfl
theorem Tryd.cellsStr : Tryd.prog.cellsOf 9 = 1 := by kernel_rfl
theorem Tryd.cellsStrs : Tryd.prog.cellsOf 27 = 1 := by kernel_rfl
theorem Tryd.cellsLats : Tryd.prog.cellsOf 28 = 1 := by kernel_rfl
theorem Tryd.cellsRules : Tryd.prog.cellsOf 29 = 1 := by kernel_rfl
theorem Tryd.cellsLat : Tryd.prog.cellsOf 31 = 6 := by kernel_rfl
theorem Tryd.cellsTyp : Tryd.prog.cellsOf 33 = 7 := by kernel_rfl
theorem Tryd.cellsExs : Tryd.prog.cellsOf 34 = 1 := by kernel_rfl
theorem Tryd.cellsEx : Tryd.prog.cellsOf 36 = 12 := by kernel_rfl
theorem Tryd.cellsPars : Tryd.prog.cellsOf 41 = 1 := by kernel_rfl
theorem Tryd.cellsFn : Tryd.prog.cellsOf 43 = 16 := by kernel_rfl
theorem plain_add (a o j : Nat) : (⟨a, o, none⟩ : Addr).add j = ⟨a, o + j, none⟩ := by unfold Addr.add; split <;> simp_all
/-- A slice that came in: nil, or a row of elements, each read with less fuel. -/
theorem open_row {H : Type} {enc : TypeId × Value → H} {w : World} {fuel : Nat} {S e : TypeId} {v : Value} {y : DataW H × List MemPlace} (ht : Tryd.prog.underlying S = some (.slice e)) (h : DataW.trod enc Tryd.prog w 0 (fun _ => true) true fuel S [v] = some y) :
    (v = .slice none 0 0 ∧ y.1 = .nil) ∨ ∃ (ad : Addr) (len cap n : Nat) (elems spare : List (DataW H)), v = .slice (some ad) len cap ∧ fuel = n + 1 ∧ y.1 = .slice elems spare ∧ elems.length = len ∧ elems.length + spare.length = cap ∧ len ≤ cap ∧ cap ≤ maxLen ∧
      ∀ i, i < len → ∃ cs' z, w.cells? 0 (ad.add (i * Tryd.prog.cellsOf e)) (Tryd.prog.cellsOf e) = some cs' ∧ DataW.trod enc Tryd.prog w 0 (fun _ => true) true n e cs' = some z ∧ elems[i]? = some z.1 := by
  rcases DataW.trod_slice ht h with ⟨e1, e2⟩ | ⟨a, len, cap, elems, rest, n, hf, e1, e2, _, hl, hm, hlen, hel, hsp, _⟩
  · simp only [List.cons.injEq, and_true] at e1
    exact .inl ⟨e1, by rw [e2]⟩
  · simp only [List.cons.injEq, and_true] at e1
    refine .inr ⟨a, len, cap, n, elems.map (·.1), rest.map (·.1), e1, hf, by rw [e2], by simp [hlen], by have := (hsp rfl).1; simp [hlen, this]; omega, hl, hm, fun i hi => ?_⟩
    have := hel i hi
    rw [List.getElem?_eq_getElem (by omega)] at this
    rw [Option.bind_eq_some_iff] at this
    obtain ⟨cs', h1, h2⟩ := this
    exact ⟨cs', elems[i]'(by omega), h1, h2, by rw [List.getElem?_map, List.getElem?_eq_getElem (by omega)]; rfl⟩
set_option maxRecDepth 100000 in
theorem lat_fields : ∃ f0 f1 f2 f3 f4 f5 : Field, Tryd.prog.underlying 31 = some (.struct #[f0, f1, f2, f3, f4, f5]) ∧ f0.type = 3 ∧ f1.type = 2 ∧ f2.type = 2 ∧ f3.type = 27 ∧ f4.type = 28 ∧ f5.type = 29 ∧ f0.offset = 0 ∧ f1.offset = 1 ∧ f2.offset = 2 ∧ f3.offset = 3 ∧ f4.offset = 4 ∧ f5.offset = 5 :=
  ⟨_, _, _, _, _, _, Tryd.underlying31, rfl, rfl, rfl, rfl, rfl, rfl, rfl, rfl, rfl, rfl, rfl, rfl⟩
set_option maxRecDepth 100000 in
theorem typ_fields : ∃ f0 f1 : Field, Tryd.prog.underlying 33 = some (.struct #[f0, f1]) ∧ f0.type = 3 ∧ f1.type = 31 ∧ f0.offset = 0 ∧ f1.offset = 1 :=
  ⟨_, _, Tryd.underlying33, rfl, rfl, rfl, rfl⟩
set_option maxRecDepth 100000 in
theorem ex_fields : ∃ f0 f1 f2 f3 f4 f5 : Field, Tryd.prog.underlying 36 = some (.struct #[f0, f1, f2, f3, f4, f5]) ∧ f0.type = 3 ∧ f1.type = 33 ∧ f2.type = 2 ∧ f3.type = 9 ∧ f4.type = 3 ∧ f5.type = 34 ∧ f0.offset = 0 ∧ f1.offset = 1 ∧ f2.offset = 8 ∧ f3.offset = 9 ∧ f4.offset = 10 ∧ f5.offset = 11 :=
  ⟨_, _, _, _, _, _, Tryd.underlying36, rfl, rfl, rfl, rfl, rfl, rfl, rfl, rfl, rfl, rfl, rfl, rfl⟩
set_option maxRecDepth 100000 in
theorem fn_fields : ∃ f0 f1 f2 f3 f4 : Field, Tryd.prog.underlying 43 = some (.struct #[f0, f1, f2, f3, f4]) ∧ f0.type = 9 ∧ f1.type = 9 ∧ f2.type = 41 ∧ f3.type = 3 ∧ f4.type = 36 ∧ f0.offset = 0 ∧ f1.offset = 1 ∧ f2.offset = 2 ∧ f3.offset = 3 ∧ f4.offset = 4 :=
  ⟨_, _, _, _, _, Tryd.underlying43, rfl, rfl, rfl, rfl, rfl, rfl, rfl, rfl, rfl, rfl⟩
section
variable {H : Type} {enc : TypeId × Value → H} {w : World}
theorem sl_shape {fuel : Nat} {S e : TypeId} {v : Value} {y : DataW H × List MemPlace} (ht : Tryd.prog.underlying S = some (.slice e)) (h : DataW.trod enc Tryd.prog w 0 (fun _ => true) true fuel S [v] = some y) : ∃ a n c, v = .slice a n c := by
  rcases open_row ht h with ⟨rfl, _⟩ | ⟨ad, len, cap, n, elems, sp, rfl, _⟩
  · exact ⟨_, _, _, rfl⟩
  · exact ⟨_, _, _, rfl⟩
set_option maxRecDepth 100000 in
theorem lat_shape {fuel : Nat} {cs : List Value} {x : DataW H × List MemPlace} (h : DataW.trod enc Tryd.prog w 0 (fun _ => true) true fuel 31 cs = some x) :
    ∃ k lo hi a1 n1 c1 a2 n2 c2 a3 n3 c3, cs = [.int .i64 k, .int .i64 lo, .int .i64 hi, .slice a1 n1 c1, .slice a2 n2 c2, .slice a3 n3 c3] ∧ R64 k ∧ ∃ fu x', DataW.trod enc Tryd.prog w 0 (fun _ => true) true fu 28 [.slice a2 n2 c2] = some x' := by
    obtain ⟨f0, f1, f2, f3, f4, f5, hu, t0, t1, t2, t3, t4, t5, o0, o1, o2, o3, o4, o5⟩ := lat_fields
    obtain ⟨xs, m, hm, hxx, hl, hlx, hf⟩ := DataW.trod_struct hu h
    match xs, hlx with
    | [y0, y1, y2, y3, y4, y5], _ =>
      have g0 := hf 0 f0 rfl
      have g1 := hf 1 f1 rfl
      have g2 := hf 2 f2 rfl
      have g3 := hf 3 f3 rfl
      have g4 := hf 4 f4 rfl
      have g5 := hf 5 f5 rfl
      rw [Tryd.cellsLat] at hl
      match cs, hl with
      | [v0, v1, v2, v3, v4, v5], _ =>
        rw [t0, o0, Tryd.cellsInt] at g0
        rw [t1, o1, Tryd.cellsI64] at g1
        rw [t2, o2, Tryd.cellsI64] at g2
        rw [t3, o3, Tryd.cellsStrs] at g3
        rw [t4, o4, Tryd.cellsLats] at g4
        rw [t5, o5, Tryd.cellsRules] at g5
        simp only [List.drop_zero, List.drop_succ_cons, List.take_succ_cons, List.take_zero, List.getElem?_cons_zero, List.getElem?_cons_succ] at g0 g1 g2 g3 g4 g5
        obtain ⟨k0, e0, _, q0⟩ := DataW.trod_int Tryd.underlying3 g0
        obtain ⟨k1, e1, _, q1⟩ := DataW.trod_int Tryd.underlying2 g1
        obtain ⟨k2, e2, _, q2⟩ := DataW.trod_int Tryd.underlying2 g2
        simp only [List.cons.injEq, and_true] at e0 e1 e2
        subst e0 e1 e2
        obtain ⟨a1, n1, c1, rfl⟩ := sl_shape Tryd.underlying27 g3
        obtain ⟨a2, n2, c2, rfl⟩ := sl_shape Tryd.underlying28 g4
        obtain ⟨a3, n3, c3, rfl⟩ := sl_shape Tryd.underlying29 g5
        exact ⟨k0, k1, k2, a1, n1, c1, a2, n2, c2, a3, n3, c3, rfl, wf_r64 q0, _, _, g4⟩
set_option maxRecDepth 100000 in
/-- The parts of a lattice. -/
theorem open_parts {fuel : Nat} {v : Value} {x : DataW H × List MemPlace} (h : DataW.trod enc Tryd.prog w 0 (fun _ => true) true fuel 28 [v] = some x) : ∃ (a : Option Addr) (n c : Nat) (pk pl ph : Int), v = .slice a n c ∧ PF w (.slice a n c) n pk pl ph := by
  rcases open_row Tryd.underlying28 h with ⟨rfl, _⟩ | ⟨ad, len, cap, n, elems, sp, rfl, hfu, hd, hlen, hcap, hlc, hcm, hel⟩
  · exact ⟨_, _, _, 0, 0, 0, rfl, pf_nil w⟩
  unfold maxLen at hcm
  have hex : ∀ i, i < len → ∃ q : SxV, (∀ j, j < 6 → w.cell? ((ad.add (i * 6)).add j) = q.cs[j]?) ∧ ∃ pk pl ph a1 n1 c1 a2 n2 c2 a3 n3 c3, q = ⟨.int .i64 pk, .int .i64 pl, .int .i64 ph, .slice a1 n1 c1, .slice a2 n2 c2, .slice a3 n3 c3⟩ := by
    intro i hi
    obtain ⟨cs', z, h1, h2, h3⟩ := hel i hi
    rw [Tryd.cellsLat] at h1
    obtain ⟨k, lo, hi', a1, n1, c1, a2, n2, c2, a3, n3, c3, e, _⟩ := lat_shape h2
    obtain ⟨_, _, hc⟩ := World.cells?_some h1
    exact ⟨⟨.int .i64 k, .int .i64 lo, .int .i64 hi', .slice a1 n1 c1, .slice a2 n2 c2, .slice a3 n3 c3⟩, fun j hj => by rw [hc j hj, e]; rfl, k, lo, hi', a1, n1, c1, a2, n2, c2, a3, n3, c3, rfl⟩
  by_cases h0 : len = 0
  · subst h0
    exact ⟨_, _, _, 0, 0, 0, rfl, [], ⟨some ad, cap, rfl, hlc, by omega, fun h => by simp at h⟩, rfl, fun t h => by simp at h⟩
  have hsp : ad.spot = none := by
    obtain ⟨y, hc, _⟩ := hex 0 (by omega)
    have := hc 0 (by omega)
    simpa [Addr.add] using World.cell?_spot (w := w) (a := (ad.add (0 * 6)).add 0) this
  obtain ⟨b, o, sp2⟩ := ad
  simp only at hsp
  subst hsp
  haveI : Inhabited SxV := ⟨⟨.int .i64 0, .int .i64 0, .int .i64 0, .int .i64 0, .int .i64 0, .int .i64 0⟩⟩
  obtain ⟨f, hf⟩ := Go.Deep.choose_lt hex
  have hget : ∀ (i : Nat) (q : Nat), (List.range len)[i]? = some q → i < len ∧ q = i := by
    intro i q hr
    obtain ⟨h1, h2⟩ := List.getElem?_eq_some_iff.1 hr
    simp at h1 h2
    exact ⟨h1, h2.symm⟩
  have hcell : ∀ i j, i < len → j < 6 → w.cell? ⟨b, o + i * 6 + j, none⟩ = (f i).cs[j]? := by
    intro i j hi hj
    have := (hf i hi).1 j hj
    rwa [plain_add, plain_add] at this
  obtain ⟨pk, pl, ph, a1, n1, c1, a2, n2, c2, a3, n3, c3, hq⟩ := (hf 0 (by omega)).2
  refine ⟨_, _, _, pk, pl, ph, rfl, (List.range len).map f, ⟨some ⟨b, o, none⟩, cap, by simp, by simpa using hlc, by omega, fun _ => ⟨b, o, rfl, World.block_lt_of_cell? w _ (hcell 0 0 (by omega) (by omega)), fun i t ht => ?_⟩⟩, by simp, fun t ht => ?_⟩
  · rw [List.getElem?_map] at ht
    obtain ⟨q', hq', rfl⟩ := Option.map_eq_some_iff.1 ht
    obtain ⟨h1, rfl⟩ := hget i q' hq'
    exact ⟨hcell q' 0 h1 (by omega), hcell q' 1 h1 (by omega), hcell q' 2 h1 (by omega), hcell q' 3 h1 (by omega), hcell q' 4 h1 (by omega), hcell q' 5 h1 (by omega)⟩
  · rw [List.getElem?_map] at ht
    obtain ⟨q', hq', rfl⟩ := Option.map_eq_some_iff.1 ht
    obtain ⟨_, rfl⟩ := hget 0 q' hq'
    exact ⟨a1, n1, c1, a2, n2, c2, a3, n3, c3, hq⟩
set_option maxRecDepth 100000 in
theorem typ_shape {fuel : Nat} {cs : List Value} {x : DataW H × List MemPlace} (h : DataW.trod enc Tryd.prog w 0 (fun _ => true) true fuel 33 cs = some x) :
    ∃ s k lo hi a1 n1 c1 a2 n2 c2 a3 n3 c3 pk pl ph, cs = [.int .i64 s, .int .i64 k, .int .i64 lo, .int .i64 hi, .slice a1 n1 c1, .slice a2 n2 c2, .slice a3 n3 c3] ∧ R64 s ∧ R64 k ∧ PF w (.slice a2 n2 c2) n2 pk pl ph := by
    obtain ⟨f0, f1, hu, t0, t1, o0, o1⟩ := typ_fields
    obtain ⟨xs, m, hm, hxx, hl, hlx, hf⟩ := DataW.trod_struct hu h
    match xs, hlx with
    | [y0, y1], _ =>
      have g0 := hf 0 f0 rfl
      have g1 := hf 1 f1 rfl
      rw [Tryd.cellsTyp] at hl
      match cs, hl with
      | [v0, v1, v2, v3, v4, v5, v6], _ =>
        rw [t0, o0, Tryd.cellsInt] at g0
        rw [t1, o1, Tryd.cellsLat] at g1
        simp only [List.drop_zero, List.drop_succ_cons, List.take_succ_cons, List.take_zero, List.getElem?_cons_zero, List.getElem?_cons_succ] at g0 g1
        obtain ⟨k0, e0, _, q0⟩ := DataW.trod_int Tryd.underlying3 g0
        simp only [List.cons.injEq, and_true] at e0
        subst e0
        obtain ⟨k, lo, hi, a1, n1, c1, a2, n2, c2, a3, n3, c3, e, rk, fu, x', hp⟩ := lat_shape g1
        obtain ⟨a, n', c, pk, pl, ph, e2, hpf⟩ := open_parts hp
        cases e2
        simp only [List.cons.injEq, and_true] at e
        obtain ⟨rfl, rfl, rfl, rfl, rfl, rfl⟩ := e
        exact ⟨k0, k, lo, hi, a1, n1, c1, a2, n2, c2, a3, n3, c3, pk, pl, ph, rfl, wf_r64 q0, rk, hpf⟩
set_option maxRecDepth 100000 in
/-- An expression. -/
theorem open_ex : ∀ (F fuel : Nat), fuel < F → ∀ (cs : List Value) (x : DataW H × List MemPlace), DataW.trod enc Tryd.prog w 0 (fun _ => true) true fuel 36 cs = some x → ∃ (y : XX) (t : Ex), cs = y.q.cs ∧ ED w y t := by
  intro F
  induction F with
  | zero => intro fuel h; omega
  | succ F ih =>
    intro fuel hF cs x h
    obtain ⟨f0, f1, f2, f3, f4, f5, hu, t0, t1, t2, t3, t4, t5, o0, o1, o2, o3, o4, o5⟩ := ex_fields
    obtain ⟨xs, m, hm, hxx, hl, hlx, hf⟩ := DataW.trod_struct hu h
    match xs, hlx with
    | [y0, y1, y2, y3, y4, y5], _ =>
      have g0 := hf 0 f0 rfl
      have g1 := hf 1 f1 rfl
      have g2 := hf 2 f2 rfl
      have g3 := hf 3 f3 rfl
      have g4 := hf 4 f4 rfl
      have g5 := hf 5 f5 rfl
      rw [Tryd.cellsEx] at hl
      match cs, hl with
      | [v0, v1, v2, v3, v4, v5, v6, v7, v8, v9, v10, v11], _ =>
        rw [t0, o0, Tryd.cellsInt] at g0
        rw [t1, o1, Tryd.cellsTyp] at g1
        rw [t2, o2, Tryd.cellsI64] at g2
        rw [t3, o3, Tryd.cellsStr] at g3
        rw [t4, o4, Tryd.cellsInt] at g4
        rw [t5, o5, Tryd.cellsExs] at g5
        simp only [List.drop_zero, List.drop_succ_cons, List.take_succ_cons, List.take_zero, List.getElem?_cons_zero, List.getElem?_cons_succ] at g0 g1 g2 g3 g4 g5
        obtain ⟨k0, e0, _, q0⟩ := DataW.trod_int Tryd.underlying3 g0
        obtain ⟨k2, e2, _, q2⟩ := DataW.trod_int Tryd.underlying2 g2
        obtain ⟨k4, e4, _, q4⟩ := DataW.trod_int Tryd.underlying3 g4
        simp only [List.cons.injEq, and_true] at e0 e2 e4
        subst e0 e2 e4
        obtain ⟨s, k, lo, hi, a1, n1, c1, a2, n2, c2, a3, n3, c3, pk, pl, ph, e, rs, rk, hpf⟩ := typ_shape g1
        simp only [List.cons.injEq, and_true] at e
        obtain ⟨rfl, rfl, rfl, rfl, rfl, rfl, rfl⟩ := e
        have hp : ∃ ts, Kd w v11 ts := by
          rcases open_row Tryd.underlying34 g5 with ⟨rfl, _⟩ | ⟨ad, len, cap, n, elems, sp, rfl, hfu, hd, hlen, hcap, hlc, hcm, hel⟩
          · exact ⟨[], kd_nil w⟩
          unfold maxLen at hcm
          have hex : ∀ i, i < len → ∃ q : XX × Ex, (∀ j, j < 12 → w.cell? ((ad.add (i * 12)).add j) = q.1.q.cs[j]?) ∧ ED w q.1 q.2 := by
            intro i hi
            obtain ⟨cs', z, h1, h2, h3⟩ := hel i hi
            rw [Tryd.cellsEx] at h1
            obtain ⟨y, t, e, hy⟩ := ih n (by omega) cs' z h2
            obtain ⟨_, _, hc⟩ := World.cells?_some h1
            exact ⟨(y, t), fun j hj => by rw [hc j hj, e], hy⟩
          by_cases h0 : len = 0
          · subst h0
            exact ⟨[], [], ⟨some ad, cap, rfl, hlc, by omega, fun h => by simp at h⟩, rfl, fun i y u hy => by simp at hy⟩
          have hsp : ad.spot = none := by
            obtain ⟨y, hc, _⟩ := hex 0 (by omega)
            have := hc 0 (by omega)
            simpa [Addr.add] using World.cell?_spot (w := w) (a := (ad.add (0 * 12)).add 0) this
          obtain ⟨b, o, sp2⟩ := ad
          simp only at hsp
          subst hsp
          haveI : Inhabited (XX × Ex) := ⟨⟨⟨0, 0, 0, 0, 0, .slice none 0 0, .slice none 0 0, .slice none 0 0, 0, .slice none 0 0, 0, .slice none 0 0⟩, z0⟩⟩
          obtain ⟨f, hf⟩ := Go.Deep.choose_lt hex
          have hget : ∀ (i : Nat) (q : Nat), (List.range len)[i]? = some q → i < len ∧ q = i := by
            intro i q hr
            obtain ⟨h1, h2⟩ := List.getElem?_eq_some_iff.1 hr
            simp at h1 h2
            exact ⟨h1, h2.symm⟩
          have hcell : ∀ i j, i < len → j < 12 → w.cell? ⟨b, o + i * 12 + j, none⟩ = (f i).1.q.cs[j]? := by
            intro i j hi hj
            have := (hf i hi).1 j hj
            rwa [plain_add, plain_add] at this
          refine ⟨(List.range len).map fun i => (f i).2, (List.range len).map fun i => (f i).1, ⟨some ⟨b, o, none⟩, cap, by simp, by simpa using hlc, by omega, fun _ => ⟨b, o, rfl, World.block_lt_of_cell? w _ (hcell 0 0 (by omega) (by omega)), fun i t ht => ?_⟩⟩, by simp, fun i y u hy hu => ?_⟩
          · rw [List.getElem?_map, List.getElem?_map] at ht
            obtain ⟨q, hq, rfl⟩ := Option.map_eq_some_iff.1 ht
            obtain ⟨q', hq', rfl⟩ := Option.map_eq_some_iff.1 hq
            obtain ⟨h1, rfl⟩ := hget i q' hq'
            exact ⟨hcell q' 0 h1 (by omega), hcell q' 1 h1 (by omega), hcell q' 2 h1 (by omega), hcell q' 3 h1 (by omega), hcell q' 4 h1 (by omega), hcell q' 5 h1 (by omega), hcell q' 6 h1 (by omega), hcell q' 7 h1 (by omega), hcell q' 8 h1 (by omega), hcell q' 9 h1 (by omega), hcell q' 10 h1 (by omega), hcell q' 11 h1 (by omega)⟩
          · rw [List.getElem?_map] at hy hu
            obtain ⟨q, hq, rfl⟩ := Option.map_eq_some_iff.1 hy
            obtain ⟨q', hq', rfl⟩ := Option.map_eq_some_iff.1 hu
            obtain ⟨h1, rfl⟩ := hget i q hq
            obtain ⟨_, rfl⟩ := hget _ q' hq'
            exact (hf _ h1).2
        obtain ⟨ts, ps, p1, p2, p3⟩ := hp
        exact ⟨⟨k0, s, k, lo, hi, .slice a1 n1 c1, .slice a2 n2 c2, .slice a3 n3 c3, k2, v9, k4, v11⟩, ⟨k0, s, k, n2, pk, pl, ph, k2, k4, ts⟩, rfl, .mk ps rfl rfl rfl rfl rfl (wf_r64 q0) rs rk (wf_r64 q2) (wf_r64 q4) hpf p1 p2 p3⟩
set_option maxRecDepth 100000 in
/-- An expression by value. -/
theorem open_exv {base : Nat} {v : Value} {d : DataW H} {p : List MemPlace} (hv : Value.okWide Tryd.prog w .any base 36 v) (h : DataW.Trod enc Tryd.prog w 0 (fun _ => true) true 36 v d p) :
    ∃ (opa sra kda loa hia : Int) (vna vpa vra : Value) (na : Int) (vta : Value) (pta : Int) (vka : Value) (t : Ex), v = .agg #[.int .i64 opa, .int .i64 sra, .int .i64 kda, .int .i64 loa, .int .i64 hia, vna, vpa, vra, .int .i64 na, vta, .int .i64 pta, vka] ∧ ED w ⟨opa, sra, kda, loa, hia, vna, vpa, vra, na, vta, pta, vka⟩ t := by
  obtain ⟨cs, rfl, _⟩ := okWide_struct Tryd.underlying36 hv
  obtain ⟨fuel, hf⟩ := h
  obtain ⟨y, t, e, r⟩ := open_ex _ fuel (Nat.lt_succ_self _) _ _ hf
  obtain ⟨opa, sra, kda, loa, hia, vna, vpa, vra, na, vta, pta, vka⟩ := y
  have e3 : cs = #[.int .i64 opa, .int .i64 sra, .int .i64 kda, .int .i64 loa, .int .i64 hia, vna, vpa, vra, .int .i64 na, vta, .int .i64 pta, vka] := by rw [← Array.toArray_toList (xs := cs), show cs.toList = _ from e]; rfl
  subst e3
  exact ⟨opa, sra, kda, loa, hia, vna, vpa, vra, na, vta, pta, vka, t, rfl, r⟩
set_option maxRecDepth 100000 in
/-- A function by value. -/
theorem open_fnv {base : Nat} {v : Value} {d : DataW H} {p : List MemPlace} (hv : Value.okWide Tryd.prog w .any base 43 v) (h : DataW.Trod enc Tryd.prog w 0 (fun _ => true) true 43 v d p) :
    ∃ (u0 u1 u2 : Value) (res : Int) (opa sra kda loa hia : Int) (vna vpa vra : Value) (na : Int) (vta : Value) (pta : Int) (vka : Value) (t : Ex), v = .agg #[u0, u1, u2, .int .i64 res, .int .i64 opa, .int .i64 sra, .int .i64 kda, .int .i64 loa, .int .i64 hia, vna, vpa, vra, .int .i64 na, vta, .int .i64 pta, vka] ∧ ED w ⟨opa, sra, kda, loa, hia, vna, vpa, vra, na, vta, pta, vka⟩ t := by
  obtain ⟨cs0, rfl, _⟩ := okWide_struct Tryd.underlying43 hv
  obtain ⟨fuel, h⟩ := h
  generalize hcs : (Value.agg cs0).cells.toList = cs at h
  have hcs2 : cs0.toList = cs := hcs
  obtain ⟨f0, f1, f2, f3, f4, hu, t0, t1, t2, t3, t4, o0, o1, o2, o3, o4⟩ := fn_fields
  obtain ⟨xs, m, hm, hxx, hl, hlx, hf⟩ := DataW.trod_struct hu h
  match xs, hlx with
  | [y0, y1, y2, y3, y4], _ =>
    have g0 := hf 0 f0 rfl
    have g1 := hf 1 f1 rfl
    have g2 := hf 2 f2 rfl
    have g3 := hf 3 f3 rfl
    have g4 := hf 4 f4 rfl
    rw [Tryd.cellsFn] at hl
    match cs, hl with
    | [v0, v1, v2, v3, v4, v5, v6, v7, v8, v9, v10, v11, v12, v13, v14, v15], _ =>
      rw [t0, o0, Tryd.cellsStr] at g0
      rw [t1, o1, Tryd.cellsStr] at g1
      rw [t2, o2, Tryd.cellsPars] at g2
      rw [t3, o3, Tryd.cellsInt] at g3
      rw [t4, o4, Tryd.cellsEx] at g4
      simp only [List.drop_zero, List.drop_succ_cons, List.take_succ_cons, List.take_zero, List.getElem?_cons_zero, List.getElem?_cons_succ] at g0 g1 g2 g3 g4
      obtain ⟨k3, e3, _, q3⟩ := DataW.trod_int Tryd.underlying3 g3
      simp only [List.cons.injEq, and_true] at e3
      subst e3
      obtain ⟨y, t, e, r⟩ := open_ex _ _ (Nat.lt_succ_self _) _ _ g4
      obtain ⟨opa, sra, kda, loa, hia, vna, vpa, vra, na, vta, pta, vka⟩ := y
      simp only [XX.q, TwV.cs, List.cons.injEq, and_true] at e
      obtain ⟨rfl, rfl, rfl, rfl, rfl, rfl, rfl, rfl, rfl, rfl, rfl, rfl⟩ := e
      have e3 : cs0 = #[v0, v1, v2, .int .i64 k3, .int .i64 opa, .int .i64 sra, .int .i64 kda, .int .i64 loa, .int .i64 hia, v9, v10, v11, .int .i64 na, v13, .int .i64 pta, v15] := by rw [← Array.toArray_toList (xs := cs0), hcs2]
      subst e3
      exact ⟨v0, v1, v2, k3, opa, sra, kda, loa, hia, v9, v10, v11, na, v13, pta, v15, t, rfl, r⟩
end
end Go.Proofs.YtdacalplnggnoaaDoor
