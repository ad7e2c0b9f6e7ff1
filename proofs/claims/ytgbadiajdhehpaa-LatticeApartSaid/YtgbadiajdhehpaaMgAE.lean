/- Texts in one: LatOpn, LatLwA. -/
import Derived.Test.YtgbadiajdhehpaaMgAD
import Derived.SliceStrings
import Derived.Deep.Strs
import Derived.ProofKit
import Derived.SizedLaws
import Derived.Test.YtgbadiajdhehpaaRows
import Derived.Deep.CutRange
set_option linter.unusedVariables false
set_option linter.unusedSimpArgs false
/- Descriptions that came in, opened. What a row may take is asked of the form's own reach. -/
namespace Go.Proofs.Ytgbadiajdhehpaa
open Go.RowKit Go.ChangeShapes Go.WideShapes

theorem wf_r64 {n : Int} (h : (Lit.int .i64 n).wf = true) : R64 n := by
  have h1 : IntKind.i64.min = -9223372036854775808 := by rfl
  have h2 : IntKind.i64.max = 9223372036854775807 := by rfl
  have : (decide (IntKind.i64.min ≤ n) && decide (n ≤ IntKind.i64.max)) = true := h
  rw [h1, h2] at this
  simpa using this
section
variable {H : Type} {enc : TypeId × Value → H} {P : Program} {w : World} {base : Nat} {spare : TypeId → Bool} {held : Bool}
/-- Every weight is within the form's reach. -/
def Fits (P : Program) (t : TypeId) (d : DataW H) : Prop := ∀ n ∈ d.weights P t, n ≤ reachBytes
theorem fits_each : ∀ {ts : List TypeId} {ds : List (DataW H)}, (∀ n ∈ DataW.weightsEach P ts ds, n ≤ reachBytes) → ∀ (i : Nat) (t : TypeId) (d : DataW H), ts[i]? = some t → ds[i]? = some d → Fits P t d :=
  fun h _ _ _ ht hd n hn => h n (DataW.weights_mem_each ht hd n hn)
theorem fits_all : ∀ {e : TypeId} {ds : List (DataW H)}, (∀ n ∈ DataW.weightsAll P e ds, n ≤ reachBytes) → ∀ d ∈ ds, Fits P e d
  | _, [], _, d, hd => by cases hd
  | e, x :: r, h, d, hd => by
    simp only [DataW.weightsAll, List.mem_append] at h
    rcases List.mem_cons.1 hd with rfl | hd
    · exact fun n hn => h n (.inl hn)
    · exact fits_all (fun n hn => h n (.inr hn)) d hd
end
theorem Try.cellsLat : Try.prog.cellsOf 26 = 6 := by kernel_rfl
theorem Try.cellsRule : Try.prog.cellsOf 46 = 2 := by kernel_rfl
theorem Try.cellsStrs : Try.prog.cellsOf 22 = 1 := by kernel_rfl
theorem Try.cellsLats : Try.prog.cellsOf 23 = 1 := by kernel_rfl
theorem Try.cellsRules : Try.prog.cellsOf 24 = 1 := by kernel_rfl
theorem Try.cellsStr : Try.prog.cellsOf 9 = 1 := by kernel_rfl
theorem Try.cellsInt : Try.prog.cellsOf 3 = 1 := by kernel_rfl
theorem Try.cellsI64 : Try.prog.cellsOf 2 = 1 := by kernel_rfl
theorem Try.bytesStr : Try.prog.bytesOf 9 = 16 := by kernel_rfl
theorem plain_add (a o j : Nat) : (⟨a, o, none⟩ : Addr).add j = ⟨a, o + j, none⟩ := by unfold Addr.add; split <;> simp_all
/-- A slice that came in: nil, or a row of elements, each read with less fuel. -/
theorem open_row {H : Type} {enc : TypeId × Value → H} {w : World} {fuel : Nat} {S e : TypeId} {v : Value} {y : DataW H × List MemPlace} (ht : Try.prog.underlying S = some (.slice e)) (h : DataW.trod enc Try.prog w 0 (fun _ => true) true fuel S [v] = some y) :
    (v = .slice none 0 0 ∧ y.1 = .nil) ∨ ∃ (ad : Addr) (len cap n : Nat) (elems spare : List (DataW H)), v = .slice (some ad) len cap ∧ fuel = n + 1 ∧ y.1 = .slice elems spare ∧ elems.length = len ∧ elems.length + spare.length = cap ∧ len ≤ cap ∧ cap ≤ maxLen ∧
      ∀ i, i < len → ∃ cs' z, w.cells? 0 (ad.add (i * Try.prog.cellsOf e)) (Try.prog.cellsOf e) = some cs' ∧ DataW.trod enc Try.prog w 0 (fun _ => true) true n e cs' = some z ∧ elems[i]? = some z.1 := by
  rcases DataW.trod_slice ht h with ⟨e1, e2⟩ | ⟨a, len, cap, elems, rest, n, hf, e1, e2, _, hl, hm, hlen, hel, hsp, _⟩
  · simp only [List.cons.injEq, and_true] at e1
    exact .inl ⟨e1, by rw [e2]⟩
  · simp only [List.cons.injEq, and_true] at e1
    refine .inr ⟨a, len, cap, n, elems.map (·.1), rest.map (·.1), e1, hf, by rw [e2], by simp [hlen], by have := (hsp rfl).1; simp [hlen, this]; omega, hl, hm, fun i hi => ?_⟩
    have := hel i hi
    rw [List.getElem?_eq_getElem (by omega)] at this
    rw [Option.bind_eq_some_iff] at this
    obtain ⟨cs', h1, h2⟩ := this
    exact ⟨cs', elems[i]'(by omega), h1, h2, by rw [List.getElem?_map, List.getElem?_eq_getElem (by omega)]; rfl⟩
set_option maxRecDepth 100000 in
/-- A slice of strings. -/
theorem open_sl {H : Type} {enc : TypeId × Value → H} {w : World} {fuel : Nat} {v : Value} {x : DataW H × List MemPlace} (h : DataW.trod enc Try.prog w 0 (fun _ => true) true fuel 22 [v] = some x) :
    ∃ l : List Str, Rd w v (ss l) ∧ Ok l ∧ (Fits Try.prog 22 x.1 → l.length * 16 ≤ reachBytes) := by
  rcases open_row Try.underlying22 h with ⟨rfl, _⟩ | ⟨ad, len, cap, n, elems, sp, rfl, _, hd, hlen, hcap, hlc, hcm, hel⟩
  · exact ⟨[], ⟨none, 0, rfl, Nat.le_refl _, by omega, fun h => by simp [ss] at h⟩, (fun y hy => by cases hy), fun _ => by simp⟩
  unfold maxLen at hcm
  have hex : ∀ i, i < len → ∃ s : ByteArray, w.cell? (ad.add i) = some (.string s) ∧ s.size ≤ maxLen := by
    intro i hi
    obtain ⟨cs', z, h1, h2, _⟩ := hel i hi
    rw [Try.cellsStr, Nat.mul_one] at h1
    obtain ⟨s, e, _, hs⟩ := DataW.trod_string Try.underlying9 h2
    subst e
    obtain ⟨_, _, hc⟩ := World.cells?_some h1
    refine ⟨s, ?_, hs⟩
    have := hc 0 (by omega)
    simpa [Addr.add] using this
  have hfit : Fits Try.prog 22 x.1 → len * 16 ≤ reachBytes := fun hf => by
    rw [hd] at hf
    have := hf ((elems.length + sp.length) * Try.prog.bytesOf 9) (by simp [DataW.weights, Try.underlying22])
    rw [Try.bytesStr] at this
    omega
  haveI : Inhabited ByteArray := ⟨⟨#[]⟩⟩
  obtain ⟨f, hf⟩ := Go.Deep.choose_lt hex
  have hget : ∀ (i : Nat) (q : Nat), (List.range len)[i]? = some q → i < len ∧ q = i := by
    intro i q hr
    obtain ⟨h1, h2⟩ := List.getElem?_eq_some_iff.1 hr
    simp at h1 h2
    exact ⟨h1, h2.symm⟩
  refine ⟨(List.range len).map fun i => (f i).data.toList, ?_, fun y hy => ?_, fun h => by simpa using hfit h⟩
  · refine ⟨some ad, cap, by rw [ss_length]; simp, by rw [ss_length]; simpa using hlc, by omega, fun h0 => ?_⟩
    rw [ss_length, List.length_map, List.length_range] at h0
    have h6 := (hf 0 h0).1
    rw [show ad.add 0 = ad by rfl] at h6
    have hx := spot_none h6
    refine ⟨ad.block, ad.off, by rw [← hx], World.block_lt_of_cell? w _ h6, fun j u hu => ?_⟩
    simp only [ss, List.map_map, List.getElem?_map] at hu
    obtain ⟨q, hq, rfl⟩ := Option.map_eq_some_iff.1 hu
    obtain ⟨h1, rfl⟩ := hget j q hq
    have h7 := (hf q h1).1
    rw [hx, Addr.add_mid] at h7
    rw [h7]
    rfl
  · obtain ⟨q, hq, rfl⟩ := List.mem_map.1 hy
    have := (hf q (by simpa using hq)).2
    unfold maxLen at this
    have e : (f q).data.toList.length = (f q).size := Array.length_toList
    omega
set_option maxRecDepth 100000 in
theorem rule_fields : ∃ f0 f1 : Field, Try.prog.underlying 46 = some (.struct #[f0, f1]) ∧ f0.type = 22 ∧ f1.type = 9 ∧ f0.offset = 0 ∧ f1.offset = 1 :=
  ⟨_, _, Try.underlying46, rfl, rfl, rfl, rfl⟩
set_option maxRecDepth 100000 in
/-- A slice of rules. -/
theorem open_rl {H : Type} {enc : TypeId × Value → H} {w : World} {fuel : Nat} {v : Value} {x : DataW H × List MemPlace} (h : DataW.trod enc Try.prog w 0 (fun _ => true) true fuel 24 [v] = some x) (hfit : Fits Try.prog 24 x.1) :
    ∃ rs : List Gr, RuR w v rs ∧ OkR rs := by
  rcases open_row Try.underlying24 h with ⟨rfl, _⟩ | ⟨ad, len, cap, n, elems, sp, rfl, _, hd, hlen, hcap, hlc, hcm, hel⟩
  · exact ⟨[], rur_nil w, fun r hr => by cases hr⟩
  unfold maxLen at hcm
  have hfe : ∀ d ∈ elems, Fits Try.prog 46 d := by
    rw [hd] at hfit
    refine fits_all fun m hm => hfit m ?_
    simp only [DataW.weights, Try.underlying24, List.mem_cons, List.mem_append]
    exact .inr (.inl hm)
  have hex : ∀ i, i < len → ∃ q : Value × Gr, (w.cell? ((ad.add (i * 2)).add 0) = some q.1 ∧ w.cell? ((ad.add (i * 2)).add 1) = some (.string (ba q.2.2))) ∧ Rd w q.1 (ss q.2.1) ∧ Ok q.2.1 ∧ q.2.2.length ≤ 9223372036854775807 ∧ q.2.1.length ≤ 8796093021952 := by
    intro i hi
    obtain ⟨cs', z, h1, h2, h3⟩ := hel i hi
    rw [Try.cellsRule] at h1
    have hz := hfe z.1 (List.mem_of_getElem? h3)
    obtain ⟨f0, f1, hu, t0, t1, o0, o1⟩ := rule_fields
    obtain ⟨xs, m, _, hzz, hl, hlx, hf⟩ := DataW.trod_struct hu h2
    match xs, hlx with
    | [y0, y1], _ =>
      have g0 := hf 0 f0 rfl
      have g1 := hf 1 f1 rfl
      rw [t0, o0, Try.cellsStrs] at g0
      rw [t1, o1, Try.cellsStr] at g1
      rw [Try.cellsRule] at hl
      match cs', hl with
      | [v0, v1], _ =>
        simp only [List.drop_zero, List.drop_succ_cons, List.take_succ_cons, List.take_zero, List.getElem?_cons_zero, List.getElem?_cons_succ] at g0 g1
        obtain ⟨l, r1, r2, r3⟩ := open_sl g0
        obtain ⟨s, e, _, hs⟩ := DataW.trod_string Try.underlying9 g1
        simp only [List.cons.injEq, and_true] at e
        subst e
        obtain ⟨_, _, hc⟩ := World.cells?_some h1
        refine ⟨(v0, l, s.data.toList), ⟨by simpa using hc 0 (by omega), by simpa [ba_of] using hc 1 (by omega)⟩, r1, r2, ?_, ?_⟩
        · unfold maxLen at hs
          have e : s.data.toList.length = s.size := Array.length_toList
          show s.data.toList.length ≤ _
          omega
        · have hz0 : Fits Try.prog 22 y0.1 := by
            rw [hzz] at hz
            refine fits_each (ts := [22, 9]) (ds := [y0.1, y1.1]) (fun m hm => hz m ?_) 0 _ _ rfl rfl
            simp only [DataW.weights, hu, List.map_cons, List.map_nil, t0, t1]
            exact hm
          have := r3 hz0
          have hr : reachBytes = 140737488351232 := by rfl
          show l.length ≤ _
          omega
  by_cases h0 : len = 0
  · subst h0
    exact ⟨[], ⟨[], ⟨some ad, cap, rfl, hlc, by omega, fun h => by simp at h⟩, rfl, fun i t r ht => by simp at ht⟩, fun r hr => by cases hr⟩
  have hsp : ad.spot = none := by
    obtain ⟨y, hc, _⟩ := hex 0 (by omega)
    have := hc.1
    simpa [Addr.add] using World.cell?_spot (w := w) (a := (ad.add (0 * 2)).add 0) this
  obtain ⟨b, o, sp2⟩ := ad
  simp only at hsp
  subst hsp
  haveI : Inhabited (Value × Gr) := ⟨⟨.slice none 0 0, [], []⟩⟩
  obtain ⟨f, hf⟩ := Go.Deep.choose_lt hex
  have hget : ∀ (i : Nat) (q : Nat), (List.range len)[i]? = some q → i < len ∧ q = i := by
    intro i q hr
    obtain ⟨h1, h2⟩ := List.getElem?_eq_some_iff.1 hr
    simp at h1 h2
    exact ⟨h1, h2.symm⟩
  have c00 := (hf 0 (by omega)).1.1
  rw [plain_add, plain_add] at c00
  refine ⟨(List.range len).map fun i => (f i).2, ⟨(List.range len).map fun i => ((f i).1, .string (ba (f i).2.2)), ⟨_, _, by rw [List.length_map, List.length_range], by simpa using hlc, by omega, fun _ => ⟨b, o, rfl, World.block_lt_of_cell? w _ c00, fun i t ht => ?_⟩⟩, by simp, fun i t r ht hr => ?_⟩, fun r hr => ?_⟩
  · rw [List.getElem?_map] at ht
    obtain ⟨q, hq, rfl⟩ := Option.map_eq_some_iff.1 ht
    obtain ⟨h1, rfl⟩ := hget i q hq
    obtain ⟨⟨a1, a2⟩, _⟩ := hf q h1
    rw [plain_add, plain_add] at a1 a2
    exact ⟨a1, a2⟩
  · rw [List.getElem?_map] at ht hr
    obtain ⟨q, hq, rfl⟩ := Option.map_eq_some_iff.1 ht
    obtain ⟨q', hq', rfl⟩ := Option.map_eq_some_iff.1 hr
    obtain ⟨h1, rfl⟩ := hget i q hq
    obtain ⟨_, rfl⟩ := hget _ q' hq'
    exact ⟨(hf _ h1).2.1, rfl⟩
  · obtain ⟨q, hq, rfl⟩ := List.mem_map.1 hr
    exact (hf q (by simpa using hq)).2.2
set_option maxRecDepth 100000 in
theorem lat_fields : ∃ f0 f1 f2 f3 f4 f5 : Field, Try.prog.underlying 26 = some (.struct #[f0, f1, f2, f3, f4, f5]) ∧ f0.type = 3 ∧ f1.type = 2 ∧ f2.type = 2 ∧ f3.type = 22 ∧ f4.type = 23 ∧ f5.type = 24 ∧ f0.offset = 0 ∧ f1.offset = 1 ∧ f2.offset = 2 ∧ f3.offset = 3 ∧ f4.offset = 4 ∧ f5.offset = 5 :=
  ⟨_, _, _, _, _, _, Try.underlying26, rfl, rfl, rfl, rfl, rfl, rfl, rfl, rfl, rfl, rfl, rfl, rfl⟩
set_option maxRecDepth 100000 in
/-- A description. -/
theorem open_lat {H : Type} {enc : TypeId × Value → H} {w : World} : ∀ (F fuel : Nat), fuel < F → ∀ (cs : List Value) (x : DataW H × List MemPlace), DataW.trod enc Try.prog w 0 (fun _ => true) true fuel 26 cs = some x → Fits Try.prog 26 x.1 → ∃ (y : LX) (t : Lat), cs = y.q.cs ∧ LD w y t := by
  intro F
  induction F with
  | zero => intro fuel h; omega
  | succ F ih =>
    intro fuel hF cs x h hfit
    obtain ⟨f0, f1, f2, f3, f4, f5, hu, t0, t1, t2, t3, t4, t5, o0, o1, o2, o3, o4, o5⟩ := lat_fields
    obtain ⟨xs, m, hm, hxx, hl, hlx, hf⟩ := DataW.trod_struct hu h
    match xs, hlx with
    | [y0, y1, y2, y3, y4, y5], _ =>
      have g0 := hf 0 f0 rfl
      have g1 := hf 1 f1 rfl
      have g2 := hf 2 f2 rfl
      have g3 := hf 3 f3 rfl
      have g4 := hf 4 f4 rfl
      have g5 := hf 5 f5 rfl
      rw [Try.cellsLat] at hl
      match cs, hl with
      | [v0, v1, v2, v3, v4, v5], _ =>
        rw [t0, o0, Try.cellsInt] at g0
        rw [t1, o1, Try.cellsI64] at g1
        rw [t2, o2, Try.cellsI64] at g2
        rw [t3, o3, Try.cellsStrs] at g3
        rw [t4, o4, Try.cellsLats] at g4
        rw [t5, o5, Try.cellsRules] at g5
        simp only [List.drop_zero, List.drop_succ_cons, List.take_succ_cons, List.take_zero, List.getElem?_cons_zero, List.getElem?_cons_succ] at g0 g1 g2 g3 g4 g5
        obtain ⟨k0, e0, _, q0⟩ := DataW.trod_int Try.underlying3 g0
        obtain ⟨k1, e1, _, q1⟩ := DataW.trod_int Try.underlying2 g1
        obtain ⟨k2, e2, _, q2⟩ := DataW.trod_int Try.underlying2 g2
        simp only [List.cons.injEq, and_true] at e0 e1 e2
        subst e0 e1 e2
        have hz : ∀ (i : Nat) (t : TypeId) (d : DataW H), [3, 2, 2, 22, 23, 24][i]? = some t → [y0.1, y1.1, y2.1, y3.1, y4.1, y5.1][i]? = some d → Fits Try.prog t d := by
          refine fits_each (fun n hn => hfit n ?_)
          rw [hxx]
          simp only [DataW.weights, hu, List.map_cons, List.map_nil, t0, t1, t2, t3, t4, t5]
          exact hn
        obtain ⟨ns, n1, n2, _⟩ := open_sl g3
        obtain ⟨rs, r1, r2⟩ := open_rl g5 (hz 5 _ _ rfl rfl)
        have hp : ∃ ts, LDs w v4 ts := by
          rcases open_row Try.underlying23 g4 with ⟨rfl, _⟩ | ⟨ad, len, cap, n, elems, sp, rfl, hfu, hd, hlen, hcap, hlc, hcm, hel⟩
          · exact ⟨[], lds_nil w⟩
          unfold maxLen at hcm
          have hfe : ∀ d ∈ elems, Fits Try.prog 26 d := by
            have hz4 := hz 4 _ _ rfl rfl
            rw [hd] at hz4
            refine fits_all fun m hm => hz4 m ?_
            simp only [DataW.weights, Try.underlying23, List.mem_cons, List.mem_append]
            exact .inr (.inl hm)
          have hex : ∀ i, i < len → ∃ q : LX × Lat, (∀ j, j < 6 → w.cell? ((ad.add (i * 6)).add j) = q.1.q.cs[j]?) ∧ LD w q.1 q.2 := by
            intro i hi
            obtain ⟨cs', z, h1, h2, h3⟩ := hel i hi
            rw [Try.cellsLat] at h1
            obtain ⟨y, t, e, hy⟩ := ih n (by omega) cs' z h2 (hfe z.1 (List.mem_of_getElem? h3))
            obtain ⟨_, _, hc⟩ := World.cells?_some h1
            exact ⟨(y, t), fun j hj => by rw [hc j hj, e], hy⟩
          by_cases h0 : len = 0
          · subst h0
            exact ⟨[], [], ⟨some ad, cap, rfl, hlc, by omega, fun h => by simp at h⟩, rfl, fun i y u hy => by simp at hy⟩
          have hsp : ad.spot = none := by
            obtain ⟨y, hc, _⟩ := hex 0 (by omega)
            have := hc 0 (by omega)
            simpa [Addr.add] using World.cell?_spot (w := w) (a := (ad.add (0 * 6)).add 0) this
          obtain ⟨b, o, sp2⟩ := ad
          simp only at hsp
          subst hsp
          haveI : Inhabited (LX × Lat) := ⟨⟨⟨0, 0, 0, .slice none 0 0, .slice none 0 0, .slice none 0 0⟩, ⟨0, 0, 0, [], [], []⟩⟩⟩
          obtain ⟨f, hf⟩ := Go.Deep.choose_lt hex
          have hget : ∀ (i : Nat) (q : Nat), (List.range len)[i]? = some q → i < len ∧ q = i := by
            intro i q hr
            obtain ⟨h1, h2⟩ := List.getElem?_eq_some_iff.1 hr
            simp at h1 h2
            exact ⟨h1, h2.symm⟩
          have hcell : ∀ i j, i < len → j < 6 → w.cell? ⟨b, o + i * 6 + j, none⟩ = (f i).1.q.cs[j]? := by
            intro i j hi hj
            have := (hf i hi).1 j hj
            rwa [plain_add, plain_add] at this
          refine ⟨(List.range len).map fun i => (f i).2, (List.range len).map fun i => (f i).1, ⟨some ⟨b, o, none⟩, cap, by simp, by simpa using hlc, by omega, fun _ => ⟨b, o, rfl, World.block_lt_of_cell? w _ (hcell 0 0 (by omega) (by omega)), fun i t ht => ?_⟩⟩, by simp, fun i y u hy hu => ?_⟩
          · rw [List.getElem?_map, List.getElem?_map] at ht
            obtain ⟨q, hq, rfl⟩ := Option.map_eq_some_iff.1 ht
            obtain ⟨q', hq', rfl⟩ := Option.map_eq_some_iff.1 hq
            obtain ⟨h1, rfl⟩ := hget i q' hq'
            exact ⟨hcell q' 0 h1 (by omega), hcell q' 1 h1 (by omega), hcell q' 2 h1 (by omega), hcell q' 3 h1 (by omega), hcell q' 4 h1 (by omega), hcell q' 5 h1 (by omega)⟩
          · rw [List.getElem?_map] at hy hu
            obtain ⟨q, hq, rfl⟩ := Option.map_eq_some_iff.1 hy
            obtain ⟨q', hq', rfl⟩ := Option.map_eq_some_iff.1 hu
            obtain ⟨h1, rfl⟩ := hget i q hq
            obtain ⟨_, rfl⟩ := hget _ q' hq'
            exact (hf _ h1).2
        obtain ⟨ts, ps, p1, p2, p3⟩ := hp
        exact ⟨⟨k0, k1, k2, v3, v4, v5⟩, ⟨k0, k1, k2, ns, ts, rs⟩, rfl, .mk ps rfl rfl rfl (wf_r64 q0) (wf_r64 q1) (wf_r64 q2) n1 n2 r1 r2 p1 p2 p3⟩
set_option maxRecDepth 100000 in
/-- A description by value. -/
theorem open_latv {H : Type} {enc : TypeId × Value → H} {w : World} {base : Nat} {v : Value} {d : DataW H} {p : List MemPlace} (hv : Value.okWide Try.prog w .any base 26 v) (h : DataW.Trod enc Try.prog w 0 (fun _ => true) true 26 v d p) (hfit : Fits Try.prog 26 d) :
    ∃ (k lo hi : Int) (an : Option Addr) (nn cn : Nat) (ap : Option Addr) (np cp : Nat) (ar : Option Addr) (nr cr : Nat) (t : Lat), v = .agg #[.int .i64 k, .int .i64 lo, .int .i64 hi, .slice an nn cn, .slice ap np cp, .slice ar nr cr] ∧ LO w k lo hi an nn cn ap np cp ar nr cr t := by
  obtain ⟨cs, rfl, _⟩ := okWide_struct Try.underlying26 hv
  obtain ⟨fuel, hf⟩ := h
  obtain ⟨y, t, e, r⟩ := open_lat _ fuel (Nat.lt_succ_self _) _ _ hf hfit
  obtain ⟨k, lo, hi, an, nn, cn, ap, np, cp, ar, nr, cr, rfl, ho⟩ := r.open
  have e3 : cs = #[.int .i64 k, .int .i64 lo, .int .i64 hi, .slice an nn cn, .slice ap np cp, .slice ar nr cr] := by rw [← Array.toArray_toList (xs := cs), show cs.toList = _ from e]; rfl
  subst e3
  exact ⟨k, lo, hi, an, nn, cn, ap, np, cp, ar, nr, cr, t, rfl, ho⟩
end Go.Proofs.Ytgbadiajdhehpaa

/- LatticeApart. Bounds on sizes alone. -/
namespace Go.Proofs.Ytgbadiajdhehpaa
open Go.RowKit

/-- Two valid descriptions are the same if one's encoding begins the other's. -/
theorem apart_eq {t u : Lat} (ht : chkL t = 0) (hu : chkL u = 0) (n : Nat) (hn : n = min (encL t).length (encL u).length) (h : strU ((encL t).take n) = strU ((encL u).take n)) : t = u := by
  have ot := okay_of t 1 0 ht
  have ou := okay_of u 1 0 hu
  have bt : By ((encL t).take n) := fun y hy => encL_byte t y (List.mem_of_mem_take hy)
  have bu : By ((encL u).take n) := fun y hy => encL_byte u y (List.mem_of_mem_take hy)
  have e := strU_inj bt bu h
  rcases Nat.le_total (encL t).length (encL u).length with h1 | h1
  · have h2 : (encL t).take n = encL t := List.take_of_length_le (by omega)
    rw [h2] at e
    have h3 : encL t ++ (encL u).drop n = encL u ++ [] := by rw [e, List.take_append_drop, List.append_nil]
    exact (encL_cut t ot u ou _ _ h3).1
  · have h2 : (encL u).take n = encL u := List.take_of_length_le (by omega)
    rw [h2] at e
    have h3 : encL t ++ [] = encL u ++ (encL t).drop n := by rw [← e, List.take_append_drop, List.append_nil]
    exact (encL_cut t ot u ou _ _ h3).1
theorem upto_u8 (g o len cap s : Nat) (hs : s ≤ cap) : ∀ wx, (Instr.slice 33 (.slice (some ⟨g, o, none⟩) len cap) none (some (.int .i64 (s : Int))) none).run Try.prog wx = .ok (.slice (some ⟨g, o, none⟩) s cap) wx := fun wx => by
  obtain ⟨i0, hi, hz0, hz1, hz2⟩ := info_parts Wr.Try.infoU8
  have he : Try.prog.elem 33 = 5 := by kernel_rfl
  have ht : Try.prog.underlying 33 = some (.slice (Try.prog.elem 33)) := by rw [he]; exact Try.underlying33
  have hsz : (sizeOf (Try.prog.elem 33)).run Try.prog wx = .ok 1 wx := by
    rw [he]
    simp [sizeOf, typeInfo, hi, hz1]
  rw [run_slice_h (t := 33) (ht := ht) (h0 := by omega) (h2 := by omega), hsz]
  simp [Result.andThen, sliced, Addr.add]
/-- The beginning of a row of bytes, as a string. -/
theorem conv_pre {W : World} {g n : Nat} {M : List Int} (h : W.heap[g]? = some (.cells (Wr.bs M).toArray 5 (0, 0))) (hn : n ≤ M.length) (cap : Nat) : (convert 33 9 (.slice (some ⟨g, 0, none⟩) n cap)).run Try.prog W = .ok (.string (strOfNums (M.take n))) W := by
  have hl : (M.take n).length = n := by rw [List.length_take]; omega
  have := Wr.run_str W 33 9 5 Try.underlying33 Try.underlying5 Try.underlying9 (some ⟨g, 0, none⟩) (M.take n) cap (fun h0 => ⟨_, rfl, fun j v hj => by
    have h1 := Wr.row_src h (by rw [List.length_take] at h0; omega)
    obtain ⟨ad, e, hc⟩ := h1
    cases e
    refine hc j v ?_
    unfold Wr.bs at hj ⊢
    rw [List.getElem?_map, List.getElem?_take] at hj
    split at hj
    · rw [List.getElem?_map]; exact hj
    · simp at hj⟩)
  rw [hl] at this
  exact this
set_option maxRecDepth 100000 in
set_option maxHeartbeats 6400000 in
theorem apart_bad1 (t u : Lat) (kA loA hiA : Int) (anA : Option Addr) (nnA cnA : Nat) (apA : Option Addr) (npA cpA : Nat) (arA : Option Addr) (nrA crA : Nat) (kB loB hiB : Int) (anB : Option Addr) (nnB cnB : Nat) (apB : Option Addr) (npB cpB : Nat) (arB : Option Addr) (nrB crB : Nat) (w : World) (H1 : LO w kA loA hiA anA nnA cnA apA npA cpA arA nrA crA t) (H2 : LO w kB loB hiB anB nnB cnB apB npB cpB arB nrB crB u) (c1 : chkL t ≠ 0) : Calls Try.prog 7 #[.agg #[.int .i64 kA, .int .i64 loA, .int .i64 hiA, .slice anA nnA cnA, .slice apA npA cpA, .slice arA nrA crA], .agg #[.int .i64 kB, .int .i64 loB, .int .i64 hiB, .slice anB nnB cnB, .slice apB npB cpB, .slice arB nrB crB]] w (BoP true w) := by
  have HBB : Hid (Below w.heap.size w ((w.alloc (.cells #[.int .i64 kA, .int .i64 loA, .int .i64 hiA, .slice anA nnA cnA, .slice apA npA cpA, .slice arA nrA crA] 26)).alloc (.cells #[.int .i64 kB, .int .i64 loB, .int .i64 hiB, .slice anB nnB cnB, .slice apB npB cpB, .slice arB nrB crB] 26))) := hid_of (((Below.refl w.heap.size w).alloc (Nat.le_refl _) (.cells #[.int .i64 kA, .int .i64 loA, .int .i64 hiA, .slice anA nnA cnA, .slice apA npA cpA, .slice arA nrA crA] 26)).alloc (by simp) (.cells #[.int .i64 kB, .int .i64 loB, .int .i64 hiB, .slice anB nnB cnB, .slice apB npB cpB, .slice arB nrB crB] 26))
  have HC : Hid (∀ w', Below ((w.alloc (.cells #[.int .i64 kA, .int .i64 loA, .int .i64 hiA, .slice anA nnA cnA, .slice apA npA cpA, .slice arA nrA crA] 26)).alloc (.cells #[.int .i64 kB, .int .i64 loB, .int .i64 hiB, .slice anB nnB cnB, .slice apB npB cpB, .slice arB nrB crB] 26)).heap.size ((w.alloc (.cells #[.int .i64 kA, .int .i64 loA, .int .i64 hiA, .slice anA nnA cnA, .slice apA npA cpA, .slice arA nrA crA] 26)).alloc (.cells #[.int .i64 kB, .int .i64 loB, .int .i64 hiB, .slice anB nnB cnB, .slice apB npB cpB, .slice arB nrB crB] 26)) w' → w'.cell? ⟨w.heap.size, 0, none⟩ = some (.int .i64 kA) ∧ w'.cell? ⟨w.heap.size, 1, none⟩ = some (.int .i64 loA) ∧ w'.cell? ⟨w.heap.size, 2, none⟩ = some (.int .i64 hiA) ∧ w'.cell? ⟨w.heap.size, 3, none⟩ = some (.slice anA nnA cnA) ∧ w'.cell? ⟨w.heap.size, 4, none⟩ = some (.slice apA npA cpA) ∧ w'.cell? ⟨w.heap.size, 5, none⟩ = some (.slice arA nrA crA) ∧ w'.cell? ⟨w.heap.size + 1, 0, none⟩ = some (.int .i64 kB) ∧ w'.cell? ⟨w.heap.size + 1, 1, none⟩ = some (.int .i64 loB) ∧ w'.cell? ⟨w.heap.size + 1, 2, none⟩ = some (.int .i64 hiB) ∧ w'.cell? ⟨w.heap.size + 1, 3, none⟩ = some (.slice anB nnB cnB) ∧ w'.cell? ⟨w.heap.size + 1, 4, none⟩ = some (.slice apB npB cpB) ∧ w'.cell? ⟨w.heap.size + 1, 5, none⟩ = some (.slice arB nrB crB)) := hid_of (fun w' h => two_box kA loA hiA anA nnA cnA apA npA cpA arA nrA crA kB loB hiB anB nnB cnB apB npB cpB arB nrB crB h)
  have AW := hid_of (fun w => awake_any w)
  have CA : Hid (∀ wz, Below ((w.alloc (.cells #[.int .i64 kA, .int .i64 loA, .int .i64 hiA, .slice anA nnA cnA, .slice apA npA cpA, .slice arA nrA crA] 26)).alloc (.cells #[.int .i64 kB, .int .i64 loB, .int .i64 hiB, .slice anB nnB cnB, .slice apB npB cpB, .slice arB nrB crB] 26)).heap.size ((w.alloc (.cells #[.int .i64 kA, .int .i64 loA, .int .i64 hiA, .slice anA nnA cnA, .slice apA npA cpA, .slice arA nrA crA] 26)).alloc (.cells #[.int .i64 kB, .int .i64 loB, .int .i64 hiB, .slice anB nnB cnB, .slice apB npB cpB, .slice arB nrB crB] 26)) wz → Calls Try.prog 10 #[.agg #[.int .i64 kA, .int .i64 loA, .int .i64 hiA, .slice anA nnA cnA, .slice apA npA cpA, .slice arA nrA crA]] wz fun e w' => e = .returned (.int .i64 (chkL t)) ∧ Below ((w.alloc (.cells #[.int .i64 kA, .int .i64 loA, .int .i64 hiA, .slice anA nnA cnA, .slice apA npA cpA, .slice arA nrA crA] 26)).alloc (.cells #[.int .i64 kB, .int .i64 loB, .int .i64 hiB, .slice anB nnB cnB, .slice apB npB cpB, .slice arB nrB crB] 26)).heap.size ((w.alloc (.cells #[.int .i64 kA, .int .i64 loA, .int .i64 hiA, .slice anA nnA cnA, .slice apA npA cpA, .slice arA nrA crA] 26)).alloc (.cells #[.int .i64 kB, .int .i64 loB, .int .i64 hiB, .slice anB nnB cnB, .slice apB npB cpB, .slice arB nrB crB] 26)) w') := hid_of (fun wz hz => (check_any t kA loA hiA anA nnA cnA apA npA cpA arA nrA crA wz (H1.at (HBB.out.trans (hz.mono HBB.out.size)))).mono fun e w' ⟨h1, h2⟩ => ⟨h1, hz.trans (Below.mono h2 hz.size)⟩)
  have CB : Hid (∀ wz, Below ((w.alloc (.cells #[.int .i64 kA, .int .i64 loA, .int .i64 hiA, .slice anA nnA cnA, .slice apA npA cpA, .slice arA nrA crA] 26)).alloc (.cells #[.int .i64 kB, .int .i64 loB, .int .i64 hiB, .slice anB nnB cnB, .slice apB npB cpB, .slice arB nrB crB] 26)).heap.size ((w.alloc (.cells #[.int .i64 kA, .int .i64 loA, .int .i64 hiA, .slice anA nnA cnA, .slice apA npA cpA, .slice arA nrA crA] 26)).alloc (.cells #[.int .i64 kB, .int .i64 loB, .int .i64 hiB, .slice anB nnB cnB, .slice apB npB cpB, .slice arB nrB crB] 26)) wz → Calls Try.prog 10 #[.agg #[.int .i64 kB, .int .i64 loB, .int .i64 hiB, .slice anB nnB cnB, .slice apB npB cpB, .slice arB nrB crB]] wz fun e w' => e = .returned (.int .i64 (chkL u)) ∧ Below ((w.alloc (.cells #[.int .i64 kA, .int .i64 loA, .int .i64 hiA, .slice anA nnA cnA, .slice apA npA cpA, .slice arA nrA crA] 26)).alloc (.cells #[.int .i64 kB, .int .i64 loB, .int .i64 hiB, .slice anB nnB cnB, .slice apB npB cpB, .slice arB nrB crB] 26)).heap.size ((w.alloc (.cells #[.int .i64 kA, .int .i64 loA, .int .i64 hiA, .slice anA nnA cnA, .slice apA npA cpA, .slice arA nrA crA] 26)).alloc (.cells #[.int .i64 kB, .int .i64 loB, .int .i64 hiB, .slice anB nnB cnB, .slice apB npB cpB, .slice arB nrB crB] 26)) w') := hid_of (fun wz hz => (check_any u kB loB hiB anB nnB cnB apB npB cpB arB nrB crB wz (H2.at (HBB.out.trans (hz.mono HBB.out.size)))).mono fun e w' ⟨h1, h2⟩ => ⟨h1, hz.trans (Below.mono h2 hz.size)⟩)
  obtain ⟨q, hq⟩ : ∃ q, q = chkL t := ⟨_, rfl⟩
  rw [← hq] at CA c1
  have t1 : (q != 0) = true := by simpa using c1
  clear H1 H2 CB hq
  go_enter Try.func7, Try.ntmps7
  go_wp2_with (first
    | (go_at_call 9; ((with_reducible refine (AW.out _).mono ?_); (rintro e w1 ⟨rfl, h1⟩); (have E1 := hid_of h1); (have cs1 := HC.out w1 E1.out); obtain ⟨a0, a1, a2, a3, a4, a5, d0, d1, d2, d3, d4, d5⟩ := cs1; clear h1))
    | (go_at_call 10; ((with_reducible refine (CA.out w1 E1.out).mono ?_); (rintro e w2 ⟨rfl, h1⟩); (have E2 := hid_of h1); obtain ⟨f0, f1, f2, f3, f4, f5, g0, g1, g2, g3, g4, g5⟩ := HC.out w2 h1; clear h1)))
  go_ret
  exact ⟨by first | rfl | simp, HBB.out.trans (E2.out.mono HBB.out.size)⟩
set_option maxRecDepth 100000 in
set_option maxHeartbeats 6400000 in
theorem apart_bad2 (t u : Lat) (kA loA hiA : Int) (anA : Option Addr) (nnA cnA : Nat) (apA : Option Addr) (npA cpA : Nat) (arA : Option Addr) (nrA crA : Nat) (kB loB hiB : Int) (anB : Option Addr) (nnB cnB : Nat) (apB : Option Addr) (npB cpB : Nat) (arB : Option Addr) (nrB crB : Nat) (w : World) (H1 : LO w kA loA hiA anA nnA cnA apA npA cpA arA nrA crA t) (H2 : LO w kB loB hiB anB nnB cnB apB npB cpB arB nrB crB u) (c1 : chkL t = 0) (c2 : chkL u ≠ 0) : Calls Try.prog 7 #[.agg #[.int .i64 kA, .int .i64 loA, .int .i64 hiA, .slice anA nnA cnA, .slice apA npA cpA, .slice arA nrA crA], .agg #[.int .i64 kB, .int .i64 loB, .int .i64 hiB, .slice anB nnB cnB, .slice apB npB cpB, .slice arB nrB crB]] w (BoP true w) := by
  have HBB : Hid (Below w.heap.size w ((w.alloc (.cells #[.int .i64 kA, .int .i64 loA, .int .i64 hiA, .slice anA nnA cnA, .slice apA npA cpA, .slice arA nrA crA] 26)).alloc (.cells #[.int .i64 kB, .int .i64 loB, .int .i64 hiB, .slice anB nnB cnB, .slice apB npB cpB, .slice arB nrB crB] 26))) := hid_of (((Below.refl w.heap.size w).alloc (Nat.le_refl _) (.cells #[.int .i64 kA, .int .i64 loA, .int .i64 hiA, .slice anA nnA cnA, .slice apA npA cpA, .slice arA nrA crA] 26)).alloc (by simp) (.cells #[.int .i64 kB, .int .i64 loB, .int .i64 hiB, .slice anB nnB cnB, .slice apB npB cpB, .slice arB nrB crB] 26))
  have HC : Hid (∀ w', Below ((w.alloc (.cells #[.int .i64 kA, .int .i64 loA, .int .i64 hiA, .slice anA nnA cnA, .slice apA npA cpA, .slice arA nrA crA] 26)).alloc (.cells #[.int .i64 kB, .int .i64 loB, .int .i64 hiB, .slice anB nnB cnB, .slice apB npB cpB, .slice arB nrB crB] 26)).heap.size ((w.alloc (.cells #[.int .i64 kA, .int .i64 loA, .int .i64 hiA, .slice anA nnA cnA, .slice apA npA cpA, .slice arA nrA crA] 26)).alloc (.cells #[.int .i64 kB, .int .i64 loB, .int .i64 hiB, .slice anB nnB cnB, .slice apB npB cpB, .slice arB nrB crB] 26)) w' → w'.cell? ⟨w.heap.size, 0, none⟩ = some (.int .i64 kA) ∧ w'.cell? ⟨w.heap.size, 1, none⟩ = some (.int .i64 loA) ∧ w'.cell? ⟨w.heap.size, 2, none⟩ = some (.int .i64 hiA) ∧ w'.cell? ⟨w.heap.size, 3, none⟩ = some (.slice anA nnA cnA) ∧ w'.cell? ⟨w.heap.size, 4, none⟩ = some (.slice apA npA cpA) ∧ w'.cell? ⟨w.heap.size, 5, none⟩ = some (.slice arA nrA crA) ∧ w'.cell? ⟨w.heap.size + 1, 0, none⟩ = some (.int .i64 kB) ∧ w'.cell? ⟨w.heap.size + 1, 1, none⟩ = some (.int .i64 loB) ∧ w'.cell? ⟨w.heap.size + 1, 2, none⟩ = some (.int .i64 hiB) ∧ w'.cell? ⟨w.heap.size + 1, 3, none⟩ = some (.slice anB nnB cnB) ∧ w'.cell? ⟨w.heap.size + 1, 4, none⟩ = some (.slice apB npB cpB) ∧ w'.cell? ⟨w.heap.size + 1, 5, none⟩ = some (.slice arB nrB crB)) := hid_of (fun w' h => two_box kA loA hiA anA nnA cnA apA npA cpA arA nrA crA kB loB hiB anB nnB cnB apB npB cpB arB nrB crB h)
  have AW := hid_of (fun w => awake_any w)
  have CA : Hid (∀ wz, Below ((w.alloc (.cells #[.int .i64 kA, .int .i64 loA, .int .i64 hiA, .slice anA nnA cnA, .slice apA npA cpA, .slice arA nrA crA] 26)).alloc (.cells #[.int .i64 kB, .int .i64 loB, .int .i64 hiB, .slice anB nnB cnB, .slice apB npB cpB, .slice arB nrB crB] 26)).heap.size ((w.alloc (.cells #[.int .i64 kA, .int .i64 loA, .int .i64 hiA, .slice anA nnA cnA, .slice apA npA cpA, .slice arA nrA crA] 26)).alloc (.cells #[.int .i64 kB, .int .i64 loB, .int .i64 hiB, .slice anB nnB cnB, .slice apB npB cpB, .slice arB nrB crB] 26)) wz → Calls Try.prog 10 #[.agg #[.int .i64 kA, .int .i64 loA, .int .i64 hiA, .slice anA nnA cnA, .slice apA npA cpA, .slice arA nrA crA]] wz fun e w' => e = .returned (.int .i64 (chkL t)) ∧ Below ((w.alloc (.cells #[.int .i64 kA, .int .i64 loA, .int .i64 hiA, .slice anA nnA cnA, .slice apA npA cpA, .slice arA nrA crA] 26)).alloc (.cells #[.int .i64 kB, .int .i64 loB, .int .i64 hiB, .slice anB nnB cnB, .slice apB npB cpB, .slice arB nrB crB] 26)).heap.size ((w.alloc (.cells #[.int .i64 kA, .int .i64 loA, .int .i64 hiA, .slice anA nnA cnA, .slice apA npA cpA, .slice arA nrA crA] 26)).alloc (.cells #[.int .i64 kB, .int .i64 loB, .int .i64 hiB, .slice anB nnB cnB, .slice apB npB cpB, .slice arB nrB crB] 26)) w') := hid_of (fun wz hz => (check_any t kA loA hiA anA nnA cnA apA npA cpA arA nrA crA wz (H1.at (HBB.out.trans (hz.mono HBB.out.size)))).mono fun e w' ⟨h1, h2⟩ => ⟨h1, hz.trans (Below.mono h2 hz.size)⟩)
  have CB : Hid (∀ wz, Below ((w.alloc (.cells #[.int .i64 kA, .int .i64 loA, .int .i64 hiA, .slice anA nnA cnA, .slice apA npA cpA, .slice arA nrA crA] 26)).alloc (.cells #[.int .i64 kB, .int .i64 loB, .int .i64 hiB, .slice anB nnB cnB, .slice apB npB cpB, .slice arB nrB crB] 26)).heap.size ((w.alloc (.cells #[.int .i64 kA, .int .i64 loA, .int .i64 hiA, .slice anA nnA cnA, .slice apA npA cpA, .slice arA nrA crA] 26)).alloc (.cells #[.int .i64 kB, .int .i64 loB, .int .i64 hiB, .slice anB nnB cnB, .slice apB npB cpB, .slice arB nrB crB] 26)) wz → Calls Try.prog 10 #[.agg #[.int .i64 kB, .int .i64 loB, .int .i64 hiB, .slice anB nnB cnB, .slice apB npB cpB, .slice arB nrB crB]] wz fun e w' => e = .returned (.int .i64 (chkL u)) ∧ Below ((w.alloc (.cells #[.int .i64 kA, .int .i64 loA, .int .i64 hiA, .slice anA nnA cnA, .slice apA npA cpA, .slice arA nrA crA] 26)).alloc (.cells #[.int .i64 kB, .int .i64 loB, .int .i64 hiB, .slice anB nnB cnB, .slice apB npB cpB, .slice arB nrB crB] 26)).heap.size ((w.alloc (.cells #[.int .i64 kA, .int .i64 loA, .int .i64 hiA, .slice anA nnA cnA, .slice apA npA cpA, .slice arA nrA crA] 26)).alloc (.cells #[.int .i64 kB, .int .i64 loB, .int .i64 hiB, .slice anB nnB cnB, .slice apB npB cpB, .slice arB nrB crB] 26)) w') := hid_of (fun wz hz => (check_any u kB loB hiB anB nnB cnB apB npB cpB arB nrB crB wz (H2.at (HBB.out.trans (hz.mono HBB.out.size)))).mono fun e w' ⟨h1, h2⟩ => ⟨h1, hz.trans (Below.mono h2 hz.size)⟩)
  rw [c1] at CA
  obtain ⟨q, hq⟩ : ∃ q, q = chkL u := ⟨_, rfl⟩
  rw [← hq] at CB c2
  have t1 : (q != 0) = true := by simpa using c2
  clear H1 H2 hq c1
  go_enter Try.func7, Try.ntmps7
  go_wp2_with (first
    | (go_at_call 9; ((with_reducible refine (AW.out _).mono ?_); (rintro e w1 ⟨rfl, h1⟩); (have E1 := hid_of h1); (have cs1 := HC.out w1 E1.out); obtain ⟨a0, a1, a2, a3, a4, a5, d0, d1, d2, d3, d4, d5⟩ := cs1; clear h1))
    | (go_at_call 10; ((with_reducible refine (CA.out w1 E1.out).mono ?_); (rintro e w2 ⟨rfl, h1⟩); (have E2 := hid_of h1); obtain ⟨f0, f1, f2, f3, f4, f5, g0, g1, g2, g3, g4, g5⟩ := HC.out w2 h1; clear h1))
    | (go_at_call 10; ((with_reducible refine (CB.out w2 E2.out).mono ?_); (rintro e w3 ⟨rfl, h1⟩); (have E3 := hid_of h1); (have cs3 := hid_of (HC.out w3 h1)); clear h1)))
  go_ret
  exact ⟨by first | rfl | simp, HBB.out.trans (E3.out.mono HBB.out.size)⟩
set_option maxRecDepth 100000 in
set_option maxHeartbeats 6400000 in
theorem apart_main (t u : Lat) (kA loA hiA : Int) (anA : Option Addr) (nnA cnA : Nat) (apA : Option Addr) (npA cpA : Nat) (arA : Option Addr) (nrA crA : Nat) (kB loB hiB : Int) (anB : Option Addr) (nnB cnB : Nat) (apB : Option Addr) (npB cpB : Nat) (arB : Option Addr) (nrB crB : Nat) (w : World) (H1 : LO w kA loA hiA anA nnA cnA apA npA cpA arA nrA crA t) (H2 : LO w kB loB hiB anB nnB cnB apB npB cpB arB nrB crB u) (c1 : chkL t = 0) (c2 : chkL u = 0) : Calls Try.prog 7 #[.agg #[.int .i64 kA, .int .i64 loA, .int .i64 hiA, .slice anA nnA cnA, .slice apA npA cpA, .slice arA nrA crA], .agg #[.int .i64 kB, .int .i64 loB, .int .i64 hiB, .slice anB nnB cnB, .slice apB npB cpB, .slice arB nrB crB]] w (BoP true w) := by
  have HBB : Hid (Below w.heap.size w ((w.alloc (.cells #[.int .i64 kA, .int .i64 loA, .int .i64 hiA, .slice anA nnA cnA, .slice apA npA cpA, .slice arA nrA crA] 26)).alloc (.cells #[.int .i64 kB, .int .i64 loB, .int .i64 hiB, .slice anB nnB cnB, .slice apB npB cpB, .slice arB nrB crB] 26))) := hid_of (((Below.refl w.heap.size w).alloc (Nat.le_refl _) (.cells #[.int .i64 kA, .int .i64 loA, .int .i64 hiA, .slice anA nnA cnA, .slice apA npA cpA, .slice arA nrA crA] 26)).alloc (by simp) (.cells #[.int .i64 kB, .int .i64 loB, .int .i64 hiB, .slice anB nnB cnB, .slice apB npB cpB, .slice arB nrB crB] 26))
  have HC : Hid (∀ w', Below ((w.alloc (.cells #[.int .i64 kA, .int .i64 loA, .int .i64 hiA, .slice anA nnA cnA, .slice apA npA cpA, .slice arA nrA crA] 26)).alloc (.cells #[.int .i64 kB, .int .i64 loB, .int .i64 hiB, .slice anB nnB cnB, .slice apB npB cpB, .slice arB nrB crB] 26)).heap.size ((w.alloc (.cells #[.int .i64 kA, .int .i64 loA, .int .i64 hiA, .slice anA nnA cnA, .slice apA npA cpA, .slice arA nrA crA] 26)).alloc (.cells #[.int .i64 kB, .int .i64 loB, .int .i64 hiB, .slice anB nnB cnB, .slice apB npB cpB, .slice arB nrB crB] 26)) w' → w'.cell? ⟨w.heap.size, 0, none⟩ = some (.int .i64 kA) ∧ w'.cell? ⟨w.heap.size, 1, none⟩ = some (.int .i64 loA) ∧ w'.cell? ⟨w.heap.size, 2, none⟩ = some (.int .i64 hiA) ∧ w'.cell? ⟨w.heap.size, 3, none⟩ = some (.slice anA nnA cnA) ∧ w'.cell? ⟨w.heap.size, 4, none⟩ = some (.slice apA npA cpA) ∧ w'.cell? ⟨w.heap.size, 5, none⟩ = some (.slice arA nrA crA) ∧ w'.cell? ⟨w.heap.size + 1, 0, none⟩ = some (.int .i64 kB) ∧ w'.cell? ⟨w.heap.size + 1, 1, none⟩ = some (.int .i64 loB) ∧ w'.cell? ⟨w.heap.size + 1, 2, none⟩ = some (.int .i64 hiB) ∧ w'.cell? ⟨w.heap.size + 1, 3, none⟩ = some (.slice anB nnB cnB) ∧ w'.cell? ⟨w.heap.size + 1, 4, none⟩ = some (.slice apB npB cpB) ∧ w'.cell? ⟨w.heap.size + 1, 5, none⟩ = some (.slice arB nrB crB)) := hid_of (fun w' h => two_box kA loA hiA anA nnA cnA apA npA cpA arA nrA crA kB loB hiB anB nnB cnB apB npB cpB arB nrB crB h)
  have AW := hid_of (fun w => awake_any w)
  have CA : Hid (∀ wz, Below ((w.alloc (.cells #[.int .i64 kA, .int .i64 loA, .int .i64 hiA, .slice anA nnA cnA, .slice apA npA cpA, .slice arA nrA crA] 26)).alloc (.cells #[.int .i64 kB, .int .i64 loB, .int .i64 hiB, .slice anB nnB cnB, .slice apB npB cpB, .slice arB nrB crB] 26)).heap.size ((w.alloc (.cells #[.int .i64 kA, .int .i64 loA, .int .i64 hiA, .slice anA nnA cnA, .slice apA npA cpA, .slice arA nrA crA] 26)).alloc (.cells #[.int .i64 kB, .int .i64 loB, .int .i64 hiB, .slice anB nnB cnB, .slice apB npB cpB, .slice arB nrB crB] 26)) wz → Calls Try.prog 10 #[.agg #[.int .i64 kA, .int .i64 loA, .int .i64 hiA, .slice anA nnA cnA, .slice apA npA cpA, .slice arA nrA crA]] wz fun e w' => e = .returned (.int .i64 (chkL t)) ∧ Below ((w.alloc (.cells #[.int .i64 kA, .int .i64 loA, .int .i64 hiA, .slice anA nnA cnA, .slice apA npA cpA, .slice arA nrA crA] 26)).alloc (.cells #[.int .i64 kB, .int .i64 loB, .int .i64 hiB, .slice anB nnB cnB, .slice apB npB cpB, .slice arB nrB crB] 26)).heap.size ((w.alloc (.cells #[.int .i64 kA, .int .i64 loA, .int .i64 hiA, .slice anA nnA cnA, .slice apA npA cpA, .slice arA nrA crA] 26)).alloc (.cells #[.int .i64 kB, .int .i64 loB, .int .i64 hiB, .slice anB nnB cnB, .slice apB npB cpB, .slice arB nrB crB] 26)) w') := hid_of (fun wz hz => (check_any t kA loA hiA anA nnA cnA apA npA cpA arA nrA crA wz (H1.at (HBB.out.trans (hz.mono HBB.out.size)))).mono fun e w' ⟨h1, h2⟩ => ⟨h1, hz.trans (Below.mono h2 hz.size)⟩)
  have CB : Hid (∀ wz, Below ((w.alloc (.cells #[.int .i64 kA, .int .i64 loA, .int .i64 hiA, .slice anA nnA cnA, .slice apA npA cpA, .slice arA nrA crA] 26)).alloc (.cells #[.int .i64 kB, .int .i64 loB, .int .i64 hiB, .slice anB nnB cnB, .slice apB npB cpB, .slice arB nrB crB] 26)).heap.size ((w.alloc (.cells #[.int .i64 kA, .int .i64 loA, .int .i64 hiA, .slice anA nnA cnA, .slice apA npA cpA, .slice arA nrA crA] 26)).alloc (.cells #[.int .i64 kB, .int .i64 loB, .int .i64 hiB, .slice anB nnB cnB, .slice apB npB cpB, .slice arB nrB crB] 26)) wz → Calls Try.prog 10 #[.agg #[.int .i64 kB, .int .i64 loB, .int .i64 hiB, .slice anB nnB cnB, .slice apB npB cpB, .slice arB nrB crB]] wz fun e w' => e = .returned (.int .i64 (chkL u)) ∧ Below ((w.alloc (.cells #[.int .i64 kA, .int .i64 loA, .int .i64 hiA, .slice anA nnA cnA, .slice apA npA cpA, .slice arA nrA crA] 26)).alloc (.cells #[.int .i64 kB, .int .i64 loB, .int .i64 hiB, .slice anB nnB cnB, .slice apB npB cpB, .slice arB nrB crB] 26)).heap.size ((w.alloc (.cells #[.int .i64 kA, .int .i64 loA, .int .i64 hiA, .slice anA nnA cnA, .slice apA npA cpA, .slice arA nrA crA] 26)).alloc (.cells #[.int .i64 kB, .int .i64 loB, .int .i64 hiB, .slice anB nnB cnB, .slice apB npB cpB, .slice arB nrB crB] 26)) w') := hid_of (fun wz hz => (check_any u kB loB hiB anB nnB cnB apB npB cpB arB nrB crB wz (H2.at (HBB.out.trans (hz.mono HBB.out.size)))).mono fun e w' ⟨h1, h2⟩ => ⟨h1, hz.trans (Below.mono h2 hz.size)⟩)
  have EA : Hid (∀ wz, Below ((w.alloc (.cells #[.int .i64 kA, .int .i64 loA, .int .i64 hiA, .slice anA nnA cnA, .slice apA npA cpA, .slice arA nrA crA] 26)).alloc (.cells #[.int .i64 kB, .int .i64 loB, .int .i64 hiB, .slice anB nnB cnB, .slice apB npB cpB, .slice arB nrB crB] 26)).heap.size ((w.alloc (.cells #[.int .i64 kA, .int .i64 loA, .int .i64 hiA, .slice anA nnA cnA, .slice apA npA cpA, .slice arA nrA crA] 26)).alloc (.cells #[.int .i64 kB, .int .i64 loB, .int .i64 hiB, .slice anB nnB cnB, .slice apB npB cpB, .slice arB nrB crB] 26)) wz → Calls Try.prog 22 #[.agg #[.int .i64 kA, .int .i64 loA, .int .i64 hiA, .slice anA nnA cnA, .slice apA npA cpA, .slice arA nrA crA]] wz fun e w' => ∃ g, e = .returned (.slice (some ⟨g, 0, none⟩) (encL t).length (encL t).length) ∧ Hid (w'.heap[g]? = some (.cells (Wr.bs (encL t)).toArray 5 (0, 0))) ∧ Below ((w.alloc (.cells #[.int .i64 kA, .int .i64 loA, .int .i64 hiA, .slice anA nnA cnA, .slice apA npA cpA, .slice arA nrA crA] 26)).alloc (.cells #[.int .i64 kB, .int .i64 loB, .int .i64 hiB, .slice anB nnB cnB, .slice apB npB cpB, .slice arB nrB crB] 26)).heap.size ((w.alloc (.cells #[.int .i64 kA, .int .i64 loA, .int .i64 hiA, .slice anA nnA cnA, .slice apA npA cpA, .slice arA nrA crA] 26)).alloc (.cells #[.int .i64 kB, .int .i64 loB, .int .i64 hiB, .slice anB nnB cnB, .slice apB npB cpB, .slice arB nrB crB] 26)) w' ∧ Below wz.heap.size wz w') := hid_of (fun wz hz => (encode_any t kA loA hiA anA nnA cnA apA npA cpA arA nrA crA wz (H1.at (HBB.out.trans (hz.mono HBB.out.size))) c1 _ rfl).mono fun e w' ⟨g, h1, h2, h3, h4⟩ => ⟨g, h1, hid_of h2, hz.trans (h3.mono hz.size), h3⟩)
  have EB : Hid (∀ wz, Below ((w.alloc (.cells #[.int .i64 kA, .int .i64 loA, .int .i64 hiA, .slice anA nnA cnA, .slice apA npA cpA, .slice arA nrA crA] 26)).alloc (.cells #[.int .i64 kB, .int .i64 loB, .int .i64 hiB, .slice anB nnB cnB, .slice apB npB cpB, .slice arB nrB crB] 26)).heap.size ((w.alloc (.cells #[.int .i64 kA, .int .i64 loA, .int .i64 hiA, .slice anA nnA cnA, .slice apA npA cpA, .slice arA nrA crA] 26)).alloc (.cells #[.int .i64 kB, .int .i64 loB, .int .i64 hiB, .slice anB nnB cnB, .slice apB npB cpB, .slice arB nrB crB] 26)) wz → Calls Try.prog 22 #[.agg #[.int .i64 kB, .int .i64 loB, .int .i64 hiB, .slice anB nnB cnB, .slice apB npB cpB, .slice arB nrB crB]] wz fun e w' => ∃ g, e = .returned (.slice (some ⟨g, 0, none⟩) (encL u).length (encL u).length) ∧ Hid (w'.heap[g]? = some (.cells (Wr.bs (encL u)).toArray 5 (0, 0))) ∧ Below ((w.alloc (.cells #[.int .i64 kA, .int .i64 loA, .int .i64 hiA, .slice anA nnA cnA, .slice apA npA cpA, .slice arA nrA crA] 26)).alloc (.cells #[.int .i64 kB, .int .i64 loB, .int .i64 hiB, .slice anB nnB cnB, .slice apB npB cpB, .slice arB nrB crB] 26)).heap.size ((w.alloc (.cells #[.int .i64 kA, .int .i64 loA, .int .i64 hiA, .slice anA nnA cnA, .slice apA npA cpA, .slice arA nrA crA] 26)).alloc (.cells #[.int .i64 kB, .int .i64 loB, .int .i64 hiB, .slice anB nnB cnB, .slice apB npB cpB, .slice arB nrB crB] 26)) w' ∧ Below wz.heap.size wz w') := hid_of (fun wz hz => (encode_any u kB loB hiB anB nnB cnB apB npB cpB arB nrB crB wz (H2.at (HBB.out.trans (hz.mono HBB.out.size))) c2 _ rfl).mono fun e w' ⟨g, h1, h2, h3, h4⟩ => ⟨g, h1, hid_of h2, hz.trans (h3.mono hz.size), h3⟩)
  obtain ⟨q, hq⟩ : ∃ q, q = decide (t = u) := ⟨_, rfl⟩
  have EQ : Hid (∀ wz, Below ((w.alloc (.cells #[.int .i64 kA, .int .i64 loA, .int .i64 hiA, .slice anA nnA cnA, .slice apA npA cpA, .slice arA nrA crA] 26)).alloc (.cells #[.int .i64 kB, .int .i64 loB, .int .i64 hiB, .slice anB nnB cnB, .slice apB npB cpB, .slice arB nrB crB] 26)).heap.size ((w.alloc (.cells #[.int .i64 kA, .int .i64 loA, .int .i64 hiA, .slice anA nnA cnA, .slice apA npA cpA, .slice arA nrA crA] 26)).alloc (.cells #[.int .i64 kB, .int .i64 loB, .int .i64 hiB, .slice anB nnB cnB, .slice apB npB cpB, .slice arB nrB crB] 26)) wz → Calls Try.prog 12 #[.agg #[.int .i64 kA, .int .i64 loA, .int .i64 hiA, .slice anA nnA cnA, .slice apA npA cpA, .slice arA nrA crA], .agg #[.int .i64 kB, .int .i64 loB, .int .i64 hiB, .slice anB nnB cnB, .slice apB npB cpB, .slice arB nrB crB]] wz fun e w' => e = .returned (.bool q) ∧ Below ((w.alloc (.cells #[.int .i64 kA, .int .i64 loA, .int .i64 hiA, .slice anA nnA cnA, .slice apA npA cpA, .slice arA nrA crA] 26)).alloc (.cells #[.int .i64 kB, .int .i64 loB, .int .i64 hiB, .slice anB nnB cnB, .slice apB npB cpB, .slice arB nrB crB] 26)).heap.size ((w.alloc (.cells #[.int .i64 kA, .int .i64 loA, .int .i64 hiA, .slice anA nnA cnA, .slice apA npA cpA, .slice arA nrA crA] 26)).alloc (.cells #[.int .i64 kB, .int .i64 loB, .int .i64 hiB, .slice anB nnB cnB, .slice apB npB cpB, .slice arB nrB crB] 26)) w' ∧ Below wz.heap.size wz w') := hid_of (fun wz hz => (equal_any t u kA loA hiA anA nnA cnA apA npA cpA arA nrA crA kB loB hiB anB nnB cnB apB npB cpB arB nrB crB wz (H1.at (HBB.out.trans (hz.mono HBB.out.size))) (H2.at (HBB.out.trans (hz.mono HBB.out.size)))).mono fun e w' ⟨h1, h2⟩ => ⟨by rw [h1, hq], hz.trans (Below.mono h2 hz.size), h2⟩)
  have lt := enc_bound c1
  have lu := enc_bound c2
  obtain ⟨M, hM⟩ : ∃ M, M = encL t := ⟨_, rfl⟩
  obtain ⟨N, hN⟩ : ∃ N, N = encL u := ⟨_, rfl⟩
  have HQQ : Hid (∀ n, n = min M.length N.length → (strU (M.take n) = strU (N.take n) ↔ q = true)) := hid_of (fun n hn => by
    rw [hM, hN] at hn ⊢
    rw [hq, decide_eq_true_iff]
    refine ⟨fun h => apart_eq c1 c2 n hn h, fun h => by rw [h]⟩)
  rw [← hM] at EA lt
  rw [← hN] at EB lu
  obtain ⟨m1, hm1⟩ : ∃ m1, m1 = M.length := ⟨_, rfl⟩
  obtain ⟨m2, hm2⟩ : ∃ m2, m2 = N.length := ⟨_, rfl⟩
  rw [← hm1] at EA lt
  rw [← hm2] at EB lu
  have HM1 := hid_of hm1
  have HM2 := hid_of hm2
  rw [c1] at CA
  rw [c2] at CB
  have lt9 : m1 ≤ 9223372036854775807 := by omega
  have lu9 : m2 ≤ 9223372036854775807 := by omega
  clear H1 H2 hq c1 c2 hM hN hm1 hm2
  go_enter Try.func7, Try.ntmps7
  go_wp2_with (first
    | (go_at_call 9; ((with_reducible refine (AW.out _).mono ?_); (rintro e w1 ⟨rfl, h1⟩); (have E1 := hid_of h1); (have cs1 := HC.out w1 E1.out); obtain ⟨a0, a1, a2, a3, a4, a5, d0, d1, d2, d3, d4, d5⟩ := cs1; clear h1))
    | (go_at_call 10; ((with_reducible refine (CA.out w1 E1.out).mono ?_); (rintro e w2 ⟨rfl, h1⟩); (have E2 := hid_of h1); obtain ⟨f0, f1, f2, f3, f4, f5, g0, g1, g2, g3, g4, g5⟩ := HC.out w2 h1; clear h1))
    | (go_at_call 10; ((with_reducible refine (CB.out w2 E2.out).mono ?_); (rintro e w3 ⟨rfl, h1⟩); (have E3 := hid_of h1); (have cs3 := hid_of (HC.out w3 h1)); clear h1)))
  go_cut [5, 6] from 18 to 39 (fun x y wx => ∃ gx gy, x = .slice (some ⟨gx, 0, none⟩) m1 m1 ∧ y = .slice (some ⟨gy, 0, none⟩) m2 m2 ∧ Hid (wx.heap[gx]? = some (.cells (Wr.bs M).toArray 5 (0, 0))) ∧ Hid (wx.heap[gy]? = some (.cells (Wr.bs N).toArray 5 (0, 0))) ∧ Hid (Below ((w.alloc (.cells #[.int .i64 kA, .int .i64 loA, .int .i64 hiA, .slice anA nnA cnA, .slice apA npA cpA, .slice arA nrA crA] 26)).alloc (.cells #[.int .i64 kB, .int .i64 loB, .int .i64 hiB, .slice anB nnB cnB, .slice apB npB cpB, .slice arB nrB crB] 26)).heap.size ((w.alloc (.cells #[.int .i64 kA, .int .i64 loA, .int .i64 hiA, .slice anA nnA cnA, .slice apA npA cpA, .slice arA nrA crA] 26)).alloc (.cells #[.int .i64 kB, .int .i64 loB, .int .i64 hiB, .slice anB nnB cnB, .slice apB npB cpB, .slice arB nrB crB] 26)) wx))
  case first =>
    have K3 : Hid (Below ((w.alloc (.cells #[.int .i64 kA, .int .i64 loA, .int .i64 hiA, .slice anA nnA cnA, .slice apA npA cpA, .slice arA nrA crA] 26)).alloc (.cells #[.int .i64 kB, .int .i64 loB, .int .i64 hiB, .slice anB nnB cnB, .slice apB npB cpB, .slice arB nrB crB] 26)).heap.size ((w.alloc (.cells #[.int .i64 kA, .int .i64 loA, .int .i64 hiA, .slice anA nnA cnA, .slice apA npA cpA, .slice arA nrA crA] 26)).alloc (.cells #[.int .i64 kB, .int .i64 loB, .int .i64 hiB, .slice anB nnB cnB, .slice apB npB cpB, .slice arB nrB crB] 26)) w3.drew) := hid_of E3.out.drew
    go_region_held3 (fun X => X.cell? ⟨w.heap.size, 0, none⟩ = some (.int .i64 kA) ∧ X.cell? ⟨w.heap.size, 1, none⟩ = some (.int .i64 loA) ∧ X.cell? ⟨w.heap.size, 2, none⟩ = some (.int .i64 hiA) ∧ X.cell? ⟨w.heap.size, 3, none⟩ = some (.slice anA nnA cnA) ∧ X.cell? ⟨w.heap.size, 4, none⟩ = some (.slice apA npA cpA) ∧ X.cell? ⟨w.heap.size, 5, none⟩ = some (.slice arA nrA crA) ∧ X.cell? ⟨w.heap.size + 1, 0, none⟩ = some (.int .i64 kB) ∧ X.cell? ⟨w.heap.size + 1, 1, none⟩ = some (.int .i64 loB) ∧ X.cell? ⟨w.heap.size + 1, 2, none⟩ = some (.int .i64 hiB) ∧ X.cell? ⟨w.heap.size + 1, 3, none⟩ = some (.slice anB nnB cnB) ∧ X.cell? ⟨w.heap.size + 1, 4, none⟩ = some (.slice apB npB cpB) ∧ X.cell? ⟨w.heap.size + 1, 5, none⟩ = some (.slice arB nrB crB)) (exact HC.out _ (Hid.out (by with_reducible assumption))) (first
      | (go_at_call 22; ((with_reducible refine (EA.out w3.drew K3.out).mono ?_); (rintro e w4 ⟨gx, rfl, X4, q1, q2⟩); (have E4 := hid_of q1); clear q1 q2))
      | (go_at_call 22; ((with_reducible refine (EB.out w3.drew K3.out).mono ?_); (rintro e w4 ⟨gy, rfl, Y4, q1, q2⟩); (have E4 := hid_of q1); clear q1 q2))
      | (go_at_call 22; ((with_reducible refine (EB.out w4 E4.out).mono ?_); (rintro e w5 ⟨gy, rfl, Y5, q1, q2⟩); (have E5 := hid_of q1); (have X5 := hid_of ((q2.block _ (lt_of_block X4.out)).trans X4.out)); clear q1 q2))
      | (go_at_call 22; ((with_reducible refine (EA.out w4 E4.out).mono ?_); (rintro e w5 ⟨gx, rfl, X5, q1, q2⟩); (have E5 := hid_of q1); (have Y5 := hid_of ((q2.block _ (lt_of_block Y4.out)).trans Y4.out)); clear q1 q2)))
    all_goals go_wp2_with fail
    all_goals go_meet
    all_goals exact ⟨gx, gy, rfl, rfl, X5, Y5, E5⟩
  case rest =>
    obtain ⟨gx, gy, rfl, rfl, X5, Y5, E5⟩ := hcut
    by_cases hle : m2 < m1
    · have hd : decide (m2 < m1) = true := by simp; omega
      have UX := upto_u8 gx 0 m1 m1 m2 (by omega)
      have UY := upto_u8 gy 0 m2 m2 m2 (by omega)
      obtain ⟨b1, hb1⟩ : ∃ b1, b1 = ba (strU (M.take m2)) := ⟨_, rfl⟩
      obtain ⟨b2, hb2⟩ : ∃ b2, b2 = ba (strU (N.take m2)) := ⟨_, rfl⟩
      have HS : Hid (∀ X, Below wc.heap.size wc X → ((convert 33 9 (.slice (some ⟨gx, 0, none⟩) m2 m1)).run Try.prog X = .ok (.string b1) X ∧ (convert 33 9 (.slice (some ⟨gy, 0, none⟩) m2 m2)).run Try.prog X = .ok (.string b2) X) ∧ X.cell? ⟨w.heap.size, 0, none⟩ = some (.int .i64 kA) ∧ X.cell? ⟨w.heap.size, 1, none⟩ = some (.int .i64 loA) ∧ X.cell? ⟨w.heap.size, 2, none⟩ = some (.int .i64 hiA) ∧ X.cell? ⟨w.heap.size, 3, none⟩ = some (.slice anA nnA cnA) ∧ X.cell? ⟨w.heap.size, 4, none⟩ = some (.slice apA npA cpA) ∧ X.cell? ⟨w.heap.size, 5, none⟩ = some (.slice arA nrA crA) ∧ X.cell? ⟨w.heap.size + 1, 0, none⟩ = some (.int .i64 kB) ∧ X.cell? ⟨w.heap.size + 1, 1, none⟩ = some (.int .i64 loB) ∧ X.cell? ⟨w.heap.size + 1, 2, none⟩ = some (.int .i64 hiB) ∧ X.cell? ⟨w.heap.size + 1, 3, none⟩ = some (.slice anB nnB cnB) ∧ X.cell? ⟨w.heap.size + 1, 4, none⟩ = some (.slice apB npB cpB) ∧ X.cell? ⟨w.heap.size + 1, 5, none⟩ = some (.slice arB nrB crB)) := hid_of (fun X hX => by
        refine ⟨⟨?_, ?_⟩, HC.out X (E5.out.trans (hX.mono E5.out.size))⟩
        · rw [hb1]; exact conv_pre ((hX.block _ (lt_of_block X5.out)).trans X5.out) (by have := HM1.out; omega) m1
        · rw [hb2]; exact conv_pre ((hX.block _ (lt_of_block Y5.out)).trans Y5.out) (by have := HM2.out; omega) m2)
      have HQN := HQQ.out m2 (by have := HM1.out; have := HM2.out; omega)
      have K5 : Hid (Below wc.heap.size wc wc.drew) := hid_of (Below.refl _ _).drew
      have b0 : (0 : Int) ≤ (m2 : Int) := by omega
      cases q
      · have heq : (b1.toList == b2.toList) = false := eq_f hb1 hb2 (fun h => by cases HQN.1 h)
        clear HQN hb1 hb2
        go_wp2
        go_region_held3 (fun X => ((convert 33 9 (.slice (some ⟨gx, 0, none⟩) m2 m1)).run Try.prog X = .ok (.string b1) X ∧ (convert 33 9 (.slice (some ⟨gy, 0, none⟩) m2 m2)).run Try.prog X = .ok (.string b2) X) ∧ X.cell? ⟨w.heap.size, 0, none⟩ = some (.int .i64 kA) ∧ X.cell? ⟨w.heap.size, 1, none⟩ = some (.int .i64 loA) ∧ X.cell? ⟨w.heap.size, 2, none⟩ = some (.int .i64 hiA) ∧ X.cell? ⟨w.heap.size, 3, none⟩ = some (.slice anA nnA cnA) ∧ X.cell? ⟨w.heap.size, 4, none⟩ = some (.slice apA npA cpA) ∧ X.cell? ⟨w.heap.size, 5, none⟩ = some (.slice arA nrA crA) ∧ X.cell? ⟨w.heap.size + 1, 0, none⟩ = some (.int .i64 kB) ∧ X.cell? ⟨w.heap.size + 1, 1, none⟩ = some (.int .i64 loB) ∧ X.cell? ⟨w.heap.size + 1, 2, none⟩ = some (.int .i64 hiB) ∧ X.cell? ⟨w.heap.size + 1, 3, none⟩ = some (.slice anB nnB cnB) ∧ X.cell? ⟨w.heap.size + 1, 4, none⟩ = some (.slice apB npB cpB) ∧ X.cell? ⟨w.heap.size + 1, 5, none⟩ = some (.slice arB nrB crB)) (exact HS.out _ (Hid.out (by with_reducible assumption))) (first
          | (go_at_call 12; ((with_reducible refine (EQ.out wc.drew (E5.out.trans (K5.out.mono E5.out.size))).mono ?_); (rintro e w6 ⟨rfl, q1, q2⟩); (have E6 := hid_of q1); (have K6 : Hid (Below wc.heap.size wc w6) := hid_of (undrew q2)); clear q1 q2)))
        all_goals go_wp2
        all_goals go_ret
        all_goals exact ⟨by first | rfl | simp, HBB.out.trans (E6.out.mono HBB.out.size)⟩
      · have heq : (b1.toList == b2.toList) = true := eq_t hb1 hb2 (HQN.2 rfl)
        clear HQN hb1 hb2
        go_wp2
        go_region_held3 (fun X => ((convert 33 9 (.slice (some ⟨gx, 0, none⟩) m2 m1)).run Try.prog X = .ok (.string b1) X ∧ (convert 33 9 (.slice (some ⟨gy, 0, none⟩) m2 m2)).run Try.prog X = .ok (.string b2) X) ∧ X.cell? ⟨w.heap.size, 0, none⟩ = some (.int .i64 kA) ∧ X.cell? ⟨w.heap.size, 1, none⟩ = some (.int .i64 loA) ∧ X.cell? ⟨w.heap.size, 2, none⟩ = some (.int .i64 hiA) ∧ X.cell? ⟨w.heap.size, 3, none⟩ = some (.slice anA nnA cnA) ∧ X.cell? ⟨w.heap.size, 4, none⟩ = some (.slice apA npA cpA) ∧ X.cell? ⟨w.heap.size, 5, none⟩ = some (.slice arA nrA crA) ∧ X.cell? ⟨w.heap.size + 1, 0, none⟩ = some (.int .i64 kB) ∧ X.cell? ⟨w.heap.size + 1, 1, none⟩ = some (.int .i64 loB) ∧ X.cell? ⟨w.heap.size + 1, 2, none⟩ = some (.int .i64 hiB) ∧ X.cell? ⟨w.heap.size + 1, 3, none⟩ = some (.slice anB nnB cnB) ∧ X.cell? ⟨w.heap.size + 1, 4, none⟩ = some (.slice apB npB cpB) ∧ X.cell? ⟨w.heap.size + 1, 5, none⟩ = some (.slice arB nrB crB)) (exact HS.out _ (Hid.out (by with_reducible assumption))) (first
          | (go_at_call 12; ((with_reducible refine (EQ.out wc.drew (E5.out.trans (K5.out.mono E5.out.size))).mono ?_); (rintro e w6 ⟨rfl, q1, q2⟩); (have E6 := hid_of q1); (have K6 : Hid (Below wc.heap.size wc w6) := hid_of (undrew q2)); clear q1 q2)))
        all_goals go_wp2
        all_goals go_ret
        all_goals exact ⟨by first | rfl | simp, HBB.out.trans (E6.out.mono HBB.out.size)⟩
    · have hd : decide (m2 < m1) = false := by simp; omega
      have UX := upto_u8 gx 0 m1 m1 m1 (by omega)
      have UY := upto_u8 gy 0 m2 m2 m1 (by omega)
      obtain ⟨b1, hb1⟩ : ∃ b1, b1 = ba (strU (M.take m1)) := ⟨_, rfl⟩
      obtain ⟨b2, hb2⟩ : ∃ b2, b2 = ba (strU (N.take m1)) := ⟨_, rfl⟩
      have HS : Hid (∀ X, Below wc.heap.size wc X → ((convert 33 9 (.slice (some ⟨gx, 0, none⟩) m1 m1)).run Try.prog X = .ok (.string b1) X ∧ (convert 33 9 (.slice (some ⟨gy, 0, none⟩) m1 m2)).run Try.prog X = .ok (.string b2) X) ∧ X.cell? ⟨w.heap.size, 0, none⟩ = some (.int .i64 kA) ∧ X.cell? ⟨w.heap.size, 1, none⟩ = some (.int .i64 loA) ∧ X.cell? ⟨w.heap.size, 2, none⟩ = some (.int .i64 hiA) ∧ X.cell? ⟨w.heap.size, 3, none⟩ = some (.slice anA nnA cnA) ∧ X.cell? ⟨w.heap.size, 4, none⟩ = some (.slice apA npA cpA) ∧ X.cell? ⟨w.heap.size, 5, none⟩ = some (.slice arA nrA crA) ∧ X.cell? ⟨w.heap.size + 1, 0, none⟩ = some (.int .i64 kB) ∧ X.cell? ⟨w.heap.size + 1, 1, none⟩ = some (.int .i64 loB) ∧ X.cell? ⟨w.heap.size + 1, 2, none⟩ = some (.int .i64 hiB) ∧ X.cell? ⟨w.heap.size + 1, 3, none⟩ = some (.slice anB nnB cnB) ∧ X.cell? ⟨w.heap.size + 1, 4, none⟩ = some (.slice apB npB cpB) ∧ X.cell? ⟨w.heap.size + 1, 5, none⟩ = some (.slice arB nrB crB)) := hid_of (fun X hX => by
        refine ⟨⟨?_, ?_⟩, HC.out X (E5.out.trans (hX.mono E5.out.size))⟩
        · rw [hb1]; exact conv_pre ((hX.block _ (lt_of_block X5.out)).trans X5.out) (by have := HM1.out; omega) m1
        · rw [hb2]; exact conv_pre ((hX.block _ (lt_of_block Y5.out)).trans Y5.out) (by have := HM2.out; omega) m2)
      have HQN := HQQ.out m1 (by have := HM1.out; have := HM2.out; omega)
      have K5 : Hid (Below wc.heap.size wc wc.drew) := hid_of (Below.refl _ _).drew
      have b0 : (0 : Int) ≤ (m1 : Int) := by omega
      cases q
      · have heq : (b1.toList == b2.toList) = false := eq_f hb1 hb2 (fun h => by cases HQN.1 h)
        clear HQN hb1 hb2
        go_wp2
        go_region_held3 (fun X => ((convert 33 9 (.slice (some ⟨gx, 0, none⟩) m1 m1)).run Try.prog X = .ok (.string b1) X ∧ (convert 33 9 (.slice (some ⟨gy, 0, none⟩) m1 m2)).run Try.prog X = .ok (.string b2) X) ∧ X.cell? ⟨w.heap.size, 0, none⟩ = some (.int .i64 kA) ∧ X.cell? ⟨w.heap.size, 1, none⟩ = some (.int .i64 loA) ∧ X.cell? ⟨w.heap.size, 2, none⟩ = some (.int .i64 hiA) ∧ X.cell? ⟨w.heap.size, 3, none⟩ = some (.slice anA nnA cnA) ∧ X.cell? ⟨w.heap.size, 4, none⟩ = some (.slice apA npA cpA) ∧ X.cell? ⟨w.heap.size, 5, none⟩ = some (.slice arA nrA crA) ∧ X.cell? ⟨w.heap.size + 1, 0, none⟩ = some (.int .i64 kB) ∧ X.cell? ⟨w.heap.size + 1, 1, none⟩ = some (.int .i64 loB) ∧ X.cell? ⟨w.heap.size + 1, 2, none⟩ = some (.int .i64 hiB) ∧ X.cell? ⟨w.heap.size + 1, 3, none⟩ = some (.slice anB nnB cnB) ∧ X.cell? ⟨w.heap.size + 1, 4, none⟩ = some (.slice apB npB cpB) ∧ X.cell? ⟨w.heap.size + 1, 5, none⟩ = some (.slice arB nrB crB)) (exact HS.out _ (Hid.out (by with_reducible assumption))) (first
          | (go_at_call 12; ((with_reducible refine (EQ.out wc.drew (E5.out.trans (K5.out.mono E5.out.size))).mono ?_); (rintro e w6 ⟨rfl, q1, q2⟩); (have E6 := hid_of q1); (have K6 : Hid (Below wc.heap.size wc w6) := hid_of (undrew q2)); clear q1 q2)))
        all_goals go_wp2
        all_goals go_ret
        all_goals exact ⟨by first | rfl | simp, HBB.out.trans (E6.out.mono HBB.out.size)⟩
      · have heq : (b1.toList == b2.toList) = true := eq_t hb1 hb2 (HQN.2 rfl)
        clear HQN hb1 hb2
        go_wp2
        go_region_held3 (fun X => ((convert 33 9 (.slice (some ⟨gx, 0, none⟩) m1 m1)).run Try.prog X = .ok (.string b1) X ∧ (convert 33 9 (.slice (some ⟨gy, 0, none⟩) m1 m2)).run Try.prog X = .ok (.string b2) X) ∧ X.cell? ⟨w.heap.size, 0, none⟩ = some (.int .i64 kA) ∧ X.cell? ⟨w.heap.size, 1, none⟩ = some (.int .i64 loA) ∧ X.cell? ⟨w.heap.size, 2, none⟩ = some (.int .i64 hiA) ∧ X.cell? ⟨w.heap.size, 3, none⟩ = some (.slice anA nnA cnA) ∧ X.cell? ⟨w.heap.size, 4, none⟩ = some (.slice apA npA cpA) ∧ X.cell? ⟨w.heap.size, 5, none⟩ = some (.slice arA nrA crA) ∧ X.cell? ⟨w.heap.size + 1, 0, none⟩ = some (.int .i64 kB) ∧ X.cell? ⟨w.heap.size + 1, 1, none⟩ = some (.int .i64 loB) ∧ X.cell? ⟨w.heap.size + 1, 2, none⟩ = some (.int .i64 hiB) ∧ X.cell? ⟨w.heap.size + 1, 3, none⟩ = some (.slice anB nnB cnB) ∧ X.cell? ⟨w.heap.size + 1, 4, none⟩ = some (.slice apB npB cpB) ∧ X.cell? ⟨w.heap.size + 1, 5, none⟩ = some (.slice arB nrB crB)) (exact HS.out _ (Hid.out (by with_reducible assumption))) (first
          | (go_at_call 12; ((with_reducible refine (EQ.out wc.drew (E5.out.trans (K5.out.mono E5.out.size))).mono ?_); (rintro e w6 ⟨rfl, q1, q2⟩); (have E6 := hid_of q1); (have K6 : Hid (Below wc.heap.size wc w6) := hid_of (undrew q2)); clear q1 q2)))
        all_goals go_wp2
        all_goals go_ret
        all_goals exact ⟨by first | rfl | simp, HBB.out.trans (E6.out.mono HBB.out.size)⟩
theorem apart_law (t u : Lat) (kA loA hiA : Int) (anA : Option Addr) (nnA cnA : Nat) (apA : Option Addr) (npA cpA : Nat) (arA : Option Addr) (nrA crA : Nat) (kB loB hiB : Int) (anB : Option Addr) (nnB cnB : Nat) (apB : Option Addr) (npB cpB : Nat) (arB : Option Addr) (nrB crB : Nat) (w : World) (H1 : LO w kA loA hiA anA nnA cnA apA npA cpA arA nrA crA t) (H2 : LO w kB loB hiB anB nnB cnB apB npB cpB arB nrB crB u) : Calls Try.prog 7 #[.agg #[.int .i64 kA, .int .i64 loA, .int .i64 hiA, .slice anA nnA cnA, .slice apA npA cpA, .slice arA nrA crA], .agg #[.int .i64 kB, .int .i64 loB, .int .i64 hiB, .slice anB nnB cnB, .slice apB npB cpB, .slice arB nrB crB]] w (BoP true w) := by
  by_cases c1 : chkL t = 0
  · by_cases c2 : chkL u = 0
    · exact apart_main t u kA loA hiA anA nnA cnA apA npA cpA arA nrA crA kB loB hiB anB nnB cnB apB npB cpB arB nrB crB w H1 H2 c1 c2
    · exact apart_bad2 t u kA loA hiA anA nnA cnA apA npA cpA arA nrA crA kB loB hiB anB nnB cnB apB npB cpB arB nrB crB w H1 H2 c1 c2
  · exact apart_bad1 t u kA loA hiA anA nnA cnA apA npA cpA arA nrA crA kB loB hiB anB nnB cnB apB npB cpB arB nrB crB w H1 H2 c1
end Go.Proofs.Ytgbadiajdhehpaa
