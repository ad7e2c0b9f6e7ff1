/- Slices of pairs of numbers: what a slice reads as, a slice of the call's own, a slice that came in. Bounds on sizes alone. -/
import Derived.Test.YtjfjcgbdpjpodaaDoorOrdMath
import Derived.Test.YtjfjcgbdpjpodaaDoorRow
import Derived.Test.YtjfjcgbdpjpodaaDoorRows
import Derived.Deep.Slices
import Derived.OpenShut
namespace Go.Proofs.YtjfjcgbdpjpodaaDoor
open Go.RowKit Go.ChangeShapes

abbrev Tk := Int × Int
abbrev R64 (n : Int) : Prop := -9223372036854775808 ≤ n ∧ n ≤ 9223372036854775807
/-- The cells of a list of ticks. -/
def ts (l : List Tk) : List Value := l.flatMap fun t => [.int .i64 t.1, .int .i64 t.2]
theorem ts_length (l : List Tk) : (ts l).length = l.length * 2 := by
  induction l with
  | nil => rfl
  | cons t r ih => simp only [ts, List.flatMap_cons, List.length_append, List.length_cons, List.length_nil] at ih ⊢; omega
theorem ts_append (a b : List Tk) : ts (a ++ b) = ts a ++ ts b := by simp [ts]
theorem ts_one (l : List Tk) : ∀ v ∈ ts l, v.oneCell' = true := by
  intro v hv
  simp only [ts, List.mem_flatMap] at hv
  obtain ⟨t, _, ht⟩ := hv
  simp at ht
  rcases ht with rfl | rfl <;> rfl
theorem ts_get : ∀ (l : List Tk) (i : Nat) (t : Tk), l[i]? = some t → (ts l)[i * 2]? = some (.int .i64 t.1) ∧ (ts l)[i * 2 + 1]? = some (.int .i64 t.2) := by
  intro l
  induction l with
  | nil => intro i t h; simp at h
  | cons s r ih =>
    intro i t h
    cases i with
    | zero => simp at h; subst h; exact ⟨rfl, rfl⟩
    | succ i =>
      have h1 := ih i t (by simpa using h)
      have e : ts (s :: r) = .int .i64 s.1 :: .int .i64 s.2 :: ts r := rfl
      rw [e, show (i + 1) * 2 = i * 2 + 1 + 1 by omega]
      exact h1

/-- The slice v reads as the ticks l. -/
def TRd (w : World) (v : Value) (l : List Tk) : Prop :=
  ∃ ao cap, v = .slice ao l.length cap ∧ l.length ≤ cap ∧ cap ≤ 9223372036854775807 ∧ (0 < l.length → ∃ g o, ao = some ⟨g, o, none⟩ ∧ g < w.heap.size ∧ ∀ i t, l[i]? = some t → w.cell? ⟨g, o + i * 2, none⟩ = some (.int .i64 t.1) ∧ w.cell? ⟨g, o + i * 2 + 1, none⟩ = some (.int .i64 t.2))
theorem TRd.later {w w' : World} {v : Value} {l : List Tk} {B : Nat} (h : TRd w v l) (hb : Below B w w') (hB : w.heap.size ≤ B) : TRd w' v l := by
  obtain ⟨ao, cap, h1, h2, h3, h4⟩ := h
  refine ⟨ao, cap, h1, h2, h3, fun h0 => ?_⟩
  obtain ⟨g, o, q1, q2, q3⟩ := h4 h0
  refine ⟨g, o, q1, Nat.lt_of_lt_of_le q2 hb.size, fun i t ht => ?_⟩
  obtain ⟨r1, r2⟩ := q3 i t ht
  exact ⟨(hb.cell (p := ⟨g, o + i * 2, none⟩) (by show g < B; omega)).trans r1, (hb.cell (p := ⟨g, o + i * 2 + 1, none⟩) (by show g < B; omega)).trans r2⟩
theorem TRd.at {w w' : World} {v : Value} {l : List Tk} (h : TRd w v l) (hb : Below w.heap.size w w') : TRd w' v l := h.later hb (Nat.le_refl _)
theorem TRd.drewN {w : World} {v : Value} {l : List Tk} (h : TRd w v l) (n : Nat) : TRd (w.drewN n) v l := h.at (bel_drewN (Below.refl _ _) n)
theorem trd_nil (w : World) : TRd w (.slice none 0 0) [] := ⟨none, 0, rfl, Nat.le_refl _, by omega, fun h => by simp at h⟩
theorem TRd.cut {w : World} {ao : Option Addr} {n cap : Nat} {l : List Tk} (h : TRd w (.slice ao n cap) l) : n = l.length ∧ n ≤ cap ∧ cap ≤ 9223372036854775807 := by
  obtain ⟨_, _, e, h2, h3, _⟩ := h
  simp only [Value.slice.injEq] at e
  omega

/-- A slice of ticks that came in. -/
def TIn (w : World) (a : Option Addr) (len cap : Nat) (l : List Tk) : Prop := TRd w (.slice a len cap) l ∧ ∀ t ∈ l, R64 t.1 ∧ R64 t.2

theorem i64_wf {n : Int} (h : (Lit.int .i64 n).wf = true) : R64 n := by
  simpa [Lit.wf, IntKind.min, IntKind.max, IntKind.signed, IntKind.bits] using h
theorem pr_cells {w : World} {base : Nat} {a : Addr} {cs : List Value} (h : w.cells? base a 2 = some cs) : ∃ v0 v1, cs = [v0, v1] ∧ w.cell? a = some v0 ∧ w.cell? (a.add 1) = some v1 := by
  obtain ⟨_, hlen, hcell⟩ := World.cells?_some h
  match cs, hlen with
  | [v0, v1], _ =>
    have e0 := hcell 0 (by omega)
    have e1 := hcell 1 (by omega)
    refine ⟨v0, v1, rfl, ?_, ?_⟩
    · have : a.add 0 = a := by cases a with | mk b o s => cases s <;> simp [Addr.add]
      rw [this] at e0; simpa using e0
    · simpa using e1
theorem Tryd.cellsPr : Tryd.prog.cellsOf 44 = 2 := by kernel_rfl
theorem Tryd.cellsInt : Tryd.prog.cellsOf 3 = 1 := by kernel_rfl
theorem open_prs {H : Type} {enc : TypeId × Value → H} {w : World} {fuel len cap : Nat} {a : Option Addr} {x : DataW H × List MemPlace} (h : DataW.trod enc Tryd.prog w 0 (fun _ => true) true fuel 22 [.slice a len cap] = some x) :
    ∃ l, TIn w a len cap l := by
  rcases Go.Deep.open_slice Tryd.underlying22 h with ⟨e, _⟩ | ⟨ad, len', cap', m, n, D, Pl, e, _, hlc, hcm, hm, _, hel⟩
  · simp only [List.cons.injEq, Value.slice.injEq, and_true] at e
    obtain ⟨rfl, rfl, rfl⟩ := e
    exact ⟨[], trd_nil w, fun t h => by cases h⟩
  · simp only [List.cons.injEq, Value.slice.injEq, and_true] at e
    obtain ⟨rfl, rfl, rfl⟩ := e
    simp only [if_true] at hm
    subst hm
    unfold maxLen at hcm
    have each : ∀ i, i < len → ∃ t : Tk, w.cell? (ad.add (i * 2)) = some (.int .i64 t.1) ∧ w.cell? (ad.add (i * 2 + 1)) = some (.int .i64 t.2) ∧ R64 t.1 ∧ R64 t.2 := by
      intro i hi
      obtain ⟨cs', h1, h2⟩ := hel i (by omega)
      rw [Tryd.cellsPr] at h1
      obtain ⟨v0, v1, rfl, c0, c1⟩ := pr_cells h1
      obtain ⟨xs, k, _, _, _, hxl, hf⟩ := DataW.trod_array Tryd.underlying44 h2
      have g0 := hf 0 (by omega)
      have g1 := hf 1 (by omega)
      rw [Tryd.cellsInt] at g0 g1
      rw [List.getElem?_eq_getElem (by omega)] at g0 g1
      obtain ⟨p, e0, _, w0⟩ := DataW.trod_int Tryd.underlying3 g0
      obtain ⟨q, e1, _, w1⟩ := DataW.trod_int Tryd.underlying3 g1
      simp at e0 e1
      rw [e0] at c0
      rw [e1] at c1
      rw [Go.Deep.add_add] at c1
      exact ⟨(p, q), c0, c1, i64_wf w0, i64_wf w1⟩
    haveI : Inhabited Tk := ⟨(0, 0)⟩
    obtain ⟨f, hf⟩ := Go.Deep.choose_lt each
    have hget : ∀ i x, ((List.range len).map f)[i]? = some x → i < len ∧ x = f i := by
      intro i x hx
      simp only [List.getElem?_map] at hx
      rcases hr : (List.range len)[i]? with _ | q
      · rw [hr] at hx; cases hx
      · rw [hr] at hx
        obtain ⟨h1, h2⟩ := List.getElem?_eq_some_iff.1 hr
        simp at h1 h2
        subst h2
        simp at hx
        exact ⟨h1, hx.symm⟩
    refine ⟨(List.range len).map f, ⟨some ad, m, by simp, by simpa using hlc, by omega, fun h0 => ?_⟩, fun t ht => ?_⟩
    · simp at h0
      have h1 := (hf 0 h0).1
      have hx := spot_none h1
      have h2 : ad = ⟨ad.block, ad.off, none⟩ := by
        obtain ⟨b, o, s⟩ := ad
        simp only [Addr.mk.injEq, true_and]
        cases s with
        | none => rfl
        | some s =>
          exfalso
          simp [Addr.add] at hx
      refine ⟨ad.block, ad.off, by rw [← h2], ?_, fun i t ht => ?_⟩
      · have := World.block_lt_of_cell? w _ h1
        rw [h2, Addr.add_mid] at this
        exact this
      · obtain ⟨hi, rfl⟩ := hget i t ht
        have := hf i hi
        rw [h2, Addr.add_mid, Addr.add_mid] at this
        exact ⟨this.1, by have h3 := this.2.1; rwa [← Nat.add_assoc] at h3⟩
    · obtain ⟨i, hi⟩ := List.getElem?_of_mem ht
      obtain ⟨h1, rfl⟩ := hget i t hi
      exact ⟨(hf i h1).2.2.1, (hf i h1).2.2.2⟩

theorem Tryd.infoPr : (Tryd.prog.info? 44).map (fun i => (i.zero, i.size, i.bytes)) = some (some (.agg #[.int .i64 0, .int .i64 0]), 2, 16) := by kernel_rfl

/-- A slice of ticks of the call's own; below B the world is as w0 was. -/
def OT (B : Nat) (w0 w : World) (v : Value) (l : List Tk) : Prop := B ≤ w0.heap.size ∧ Below B w0 w ∧ w.ownsRow B 44 2 v l.length (ts l)
section
variable {B : Nat} {w0 w w' : World} {v : Value} {l : List Tk}
theorem OT.bel (h : OT B w0 w v l) : Below B w0 w := h.2.1
theorem OT.own (h : OT B w0 w v l) : w.ownsRow B 44 2 v l.length (ts l) := h.2.2
theorem OT.size (h : OT B w0 w v l) : B ≤ w.heap.size := Nat.le_trans h.1 h.2.1.size
theorem OT.alloc (h : OT B w0 w v l) (o : Obj) : OT B w0 (w.alloc o) v l := ⟨h.1, h.2.1.alloc h.size _, h.2.2.alloc o⟩
theorem OT.app {n : Nat} {v' : Value} {m : List Tk} (h : OT B w0 w v l) (hown : w'.ownsRow B 44 2 v' n (ts l ++ ts m)) (hn : n = l.length + m.length) (hg : w.grownBy w' v.ownBlock) : OT B w0 w' v' (l ++ m) := by
  subst hn
  refine ⟨h.1, h.2.1.grown hg h.size (fun k hk => (h.own.lt k hk).1), ?_⟩
  rw [List.length_append, ts_append]
  exact hown
theorem OT.later (h : OT B w0 w v l) (hb : Below w.heap.size w w') : OT B w0 w' v l :=
  ⟨h.1, h.2.1.trans (hb.mono h.size), own_same h.own fun k hk => hb.block k (h.own.lt k hk).2⟩
theorem ot_nil (w : World) : OT w.heap.size w w (.slice none 0 0) [] := ⟨Nat.le_refl _, Below.refl _ _, World.ownsRow_nil _ _ _ _⟩
theorem OT.rd (h : OT B w0 w v l) : TRd w v l := by
  rcases h.own.2 with ⟨h1, h2⟩ | ⟨g, c, cur, h1, _, hg, hnc, hcm, _, ht⟩
  · exact ⟨none, 0, by rw [h1, h2], by omega, by omega, fun h => by omega⟩
  · unfold maxLen at hcm
    refine ⟨_, _, h1, hnc, by omega, fun h0 => ⟨g, 0, rfl, lt_of_block hg, fun i t hi => ?_⟩⟩
    obtain ⟨r1, r2⟩ := ts_get l i t hi
    have cell : ∀ (j : Nat) (u : Value), (ts l)[j]? = some u → w.cell? ⟨g, 0 + j, none⟩ = some u := fun j u hu => by
      have := World.news_of_block hg j u (by
        rw [← ht, List.getElem?_take] at hu
        split at hu
        · exact hu
        · cases hu)
      rw [Addr.add_mid] at this
      exact this
    exact ⟨cell _ _ r1, by rw [Nat.add_assoc]; exact cell _ _ r2⟩
end
/-- A slice over a block that was made last. -/
theorem trd_new {w : World} {l : List Tk} {n : Nat} {cs : Array Value} {E : TypeId} {m : Nat × Nat} (hn : n = l.length) (hc : cs = (ts l).toArray) (h : l.length ≤ 9223372036854775807) : TRd (w.alloc (.cells cs E m)) (.slice (some ⟨w.heap.size, 0, none⟩) n n) l := by
  subst hn hc
  refine ⟨_, _, rfl, Nat.le_refl _, h, fun _ => ⟨_, _, rfl, by simp, fun i t hi => ?_⟩⟩
  obtain ⟨r1, r2⟩ := ts_get l i t hi
  have cell : ∀ (j : Nat) (u : Value), (ts l)[j]? = some u → (w.alloc (.cells (ts l).toArray E m)).cell? ⟨w.heap.size, 0 + j, none⟩ = some u := fun j u hu => by
    have := World.news_of_block (heap_alloc_new w (.cells (ts l).toArray E m)) j u (by simpa using hu)
    rw [Addr.add_mid] at this
    exact this
  exact ⟨cell _ _ r1, by rw [Nat.add_assoc]; exact cell _ _ r2⟩
/-- append of one tick. -/
theorem wpList_pr {ops : Array Oper} {rest : List Oper} {o : Oper} {a : Act} {Q : Exit → Act → World → Prop} (hgd : o.guard = none) (s x : Operand)
    (ho : o.op = .call { callee := .builtin .append, args := #[s, x], argTypes := #[22, 22] })
    {B : Nat} {w0 w : World} {v : Value} {l : List Tk} (hv : a.eval s = v) (H : OT B w0 w v l) (t : Tk) (hx : a.eval x = .slice (some ⟨w.heap.size, 0, none⟩) 1 1) (hl : l.length ≤ 1000000000)
    (h : ∀ (ao : Option Addr) (n cap : Nat) (w' : World), n = l.length + 1 → OT B w0 w' (.slice ao n cap) (l ++ [t]) → wpList Tryd.prog ops Q rest (a.put o.dst (.slice ao n cap)) w') :
    wpList Tryd.prog ops Q (o :: rest) a (w.alloc (.cells #[.int .i64 t.1, .int .i64 t.2] 44)) := by
  obtain ⟨i0, hi, hz0, hz1, hz2⟩ := info_parts Tryd.infoPr
  have HA := H.alloc (.cells #[.int .i64 t.1, .int .i64 t.2] 44)
  have hsrc : Src Tryd.prog 2 22 (.slice (some ⟨w.heap.size, 0, none⟩) 1 1) 1 (ts [t]) (w.alloc (.cells #[.int .i64 t.1, .int .i64 t.2] 44)) := by
    refine Src.ofSlice _ Tryd.underlying22 _ 1 1 (ts [t]) rfl (fun j u hu => ?_) (ts_one _)
    exact World.news_of_block (heap_alloc_new w (.cells #[.int .i64 t.1, .int .i64 t.2] 44)) j u (by simpa [ts] using hu)
  refine wpList_append_src _ hgd s x 22 22 ho B 44 i0 (.agg #[.int .i64 0, .int .i64 0]) 2 16 Tryd.underlying22 hi hz0 hz1 hz2 rfl (by decide) v l.length (ts l) hv HA.own _ 1 (ts [t]) hx hsrc (by unfold maxLen; omega) (by omega) HA.size ?_
  intro v2 w2 hown hg _ _
  have H2 := HA.app (m := [t]) hown rfl hg
  obtain ⟨ao, cap, rfl⟩ := own_shape hown
  exact h ao _ cap w2 rfl H2
end Go.Proofs.YtjfjcgbdpjpodaaDoor
