/- Rows of structs of 3 cells: what a slice reads as, a slice of the call's own, append. Bounds on sizes alone. -/
import Derived.Test.YtdacalplnggnoaaDoorRow
namespace Go.Proofs.YtdacalplnggnoaaDoor
open Go.RowKit

structure NdV where
  a : Value
  b : Value
  c : Value
def NdV.cs (t : NdV) : List Value := [t.a, t.b, t.c]
/-- The cells of a list of structs. -/
def ndds (l : List NdV) : List Value := l.flatMap NdV.cs
theorem ndds_length (l : List NdV) : (ndds l).length = l.length * 3 := by
  induction l with
  | nil => rfl
  | cons t r ih => simp only [ndds, NdV.cs, List.flatMap_cons, List.length_append, List.length_cons, List.length_nil] at ih ⊢; omega
theorem ndds_append (a b : List NdV) : ndds (a ++ b) = ndds a ++ ndds b := by simp [ndds]
theorem ndds_get : ∀ (l : List NdV) (i : Nat) (t : NdV), l[i]? = some t → (ndds l)[i * 3]? = some t.a ∧ (ndds l)[i * 3 + 1]? = some t.b ∧ (ndds l)[i * 3 + 2]? = some t.c := by
  intro l
  induction l with
  | nil => intro i t h; simp at h
  | cons s r ih =>
    intro i t h
    cases i with
    | zero => simp at h; subst h; exact ⟨rfl, rfl, rfl⟩
    | succ i =>
      have h1 := ih i t (by simpa using h)
      have e : ndds (s :: r) = s.a :: s.b :: s.c :: ndds r := rfl
      rw [e, show (i + 1) * 3 = i * 3 + 1 + 1 + 1 by omega]
      exact h1
/-- The slice v reads as the structs l. -/
def NdRd (w : World) (v : Value) (l : List NdV) : Prop :=
  ∃ ao cap, v = .slice ao l.length cap ∧ l.length ≤ cap ∧ cap ≤ 9223372036854775807 ∧ (0 < l.length → ∃ g o, ao = some ⟨g, o, none⟩ ∧ g < w.heap.size ∧ ∀ i t, l[i]? = some t → w.cell? ⟨g, o + i * 3, none⟩ = some t.a ∧ w.cell? ⟨g, o + i * 3 + 1, none⟩ = some t.b ∧ w.cell? ⟨g, o + i * 3 + 2, none⟩ = some t.c)
theorem NdRd.later {w w' : World} {v : Value} {l : List NdV} {B : Nat} (h : NdRd w v l) (hb : Below B w w') (hB : w.heap.size ≤ B) : NdRd w' v l := by
  obtain ⟨ao, cap, h1, h2, h3, h4⟩ := h
  refine ⟨ao, cap, h1, h2, h3, fun h0 => ?_⟩
  obtain ⟨g, o, q1, q2, q3⟩ := h4 h0
  refine ⟨g, o, q1, Nat.lt_of_lt_of_le q2 hb.size, fun i t ht => ?_⟩
  obtain ⟨r1, r2, r3⟩ := q3 i t ht
  exact ⟨(hb.cell (p := ⟨g, o + i * 3, none⟩) (by show g < B; omega)).trans r1, (hb.cell (p := ⟨g, o + i * 3 + 1, none⟩) (by show g < B; omega)).trans r2, (hb.cell (p := ⟨g, o + i * 3 + 2, none⟩) (by show g < B; omega)).trans r3⟩
theorem NdRd.at {w w' : World} {v : Value} {l : List NdV} (h : NdRd w v l) (hb : Below w.heap.size w w') : NdRd w' v l := h.later hb (Nat.le_refl _)
theorem ndrd_nil (w : World) : NdRd w (.slice none 0 0) [] := ⟨none, 0, rfl, Nat.le_refl _, by omega, fun h => by simp at h⟩
theorem NdRd.cut {w : World} {ao : Option Addr} {n cap : Nat} {l : List NdV} (h : NdRd w (.slice ao n cap) l) : n = l.length ∧ n ≤ cap ∧ cap ≤ 9223372036854775807 := by
  obtain ⟨_, _, e, h2, h3, _⟩ := h
  simp only [Value.slice.injEq] at e
  omega
theorem NdRd.get {w : World} {ao : Option Addr} {n cap : Nat} {l : List NdV} (h : NdRd w (.slice ao n cap) l) {i : Nat} {t : NdV} (hi : l[i]? = some t) : ∃ g o, ao = some ⟨g, o, none⟩ ∧ w.cell? ⟨g, o + i * 3, none⟩ = some t.a ∧ w.cell? ⟨g, o + i * 3 + 1, none⟩ = some t.b ∧ w.cell? ⟨g, o + i * 3 + 2, none⟩ = some t.c := by
  obtain ⟨_, _, e, h2, h3, h4⟩ := h
  simp only [Value.slice.injEq] at e
  obtain ⟨rfl, _, rfl⟩ := e
  obtain ⟨g, o, q1, _, q3⟩ := h4 (by have := (List.getElem?_eq_some_iff.1 hi).1; omega)
  exact ⟨g, o, q1, q3 i t hi⟩

/-- A slice of the call's own that holds l; below B the world is as w0 was. -/
def ONd (E : TypeId) (B : Nat) (w0 w : World) (v : Value) (l : List NdV) : Prop := B ≤ w0.heap.size ∧ Below B w0 w ∧ w.ownsRow B E 3 v l.length (ndds l)
section
variable {E : TypeId} {B : Nat} {w0 w w' : World} {v : Value} {l : List NdV}
theorem ONd.size (h : ONd E B w0 w v l) : B ≤ w.heap.size := Nat.le_trans h.1 h.2.1.size
theorem ONd.own (h : ONd E B w0 w v l) : w.ownsRow B E 3 v l.length (ndds l) := h.2.2
theorem ONd.bel (h : ONd E B w0 w v l) : Below B w0 w := h.2.1
theorem ONd.app {n : Nat} {v' : Value} {m : List NdV} (h : ONd E B w0 w v l) (hown : w'.ownsRow B E 3 v' n (ndds l ++ ndds m)) (hn : n = l.length + m.length) (hg : w.grownBy w' v.ownBlock) : ONd E B w0 w' v' (l ++ m) := by
  subst hn
  refine ⟨h.1, h.2.1.grown hg h.size (fun k hk => (h.own.lt k hk).1), ?_⟩
  rw [List.length_append, ndds_append]
  exact hown
theorem ONd.alloc (h : ONd E B w0 w v l) (o : Obj) : ONd E B w0 (w.alloc o) v l := ⟨h.1, h.2.1.alloc h.size _, h.2.2.alloc o⟩
theorem ONd.drewN (h : ONd E B w0 w v l) (k : Nat) : ONd E B w0 (w.drewN k) v l := ⟨h.1, ⟨h.2.1.os, h.2.1.tape, h.2.1.output, h.2.1.size, h.2.1.block⟩, h.2.2⟩
theorem ONd.drew (h : ONd E B w0 w v l) : ONd E B w0 w.drew v l := ⟨h.1, h.2.1.drew, h.2.2.drew⟩
theorem ONd.later (h : ONd E B w0 w v l) (hb : Below w.heap.size w w') : ONd E B w0 w' v l :=
  ⟨h.1, h.2.1.trans (hb.mono h.size), own_same h.own fun k hk => hb.block k (h.own.lt k hk).2⟩
theorem ond_nil (E : TypeId) (w : World) : ONd E w.heap.size w w (.slice none 0 0) [] := ⟨Nat.le_refl _, Below.refl _ _, ⟨by simp [ndds], .inl ⟨rfl, rfl⟩⟩⟩
theorem ONd.start (h : ONd E B w0 w v l) {B2 : Nat} {w2 : World} (hB : B2 ≤ w2.heap.size) (hb : Below B2 w2 w0) (hle : B2 ≤ B) : ONd E B2 w2 w v l := by
  refine ⟨hB, hb.trans (h.bel.mono hle), h.own.1, ?_⟩
  rcases h.own.2 with h2 | ⟨g, cap, cur, hv, hb2, hg, r⟩
  · exact .inl h2
  · exact .inr ⟨g, cap, cur, hv, Nat.le_trans hle hb2, hg, r⟩
theorem nd_rd_of_own (h : w.ownsRow B E 3 v l.length (ndds l)) : NdRd w v l := by
  rcases h.2 with ⟨h1, h2⟩ | ⟨g, c, cur, h1, _, hg, hnc, hcm, _, ht⟩
  · exact ⟨none, 0, by rw [h1, h2], by omega, by omega, fun h => by omega⟩
  · unfold maxLen at hcm
    refine ⟨_, _, h1, hnc, by omega, fun h0 => ⟨g, 0, rfl, lt_of_block hg, fun i t hi => ?_⟩⟩
    obtain ⟨g1, g2, g3⟩ := ndds_get l i t hi
    have q : ∀ j u, (ndds l)[j]? = some u → w.cell? ⟨g, 0 + j, none⟩ = some u := fun j u hu => by
      have := World.news_of_block hg j u (by
        rw [← ht, List.getElem?_take] at hu
        split at hu
        · exact hu
        · cases hu)
      rw [Addr.add_mid] at this
      exact this
    exact ⟨q _ _ g1, q _ _ g2, q _ _ g3⟩
theorem ONd.rd (h : ONd E B w0 w v l) : NdRd w v l := nd_rd_of_own h.own
end
/-- A slice type S over a struct type E of 3 cells. -/
structure Elem3 (P : Program) (S E : TypeId) (z : Value) (eb : Nat) : Prop where
  und : P.underlying S = some (.slice E)
  info : (P.info? E).map (fun i => (i.zero, i.size, i.bytes)) = some (some z, 3, eb)
  cells : z.cells.size = 3
theorem NdRd.src {P : Program} {S E : TypeId} {z : Value} {eb : Nat} (T : Elem3 P S E z eb) {w : World} {v : Value} {l : List NdV} (h : NdRd w v l) (h1 : ∀ u ∈ ndds l, u.oneCell' = true) : Src P 3 S v l.length (ndds l) w := by
  obtain ⟨ao, cap, rfl, h2, h3, h4⟩ := h
  by_cases h0 : 0 < l.length
  · obtain ⟨g, o, rfl, hg, hc⟩ := h4 h0
    refine Src.ofSlice _ T.und _ _ _ (ndds l) (ndds_length l) (fun j u hu => ?_) h1
    have hj : j < l.length * 3 := by rw [← ndds_length]; exact (List.getElem?_eq_some_iff.1 hu).1
    obtain ⟨t, ht⟩ : ∃ t, l[j / 3]? = some t := ⟨_, List.getElem?_eq_getElem (by omega)⟩
    obtain ⟨c1, c2, c3⟩ := hc _ t ht
    obtain ⟨g1, g2, g3⟩ := ndds_get l _ t ht
    rw [Addr.add_mid]
    have hm : j % 3 = 0 ∨ j % 3 = 1 ∨ j % 3 = 2 := by omega
    rcases hm with hm | hm | hm
    · rw [show j / 3 * 3 = j by omega] at c1 g1
      rw [c1]; exact g1.symm.trans hu
    · rw [show o + j / 3 * 3 + 1 = o + j by omega] at c2
      rw [show j / 3 * 3 + 1 = j by omega] at g2
      rw [c2]; exact g2.symm.trans hu
    · rw [show o + j / 3 * 3 + 2 = o + j by omega] at c3
      rw [show j / 3 * 3 + 2 = j by omega] at g3
      rw [c3]; exact g3.symm.trans hu
  · obtain rfl : l = [] := by cases l with
      | nil => rfl
      | cons a r => simp at h0
    cases ao with
    | none => exact Src.ofNil _ T.und _
    | some a => exact Src.ofSlice _ T.und a _ _ [] rfl (fun j u hu => by simp at hu) (by simp)
/-- append of a row of structs. -/
theorem wpList_nd {P : Program} {S E : TypeId} {z : Value} {eb : Nat} (T : Elem3 P S E z eb) {ops : Array Oper} {rest : List Oper} {o : Oper} {a : Act} {w : World} {Q : Exit → Act → World → Prop} (hgd : o.guard = none) (s x : Operand)
    (ho : o.op = .call { callee := .builtin .append, args := #[s, x], argTypes := #[S, S] })
    {B : Nat} {w0 : World} {v : Value} {l : List NdV} (hv : a.eval s = v) (H : ONd E B w0 w v l) {vx : Value} {m : List NdV} (hx : a.eval x = vx) (L : NdRd w vx m) (h1 : ∀ u ∈ ndds m, u.oneCell' = true) (hl : (l.length + m.length) * eb ≤ 140737488355328) (hl2 : l.length + m.length ≤ 140737488355328)
    (h : ∀ (ao : Option Addr) (n cap : Nat) (w' : World), n = l.length + m.length → ONd E B w0 w' (.slice ao n cap) (l ++ m) → w.grownBy w' v.ownBlock → wpList P ops Q rest (a.put o.dst (.slice ao n cap)) w') :
    wpList P ops Q (o :: rest) a w := by
  obtain ⟨i0, hi, hz0, hz1, hz2⟩ := info_parts T.info
  refine wpList_append_src _ hgd s x S S ho B E i0 z 3 eb T.und hi hz0 hz1 hz2 T.cells (by decide) v l.length (ndds l) hv H.own vx m.length (ndds m) hx (L.src T h1) (by unfold maxLen; omega) (by omega) H.size ?_
  intro v2 w2 hown hg _ _
  have H2 := H.app (m := m) hown rfl hg
  obtain ⟨ao, cap, rfl⟩ := own_shape hown
  exact h ao _ cap w2 rfl H2 hg
theorem ndrd_new {w : World} {t : NdV} {E : TypeId} {m : Nat × Nat} : NdRd (w.alloc (.cells #[t.a, t.b, t.c] E m)) (.slice (some ⟨w.heap.size, 0, none⟩) 1 1) [t] := by
  refine ⟨_, _, rfl, Nat.le_refl _, by simp, fun _ => ⟨_, _, rfl, by simp, fun i u hi => ?_⟩⟩
  have : i = 0 := by have := (List.getElem?_eq_some_iff.1 hi).1; simp at this; omega
  subst this
  simp only [List.getElem?_cons_zero, Option.some.injEq] at hi
  subst hi
  have hb := heap_alloc_new w (.cells #[t.a, t.b, t.c] E m)
  have c0 := World.news_of_block hb 0 t.a rfl
  have c1 := World.news_of_block hb 1 t.b rfl
  have c2 := World.news_of_block hb 2 t.c rfl
  rw [Addr.add_mid] at c0 c1 c2
  exact ⟨c0, c1, c2⟩
end Go.Proofs.YtdacalplnggnoaaDoor
