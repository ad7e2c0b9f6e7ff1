/- Rows of structs of 6 cells: what a slice reads as, a slice of the call's own, append. Bounds on sizes alone. -/
import Derived.Test.YtoogcafceghdjaaRow
namespace Go.Proofs.Ytoogcafceghdjaa
open Go.RowKit

structure SxV where
  a : Value
  b : Value
  c : Value
  d : Value
  e : Value
  f : Value
def SxV.cs (t : SxV) : List Value := [t.a, t.b, t.c, t.d, t.e, t.f]
/-- The cells of a list of structs. -/
def sxds (l : List SxV) : List Value := l.flatMap SxV.cs
theorem sxds_length (l : List SxV) : (sxds l).length = l.length * 6 := by
  induction l with
  | nil => rfl
  | cons t r ih => simp only [sxds, SxV.cs, List.flatMap_cons, List.length_append, List.length_cons, List.length_nil] at ih ⊢; omega
theorem sxds_append (a b : List SxV) : sxds (a ++ b) = sxds a ++ sxds b := by simp [sxds]
theorem sxds_get : ∀ (l : List SxV) (i : Nat) (t : SxV), l[i]? = some t → (sxds l)[i * 6]? = some t.a ∧ (sxds l)[i * 6 + 1]? = some t.b ∧ (sxds l)[i * 6 + 2]? = some t.c ∧ (sxds l)[i * 6 + 3]? = some t.d ∧ (sxds l)[i * 6 + 4]? = some t.e ∧ (sxds l)[i * 6 + 5]? = some t.f := by
  intro l
  induction l with
  | nil => intro i t h; simp at h
  | cons s r ih =>
    intro i t h
    cases i with
    | zero => simp at h; subst h; exact ⟨rfl, rfl, rfl, rfl, rfl, rfl⟩
    | succ i =>
      have h1 := ih i t (by simpa using h)
      have e : sxds (s :: r) = s.a :: s.b :: s.c :: s.d :: s.e :: s.f :: sxds r := rfl
      rw [e, show (i + 1) * 6 = i * 6 + 1 + 1 + 1 + 1 + 1 + 1 by omega]
      exact h1
/-- The slice v reads as the structs l. -/
def SxRd (w : World) (v : Value) (l : List SxV) : Prop :=
  ∃ ao cap, v = .slice ao l.length cap ∧ l.length ≤ cap ∧ cap ≤ 9223372036854775807 ∧ (0 < l.length → ∃ g o, ao = some ⟨g, o, none⟩ ∧ g < w.heap.size ∧ ∀ i t, l[i]? = some t → w.cell? ⟨g, o + i * 6, none⟩ = some t.a ∧ w.cell? ⟨g, o + i * 6 + 1, none⟩ = some t.b ∧ w.cell? ⟨g, o + i * 6 + 2, none⟩ = some t.c ∧ w.cell? ⟨g, o + i * 6 + 3, none⟩ = some t.d ∧ w.cell? ⟨g, o + i * 6 + 4, none⟩ = some t.e ∧ w.cell? ⟨g, o + i * 6 + 5, none⟩ = some t.f)
theorem SxRd.later {w w' : World} {v : Value} {l : List SxV} {B : Nat} (h : SxRd w v l) (hb : Below B w w') (hB : w.heap.size ≤ B) : SxRd w' v l := by
  obtain ⟨ao, cap, h1, h2, h3, h4⟩ := h
  refine ⟨ao, cap, h1, h2, h3, fun h0 => ?_⟩
  obtain ⟨g, o, q1, q2, q3⟩ := h4 h0
  refine ⟨g, o, q1, Nat.lt_of_lt_of_le q2 hb.size, fun i t ht => ?_⟩
  obtain ⟨r1, r2, r3, r4, r5, r6⟩ := q3 i t ht
  exact ⟨(hb.cell (p := ⟨g, o + i * 6, none⟩) (by show g < B; omega)).trans r1, (hb.cell (p := ⟨g, o + i * 6 + 1, none⟩) (by show g < B; omega)).trans r2, (hb.cell (p := ⟨g, o + i * 6 + 2, none⟩) (by show g < B; omega)).trans r3, (hb.cell (p := ⟨g, o + i * 6 + 3, none⟩) (by show g < B; omega)).trans r4, (hb.cell (p := ⟨g, o + i * 6 + 4, none⟩) (by show g < B; omega)).trans r5, (hb.cell (p := ⟨g, o + i * 6 + 5, none⟩) (by show g < B; omega)).trans r6⟩
theorem SxRd.at {w w' : World} {v : Value} {l : List SxV} (h : SxRd w v l) (hb : Below w.heap.size w w') : SxRd w' v l := h.later hb (Nat.le_refl _)
theorem sxrd_nil (w : World) : SxRd w (.slice none 0 0) [] := ⟨none, 0, rfl, Nat.le_refl _, by omega, fun h => by simp at h⟩
theorem SxRd.cut {w : World} {ao : Option Addr} {n cap : Nat} {l : List SxV} (h : SxRd w (.slice ao n cap) l) : n = l.length ∧ n ≤ cap ∧ cap ≤ 9223372036854775807 := by
  obtain ⟨_, _, e, h2, h3, _⟩ := h
  simp only [Value.slice.injEq] at e
  omega
theorem SxRd.get {w : World} {ao : Option Addr} {n cap : Nat} {l : List SxV} (h : SxRd w (.slice ao n cap) l) {i : Nat} {t : SxV} (hi : l[i]? = some t) : ∃ g o, ao = some ⟨g, o, none⟩ ∧ w.cell? ⟨g, o + i * 6, none⟩ = some t.a ∧ w.cell? ⟨g, o + i * 6 + 1, none⟩ = some t.b ∧ w.cell? ⟨g, o + i * 6 + 2, none⟩ = some t.c ∧ w.cell? ⟨g, o + i * 6 + 3, none⟩ = some t.d ∧ w.cell? ⟨g, o + i * 6 + 4, none⟩ = some t.e ∧ w.cell? ⟨g, o + i * 6 + 5, none⟩ = some t.f := by
  obtain ⟨_, _, e, h2, h3, h4⟩ := h
  simp only [Value.slice.injEq] at e
  obtain ⟨rfl, _, rfl⟩ := e
  obtain ⟨g, o, q1, _, q3⟩ := h4 (by have := (List.getElem?_eq_some_iff.1 hi).1; omega)
  exact ⟨g, o, q1, q3 i t hi⟩

/-- A slice of the call's own that holds l; below B the world is as w0 was. -/
def OSx (E : TypeId) (B : Nat) (w0 w : World) (v : Value) (l : List SxV) : Prop := B ≤ w0.heap.size ∧ Below B w0 w ∧ w.ownsRow B E 6 v l.length (sxds l)
section
variable {E : TypeId} {B : Nat} {w0 w w' : World} {v : Value} {l : List SxV}
theorem OSx.size (h : OSx E B w0 w v l) : B ≤ w.heap.size := Nat.le_trans h.1 h.2.1.size
theorem OSx.own (h : OSx E B w0 w v l) : w.ownsRow B E 6 v l.length (sxds l) := h.2.2
theorem OSx.bel (h : OSx E B w0 w v l) : Below B w0 w := h.2.1
theorem OSx.app {n : Nat} {v' : Value} {m : List SxV} (h : OSx E B w0 w v l) (hown : w'.ownsRow B E 6 v' n (sxds l ++ sxds m)) (hn : n = l.length + m.length) (hg : w.grownBy w' v.ownBlock) : OSx E B w0 w' v' (l ++ m) := by
  subst hn
  refine ⟨h.1, h.2.1.grown hg h.size (fun k hk => (h.own.lt k hk).1), ?_⟩
  rw [List.length_append, sxds_append]
  exact hown
theorem OSx.alloc (h : OSx E B w0 w v l) (o : Obj) : OSx E B w0 (w.alloc o) v l := ⟨h.1, h.2.1.alloc h.size _, h.2.2.alloc o⟩
theorem OSx.drewN (h : OSx E B w0 w v l) (k : Nat) : OSx E B w0 (w.drewN k) v l := ⟨h.1, ⟨h.2.1.os, h.2.1.tape, h.2.1.output, h.2.1.size, h.2.1.block⟩, h.2.2⟩
theorem OSx.drew (h : OSx E B w0 w v l) : OSx E B w0 w.drew v l := ⟨h.1, h.2.1.drew, h.2.2.drew⟩
theorem OSx.later (h : OSx E B w0 w v l) (hb : Below w.heap.size w w') : OSx E B w0 w' v l :=
  ⟨h.1, h.2.1.trans (hb.mono h.size), own_same h.own fun k hk => hb.block k (h.own.lt k hk).2⟩
theorem osx_nil (E : TypeId) (w : World) : OSx E w.heap.size w w (.slice none 0 0) [] := ⟨Nat.le_refl _, Below.refl _ _, ⟨by simp [sxds], .inl ⟨rfl, rfl⟩⟩⟩
theorem OSx.start (h : OSx E B w0 w v l) {B2 : Nat} {w2 : World} (hB : B2 ≤ w2.heap.size) (hb : Below B2 w2 w0) (hle : B2 ≤ B) : OSx E B2 w2 w v l := by
  refine ⟨hB, hb.trans (h.bel.mono hle), h.own.1, ?_⟩
  rcases h.own.2 with h2 | ⟨g, cap, cur, hv, hb2, hg, r⟩
  · exact .inl h2
  · exact .inr ⟨g, cap, cur, hv, Nat.le_trans hle hb2, hg, r⟩
theorem sx_rd_of_own (h : w.ownsRow B E 6 v l.length (sxds l)) : SxRd w v l := by
  rcases h.2 with ⟨h1, h2⟩ | ⟨g, c, cur, h1, _, hg, hnc, hcm, _, ht⟩
  · exact ⟨none, 0, by rw [h1, h2], by omega, by omega, fun h => by omega⟩
  · unfold maxLen at hcm
    refine ⟨_, _, h1, hnc, by omega, fun h0 => ⟨g, 0, rfl, lt_of_block hg, fun i t hi => ?_⟩⟩
    obtain ⟨g1, g2, g3, g4, g5, g6⟩ := sxds_get l i t hi
    have q : ∀ j u, (sxds l)[j]? = some u → w.cell? ⟨g, 0 + j, none⟩ = some u := fun j u hu => by
      have := World.news_of_block hg j u (by
        rw [← ht, List.getElem?_take] at hu
        split at hu
        · exact hu
        · cases hu)
      rw [Addr.add_mid] at this
      exact this
    exact ⟨q _ _ g1, q _ _ g2, q _ _ g3, q _ _ g4, q _ _ g5, q _ _ g6⟩
theorem OSx.rd (h : OSx E B w0 w v l) : SxRd w v l := sx_rd_of_own h.own
end
/-- A slice type S over a struct type E of 6 cells. -/
structure Elem6 (P : Program) (S E : TypeId) (z : Value) (eb : Nat) : Prop where
  und : P.underlying S = some (.slice E)
  info : (P.info? E).map (fun i => (i.zero, i.size, i.bytes)) = some (some z, 6, eb)
  cells : z.cells.size = 6
theorem SxRd.src {P : Program} {S E : TypeId} {z : Value} {eb : Nat} (T : Elem6 P S E z eb) {w : World} {v : Value} {l : List SxV} (h : SxRd w v l) (h1 : ∀ u ∈ sxds l, u.oneCell' = true) : Src P 6 S v l.length (sxds l) w := by
  obtain ⟨ao, cap, rfl, h2, h3, h4⟩ := h
  by_cases h0 : 0 < l.length
  · obtain ⟨g, o, rfl, hg, hc⟩ := h4 h0
    refine Src.ofSlice _ T.und _ _ _ (sxds l) (sxds_length l) (fun j u hu => ?_) h1
    have hj : j < l.length * 6 := by rw [← sxds_length]; exact (List.getElem?_eq_some_iff.1 hu).1
    obtain ⟨t, ht⟩ : ∃ t, l[j / 6]? = some t := ⟨_, List.getElem?_eq_getElem (by omega)⟩
    obtain ⟨c1, c2, c3, c4, c5, c6⟩ := hc _ t ht
    obtain ⟨g1, g2, g3, g4, g5, g6⟩ := sxds_get l _ t ht
    rw [Addr.add_mid]
    have hm : j % 6 = 0 ∨ j % 6 = 1 ∨ j % 6 = 2 ∨ j % 6 = 3 ∨ j % 6 = 4 ∨ j % 6 = 5 := by omega
    rcases hm with hm | hm | hm | hm | hm | hm
    · rw [show j / 6 * 6 = j by omega] at c1 g1
      rw [c1]; exact g1.symm.trans hu
    · rw [show o + j / 6 * 6 + 1 = o + j by omega] at c2
      rw [show j / 6 * 6 + 1 = j by omega] at g2
      rw [c2]; exact g2.symm.trans hu
    · rw [show o + j / 6 * 6 + 2 = o + j by omega] at c3
      rw [show j / 6 * 6 + 2 = j by omega] at g3
      rw [c3]; exact g3.symm.trans hu
    · rw [show o + j / 6 * 6 + 3 = o + j by omega] at c4
      rw [show j / 6 * 6 + 3 = j by omega] at g4
      rw [c4]; exact g4.symm.trans hu
    · rw [show o + j / 6 * 6 + 4 = o + j by omega] at c5
      rw [show j / 6 * 6 + 4 = j by omega] at g5
      rw [c5]; exact g5.symm.trans hu
    · rw [show o + j / 6 * 6 + 5 = o + j by omega] at c6
      rw [show j / 6 * 6 + 5 = j by omega] at g6
      rw [c6]; exact g6.symm.trans hu
  · obtain rfl : l = [] := by cases l with
      | nil => rfl
      | cons a r => simp at h0
    cases ao with
    | none => exact Src.ofNil _ T.und _
    | some a => exact Src.ofSlice _ T.und a _ _ [] rfl (fun j u hu => by simp at hu) (by simp)
/-- append of a row of structs. -/
theorem wpList_sx {P : Program} {S E : TypeId} {z : Value} {eb : Nat} (T : Elem6 P S E z eb) {ops : Array Oper} {rest : List Oper} {o : Oper} {a : Act} {w : World} {Q : Exit → Act → World → Prop} (hgd : o.guard = none) (s x : Operand)
    (ho : o.op = .call { callee := .builtin .append, args := #[s, x], argTypes := #[S, S] })
    {B : Nat} {w0 : World} {v : Value} {l : List SxV} (hv : a.eval s = v) (H : OSx E B w0 w v l) {vx : Value} {m : List SxV} (hx : a.eval x = vx) (L : SxRd w vx m) (h1 : ∀ u ∈ sxds m, u.oneCell' = true) (hl : (l.length + m.length) * eb ≤ 140737488355328) (hl2 : l.length + m.length ≤ 140737488355328)
    (h : ∀ (ao : Option Addr) (n cap : Nat) (w' : World), n = l.length + m.length → OSx E B w0 w' (.slice ao n cap) (l ++ m) → w.grownBy w' v.ownBlock → wpList P ops Q rest (a.put o.dst (.slice ao n cap)) w') :
    wpList P ops Q (o :: rest) a w := by
  obtain ⟨i0, hi, hz0, hz1, hz2⟩ := info_parts T.info
  refine wpList_append_src _ hgd s x S S ho B E i0 z 6 eb T.und hi hz0 hz1 hz2 T.cells (by decide) v l.length (sxds l) hv H.own vx m.length (sxds m) hx (L.src T h1) (by unfold maxLen; omega) (by omega) H.size ?_
  intro v2 w2 hown hg _ _
  have H2 := H.app (m := m) hown rfl hg
  obtain ⟨ao, cap, rfl⟩ := own_shape hown
  exact h ao _ cap w2 rfl H2 hg
theorem sxrd_new {w : World} {t : SxV} {E : TypeId} {m : Nat × Nat} : SxRd (w.alloc (.cells #[t.a, t.b, t.c, t.d, t.e, t.f] E m)) (.slice (some ⟨w.heap.size, 0, none⟩) 1 1) [t] := by
  refine ⟨_, _, rfl, Nat.le_refl _, by simp, fun _ => ⟨_, _, rfl, by simp, fun i u hi => ?_⟩⟩
  have : i = 0 := by have := (List.getElem?_eq_some_iff.1 hi).1; simp at this; omega
  subst this
  simp only [List.getElem?_cons_zero, Option.some.injEq] at hi
  subst hi
  have hb := heap_alloc_new w (.cells #[t.a, t.b, t.c, t.d, t.e, t.f] E m)
  have c0 := World.news_of_block hb 0 t.a rfl
  have c1 := World.news_of_block hb 1 t.b rfl
  have c2 := World.news_of_block hb 2 t.c rfl
  have c3 := World.news_of_block hb 3 t.d rfl
  have c4 := World.news_of_block hb 4 t.e rfl
  have c5 := World.news_of_block hb 5 t.f rfl
  rw [Addr.add_mid] at c0 c1 c2 c3 c4 c5
  exact ⟨c0, c1, c2, c3, c4, c5⟩
end Go.Proofs.Ytoogcafceghdjaa
