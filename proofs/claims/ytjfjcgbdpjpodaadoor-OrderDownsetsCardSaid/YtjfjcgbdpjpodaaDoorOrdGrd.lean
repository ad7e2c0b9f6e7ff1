/- Matrices of booleans: one that the call makes, and what it reads as. Bounds on sizes alone. -/
import Derived.Test.YtjfjcgbdpjpodaaDoorOrdSam
namespace Go.Proofs.YtjfjcgbdpjpodaaDoor
open Go.RowKit

theorem gridE : Elem Tryd.prog 30 48 (.slice none 0 0) 24 := ⟨Tryd.underlying30, by kernel_rfl, rfl⟩
theorem boolsE : Elem Tryd.prog 48 4 (.bool false) 1 := ⟨Tryd.underlying48, by kernel_rfl, rfl⟩
/-- append of one row. -/
theorem wpList_grd {ops : Array Oper} {rest : List Oper} {o : Oper} {a : Act} {Q : Exit → Act → World → Prop} (hgd : o.guard = none) (s x : Operand)
    (ho : o.op = .call { callee := .builtin .append, args := #[s, x], argTypes := #[30, 30] })
    {B : Nat} {w : World} {v : Value} {l : List Value} (hv : a.eval s = v) (H : w.ownsRow B 48 1 v l.length l) (hB : B ≤ w.heap.size) (u : Value) (hu : u.oneCell' = true) (hx : a.eval x = .slice (some ⟨w.heap.size, 0, none⟩) 1 1) (hl : l.length ≤ 1000)
    (h : ∀ (ao : Option Addr) (n cap : Nat) (w' : World), n = l.length + 1 → w'.ownsRow B 48 1 (.slice ao n cap) n (l ++ [u]) → (w.alloc (.cells #[u] 48)).grownBy w' v.ownBlock → wpList Tryd.prog ops Q rest (a.put o.dst (.slice ao n cap)) w') :
    wpList Tryd.prog ops Q (o :: rest) a (w.alloc (.cells #[u] 48)) := by
  obtain ⟨i0, hi, hz0, hz1, hz2⟩ := info_parts gridE.info
  have HA := H.alloc (.cells #[u] 48)
  have hsrc : Src Tryd.prog 1 30 (.slice (some ⟨w.heap.size, 0, none⟩) 1 1) 1 [u] (w.alloc (.cells #[u] 48)) := by
    refine Src.ofSlice _ Tryd.underlying30 _ 1 1 [u] rfl (fun j y hy => ?_) (by simpa using hu)
    exact World.news_of_block (heap_alloc_new w (.cells #[u] 48)) j y (by simpa using hy)
  refine wpList_append_src _ hgd s x 30 30 ho B 48 i0 (.slice none 0 0) 1 24 gridE.und hi hz0 hz1 hz2 rfl (by decide) v l.length l hv HA _ 1 [u] hx hsrc (by unfold maxLen; omega) (by omega) (by simp; omega) ?_
  intro v2 w2 hown hg _ _
  obtain ⟨ao, cap, rfl⟩ := own_shape hown
  exact h ao _ cap w2 rfl hown hg

def sl (n : Nat) (gs : List Nat) : List Value := gs.map fun g => .slice (some ⟨g, 0, none⟩) n n
theorem sl_length (n : Nat) (gs : List Nat) : (sl n gs).length = gs.length := by simp [sl]
def rwc (n : Nat) (M : Nat → Nat → Bool) (i : Nat) : List Value := (List.range n).map fun j => .bool (M i j)
/-- A matrix of the call's own: its rows lie in the blocks gs. -/
structure GB (B n : Nat) (w0 W : World) (v : Value) (gs : List Nat) (M : Nat → Nat → Bool) : Prop where
  lo : B ≤ w0.heap.size
  bel : Below B w0 W
  own : W.ownsRow B 48 1 v gs.length (sl n gs)
  rows : ∀ i g, gs[i]? = some g → B ≤ g ∧ W.heap[g]? = some (.cells (rwc n M i).toArray 4 (0, 0))
  nd : gs.Nodup
section
variable {B n : Nat} {w0 W W' : World} {v : Value} {gs : List Nat} {M M' : Nat → Nat → Bool}
theorem GB.size (h : GB B n w0 W v gs M) : B ≤ W.heap.size := Nat.le_trans h.lo h.bel.size
theorem GB.at (h : GB B n w0 W v gs M) (hb : Below W.heap.size W W') : GB B n w0 W' v gs M :=
  ⟨h.lo, h.bel.trans (hb.mono h.size), own_same h.own fun k hk => hb.block k (h.own.lt k hk).2,
    fun i g hg => ⟨(h.rows i g hg).1, (hb.block g (lt_of_block (h.rows i g hg).2)).trans (h.rows i g hg).2⟩, h.nd⟩
theorem GB.drew (h : GB B n w0 W v gs M) : GB B n w0 W.drew v gs M := h.at (Below.refl _ _).drew
theorem rwc_congr {i : Nat} (h : ∀ j, j < n → M i j = M' i j) : rwc n M i = rwc n M' i := by
  unfold rwc
  exact List.map_congr_left fun j hj => by rw [h j (by simpa using hj)]
theorem GB.congr (h : GB B n w0 W v gs M) (he : ∀ i j, i < gs.length → j < n → M i j = M' i j) : GB B n w0 W v gs M' :=
  ⟨h.lo, h.bel, h.own, fun i g hg => ⟨(h.rows i g hg).1, by
    rw [← rwc_congr (fun j hj => he i j (List.getElem?_eq_some_iff.1 hg).1 hj)]; exact (h.rows i g hg).2⟩, h.nd⟩
theorem GB.out_ne (h : GB B n w0 W v gs M) {i g k : Nat} (hg : gs[i]? = some g) (hk : v.ownBlock = some k) : k ≠ g := by
  intro e
  subst e
  rcases h.own.2 with ⟨e, _⟩ | ⟨q, cap, cur, e, _, h2, _⟩
  · rw [e] at hk; cases hk
  · rw [e] at hk
    simp only [Value.ownBlock, Option.some.injEq] at hk
    subst hk
    have := (h.rows i q hg).2
    rw [h2] at this
    simp at this
theorem GB.set (h : GB B n w0 W v gs M) {i g j : Nat} (hg : gs[i]? = some g) (_hj : j < n) : GB B n w0 (W.setCell ⟨g, j, none⟩ (.bool true)) v gs (fun x y => (decide (x = i) && decide (y = j)) || M x y) := by
  refine ⟨h.lo, h.bel.setCell (h.rows i g hg).1 _, own_same h.own fun k hk => Below.heap_setCell _ _ _ _ (h.out_ne hg hk), fun x q hq => ⟨(h.rows x q hq).1, ?_⟩, h.nd⟩
  by_cases hx : x = i
  · subst hx
    rw [hg] at hq
    cases hq
    have := blk_setCell (k := j) (u := .bool true) (h.rows x g hg).2
    rw [this]
    congr 2
    congr 1
    apply List.ext_getElem?
    intro y
    unfold rwc
    rw [List.getElem?_set]
    by_cases e : j = y
    · subst e
      simp [_hj]
    · by_cases hy : y < n
      · simp [e, hy, Ne.symm e]
      · rw [if_neg e, List.getElem?_eq_none (by simp; omega), List.getElem?_eq_none (by simp; omega)]
  · have hne : q ≠ g := by
      intro e
      subst e
      have h1 := (List.getElem?_eq_some_iff.1 hg)
      have h2 := (List.getElem?_eq_some_iff.1 hq)
      have hp := List.pairwise_iff_getElem.1 h.nd
      rcases Nat.lt_or_gt_of_ne hx with hlt | hlt
      · exact hp x i h2.1 h1.1 hlt (h2.2.trans h1.2.symm)
      · exact hp i x h1.1 h2.1 hlt (h1.2.trans h2.2.symm)
    rw [Below.heap_setCell _ _ _ _ hne, (h.rows x q hq).2]
    congr 2
    congr 1
    exact rwc_congr (fun y _ => by simp [hx])
theorem GB.open (h : GB B n w0 W v gs M) (h0 : 0 < gs.length) : ∃ q cap, v = .slice (some ⟨q, 0, none⟩) gs.length cap ∧ B ≤ q ∧ gs.length ≤ cap ∧ cap ≤ 9223372036854775807 ∧ ∀ i g, gs[i]? = some g → W.cell? ⟨q, i, none⟩ = some (.slice (some ⟨g, 0, none⟩) n n) := by
  rcases h.own.2 with ⟨_, h2⟩ | ⟨q, cap, cur, e, h1, h2, h3, h4, _, ht⟩
  · omega
  · unfold maxLen at h4
    refine ⟨q, cap, e, h1, h3, by omega, fun i g hg => ?_⟩
    have := World.news_of_block h2 i (.slice (some ⟨g, 0, none⟩) n n) (by
      have e2 : (sl n gs)[i]? = some (.slice (some ⟨g, 0, none⟩) n n) := by simp [sl, hg]
      rw [← ht, List.getElem?_take] at e2
      split at e2
      · exact e2
      · cases e2)
    rw [Addr.add_mid, Nat.zero_add] at this
    exact this
theorem GB.cell (h : GB B n w0 W v gs M) {i g j : Nat} (hg : gs[i]? = some g) (hj : j < n) : W.cell? ⟨g, j, none⟩ = some (.bool (M i j)) := blk_cell (h.rows i g hg).2 (by simp [rwc, hj])
theorem GB.free (h : GB B n w0 W v gs M) {i g : Nat} (hg : gs[i]? = some g) (j : Nat) : W.frozen? ⟨g, j, none⟩ = false := blk_free (h.rows i g hg).2 j
end
theorem GB.app {B n : Nat} {w0 W W1 W2 : World} {v v' : Value} {gs : List Nat} (h : GB B n w0 W v gs (fun _ _ => false)) (hb : Below W.heap.size W W1) (hz : W.heap.size < W1.heap.size) (hr : W1.heap[W.heap.size]? = some (.cells (List.replicate n (.bool false)).toArray 4 (0, 0)))
    (o : Obj) (hg : (W1.alloc o).grownBy W2 v.ownBlock) (hown : W2.ownsRow B 48 1 v' (gs.length + 1) (sl n gs ++ [.slice (some ⟨W.heap.size, 0, none⟩) n n])) : GB B n w0 W2 v' (gs ++ [W.heap.size]) (fun _ _ => false) := by
  have h1 := h.at hb
  have hlt : ∀ i g, gs[i]? = some g → g < W.heap.size := fun i g hg => lt_of_block (h.rows i g hg).2
  have hzA : (W1.alloc o).heap.size = W1.heap.size + 1 := by simp
  have keep : ∀ k, k < W1.heap.size → some k ≠ v.ownBlock → W2.heap[k]? = W1.heap[k]? := fun k hk hne => (hg.block k (by omega) hne).trans ((bel_alloc W1 o).block k hk)
  have hob : ∀ k, v.ownBlock = some k → B ≤ k ∧ k < W.heap.size := fun k hk => ⟨(h.own.lt k hk).1, (h.own.lt k hk).2⟩
  refine ⟨h.lo, ?_, ?_, ?_, ?_⟩
  · exact (h1.bel.alloc (Nat.le_trans h.size hb.size) o).grown hg (by have := h.size; have := hb.size; omega) (fun k hk => (hob k hk).1)
  · rw [List.length_append, show sl n (gs ++ [W.heap.size]) = sl n gs ++ [.slice (some ⟨W.heap.size, 0, none⟩) n n] by simp [sl]]
    exact hown
  · intro i g hig
    rw [List.getElem?_append] at hig
    split at hig
    · refine ⟨(h.rows i g hig).1, ?_⟩
      rw [keep g (Nat.lt_trans (hlt i g hig) hz) (fun e => (h.out_ne hig e.symm) rfl)]
      exact (h1.rows i g hig).2
    · have hi0 : i - gs.length = 0 := by
        rcases Nat.eq_zero_or_pos (i - gs.length) with h0 | h0
        · exact h0
        · rw [List.getElem?_eq_none (by simp; omega)] at hig; cases hig
      rw [hi0] at hig
      simp only [List.getElem?_cons_zero, Option.some.injEq] at hig
      subst hig
      refine ⟨h.size, ?_⟩
      rw [keep _ hz (fun e => by have := (hob _ e.symm).2; omega), hr]
      congr 2
      congr 1
      unfold rwc
      rw [List.map_const', List.length_range]
  · rw [List.nodup_append]
    refine ⟨h.nd, by simp, fun a ha b hb2 => ?_⟩
    simp only [List.mem_singleton] at hb2
    obtain ⟨i, hi⟩ := List.getElem?_of_mem ha
    have := hlt i a hi
    omega

/-- The slice v reads as the matrix M of n rows and columns. -/
def RdG (w : World) (v : Value) (n : Nat) (M : Nat → Nat → Bool) : Prop :=
  ∃ ao cap, v = .slice ao n cap ∧ n ≤ cap ∧ cap ≤ 9223372036854775807 ∧ (0 < n → ∃ q, ao = some ⟨q, 0, none⟩ ∧ q < w.heap.size ∧ ∀ i, i < n → ∃ g, g < w.heap.size ∧ w.cell? ⟨q, i, none⟩ = some (.slice (some ⟨g, 0, none⟩) n n) ∧ ∀ j, j < n → w.cell? ⟨g, j, none⟩ = some (.bool (M i j)))
theorem RdG.at {w w' : World} {v : Value} {n : Nat} {M : Nat → Nat → Bool} (h : RdG w v n M) (hb : Below w.heap.size w w') : RdG w' v n M := by
  obtain ⟨ao, cap, h1, h2, h3, h4⟩ := h
  refine ⟨ao, cap, h1, h2, h3, fun h0 => ?_⟩
  obtain ⟨q, q1, q2, q3⟩ := h4 h0
  refine ⟨q, q1, Nat.lt_of_lt_of_le q2 hb.size, fun i hi => ?_⟩
  obtain ⟨g, g1, g2, g3⟩ := q3 i hi
  exact ⟨g, Nat.lt_of_lt_of_le g1 hb.size, (hb.cell (p := ⟨q, i, none⟩) q2).trans g2, fun j hj => (hb.cell (p := ⟨g, j, none⟩) g1).trans (g3 j hj)⟩
theorem GB.rd {B n : Nat} {w0 W : World} {v : Value} {gs : List Nat} {M : Nat → Nat → Bool} (h : GB B n w0 W v gs M) (hl : gs.length = n) : RdG W v n M := by
  rcases Nat.eq_zero_or_pos n with h0 | h0
  · subst h0
    obtain ⟨ao, cap, e⟩ := own_shape h.own
    rcases h.own.2 with ⟨e2, _⟩ | ⟨q, cap, cur, e2, h1, h2, h3, h4, _, ht⟩
    · exact ⟨none, 0, e2, Nat.le_refl _, by omega, fun h => by omega⟩
    · unfold maxLen at h4
      exact ⟨_, cap, by rw [e2, hl], by omega, by omega, fun h => by omega⟩
  · obtain ⟨q, cap, e, h1, h2, h3, h4⟩ := h.open (by omega)
    have hq : q < W.heap.size := World.block_lt_of_cell? _ _ (h4 0 _ (List.getElem?_eq_getElem (by omega)))
    refine ⟨_, cap, by rw [e, hl], by omega, h3, fun _ => ⟨q, rfl, hq, fun i hi => ?_⟩⟩
    have hg : gs[i]? = some gs[i] := List.getElem?_eq_getElem (by omega)
    exact ⟨gs[i], lt_of_block (h.rows i _ hg).2, h4 i _ hg, fun j hj => h.cell hg hj⟩
end Go.Proofs.YtjfjcgbdpjpodaaDoor
