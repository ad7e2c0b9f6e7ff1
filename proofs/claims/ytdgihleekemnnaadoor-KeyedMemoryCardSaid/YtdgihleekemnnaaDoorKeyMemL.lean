/- KeyedMemory: what lies where, and what a turn of one row leaves. -/
import Derived.Test.YtdgihleekemnnaaDoorKeyMemW
namespace Go.Proofs.YtdgihleekemnnaaDoor
open Go.RowKit

/-- A row of bytes that may be written. -/
def RowF (W : World) (g n : Nat) : Prop := ∀ j, j < n → ∃ y : Int, 0 ≤ y ∧ y ≤ 255 ∧ W.cell? ⟨g, j, none⟩ = some (.int .u8 y) ∧ W.frozen? ⟨g, j, none⟩ = false
theorem RowF.set {W : World} {g n i : Nat} {z : Int} (h : RowF W g n) (z0 : 0 ≤ z ∧ z ≤ 255) : RowF (W.setCell ⟨g, i, none⟩ (.int .u8 z)) g n := by
  intro j hj
  obtain ⟨y, y0, y1, hc, hf⟩ := h j hj
  by_cases e : i = j
  · subst e
    exact ⟨z, z0.1, z0.2, World.cell?_setCell_same _ _ _ hc, by rw [World.frozen?_setCell]; exact hf⟩
  · exact ⟨y, y0, y1, by rw [World.cell?_setCell_other _ _ _ _ (by intro h; simp at h)]; exact hc, by rw [World.frozen?_setCell]; exact hf⟩
theorem RowF.kept {W W' : World} {g n : Nat} {S : Nat → Prop} (h : RowF W g n) (hk : Kept S W W') (hs : 0 < n → ¬ S g) : RowF W' g n := by
  intro j hj
  obtain ⟨y, y0, y1, hc, hf⟩ := h j hj
  have hb := hk.block g (World.block_lt_of_cell? W _ hc) (hs (by omega))
  exact ⟨y, y0, y1, by rw [World.cell?_of_block (w := W) hb]; exact hc, by rw [← hf]; simp only [World.frozen?, hb]⟩
theorem Inc.rowF {w0 W : World} {g n : Nat} (h : Inc w0 W g n) : RowF W g n := fun _ hj => h.at hj
theorem Lies.keptA {w w' : World} {ao : Option Addr} {n c : Nat} {l : List Int} {S : Nat → Prop} (h : Lies w (.slice ao n c) l) (hk : Kept S w w') (hn : 0 < l.length → ∃ g, ao = some ⟨g, 0, none⟩ ∧ ¬ S g) : Lies w' (.slice ao n c) l := by
  rcases Nat.eq_zero_or_pos l.length with h0 | h0
  · obtain ⟨a, cap, q1, q2, q3, _⟩ := h
    exact ⟨a, cap, q1, q2, q3, fun h1 => by omega⟩
  · obtain ⟨g, rfl, hs⟩ := hn h0
    exact h.keptS hk (fun _ => hs)
/-- Where they lie. -/
structure Geo (B H n0 n1 gs gb bm gm bk gk : Nat) (sA bA : Option Addr) : Prop where
  s : 0 < n0 → sA = some ⟨gs, 0, none⟩ ∧ B ≤ gs ∧ gs < H
  b : 0 < n1 → bA = some ⟨gb, 0, none⟩ ∧ B ≤ gb ∧ gb < H
  bh : B ≤ H
  sb : 0 < n0 → 0 < n1 → gs ≠ gb
  m1 : H ≤ bm ∧ H ≤ gm
  m2 : H ≤ bk ∧ H ≤ gk
structure St (w W : World) (H bm gm bk gk : Nat) (k : List Int) : Prop where
  bel : Below w.heap.size w W
  m1 : MS W bm gm k 1 0
  m2 : MS W bk gk k 1 0
  l1 : bm < W.heap.size ∧ bk < W.heap.size
  l2 : 0 < k.length → gm < W.heap.size ∧ gk < W.heap.size
  h : H ≤ W.heap.size
theorem St.kept {w W W' : World} {H bm gm bk gk : Nat} {k : List Int} {S : Nat → Prop} (h : St w W H bm gm bk gk k) (hk : Kept S W W') (hS : ∀ j, S j → w.heap.size ≤ j ∧ j ≠ bm ∧ j ≠ bk ∧ (0 < k.length → j ≠ gm ∧ j ≠ gk)) : St w W' H bm gm bk gk k := by
  have hz := hk.size
  exact ⟨h.bel.trans (hk.below h.bel.size (fun j hj => (hS j hj).1)), h.m1.kept hk (fun hs => (hS _ hs).2.1 rfl) (fun h0 hs => ((hS _ hs).2.2.2 h0).1 rfl), h.m2.kept hk (fun hs => (hS _ hs).2.2.1 rfl) (fun h0 hs => ((hS _ hs).2.2.2 h0).2 rfl),
    ⟨by have := h.l1; omega, by have := h.l1; omega⟩, fun h0 => ⟨by have := h.l2 h0; omega, by have := h.l2 h0; omega⟩, by have := h.h; omega⟩
theorem St.at {w W W' : World} {H bm gm bk gk : Nat} {k : List Int} (h : St w W H bm gm bk gk k) (hb : Below W.heap.size W W') : St w W' H bm gm bk gk k :=
  h.kept (S := fun _ => False) (Kept.ofBelow hb) (fun _ h => h.elim)
theorem mem_start {w w1 w2 w3 w4 w5 : World} {sA bA : Option Addr} {n0 n1 sc bc bm bk : Nat} {k m : List Int} (hk : k.length = n0) (hm : m.length = n1) (kr : ∀ y ∈ k, 0 ≤ y ∧ y ≤ 255) (mr : ∀ y ∈ m, 0 ≤ y ∧ y ≤ 255) (hn : m.length ≤ 2000)
    (hb1 : Below w.heap.size w w1) (x2 : OS w1.heap.size w1 w2 (.slice sA n0 sc) k) (x3 : OS w2.heap.size w2 w3 (.slice bA n1 bc) m) (hm4 : Mst w3.heap.size w4 bm k 1 0) (hb4 : Below w3.heap.size w3 w4) (hm5 : Mst w4.heap.size w5 bk k 1 0) (hb5 : Below w4.heap.size w4 w5) :
    ∃ H gs gb gm gk, Geo w.heap.size H n0 n1 gs gb bm gm bk gk sA bA ∧ St w w5 H bm gm bk gk k ∧ Lies w5 (.slice bA n1 bc) m ∧ RowF w5 gs n0 ∧ RowF w5 gb n1 := by
  obtain ⟨gs, s1, s2⟩ := os_inc x2 hk kr
  obtain ⟨gb, b1, b2⟩ := os_inc x3 hm mr
  obtain ⟨gm, q1, q2, q3, q4, q5⟩ := hm4.ms
  obtain ⟨gk, r1, r2, r3, r4, r5⟩ := hm5.ms
  have z1 := hb1.size
  have z2 := x2.bel.size
  have z3 := x3.bel.size
  have z4 := hb4.size
  have z5 := hb5.size
  have b35 : Below w3.heap.size w3 w5 := hb4.trans (hb5.mono z4)
  have b25 : Below w2.heap.size w2 w5 := x3.bel.trans (b35.mono z3)
  refine ⟨w3.heap.size, gs, gb, gm, gk, ⟨fun h0 => ⟨(s1 h0).1, by have := (s1 h0).2.1; omega, by have := (s1 h0).2.2; omega⟩, fun h0 => ⟨(b1 h0).1, by have := (b1 h0).2.1; omega, (b1 h0).2.2⟩, by omega, fun h0 h1 => by have := (s1 h0).2.2; have := (b1 h1).2.1; omega, ⟨q1, q2⟩, ⟨by omega, by omega⟩⟩,
    ⟨(hb1.trans (x2.bel.mono z1)).trans (b25.mono (by omega)), q5.at hb5, r5, ⟨by omega, r3⟩, fun h0 => ⟨by have := q4 h0; omega, r4 h0⟩, by omega⟩, (x3.lies (by omega)).at b35,
    (s2 w5 (fun h0 => b25.block gs (s1 h0).2.2)).rowF, (b2 w5 (fun h0 => b35.block gb (b1 h0).2.2)).rowF⟩
end Go.Proofs.YtdgihleekemnnaaDoor
