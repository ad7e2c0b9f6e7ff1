/- KeyedMemory. -/
import Derived.Test.YtdgihleekemnnaaDoorKeyTagW
import Derived.Test.YtdgihleekemnnaaDoorShaApp
namespace Go.Proofs.YtdgihleekemnnaaDoor
open Go.RowKit

/-- A row of bytes in block g, of which n are counted up; nothing else has turned. -/
def IncS (n g : Nat) : Nat → Prop := fun j => 0 < n ∧ j = g
def Inc (w0 wr : World) (g n : Nat) : Prop :=
  Kept (IncS n g) w0 wr ∧ (0 < n → ∃ cs : Array Value, wr.heap[g]? = some (.cells cs 5 (0, 0)) ∧ ∀ j, j < n → ∃ y : Int, 0 ≤ y ∧ y ≤ 255 ∧ cs[j]? = some (.int .u8 y))
theorem kept_refl (S : Nat → Prop) (w : World) : Kept S w w := ⟨rfl, rfl, rfl, Nat.le_refl _, fun _ _ _ => rfl⟩
theorem Inc.at {w0 wr : World} {g n j : Nat} (h : Inc w0 wr g n) (hj : j < n) : ∃ y : Int, 0 ≤ y ∧ y ≤ 255 ∧ wr.cell? ⟨g, j, none⟩ = some (.int .u8 y) ∧ wr.frozen? ⟨g, j, none⟩ = false := by
  obtain ⟨cs, h1, h2⟩ := h.2 (by omega)
  obtain ⟨y, y0, y1, hy⟩ := h2 j hj
  exact ⟨y, y0, y1, by rw [cell_of_row _ _ _ _ _ _ h1]; exact hy, frozen_of_row _ _ _ _ _ h1⟩
theorem Inc.set {w0 wr : World} {g n j : Nat} {z : Int} (h : Inc w0 wr g n) (hj : j < n) (z0 : 0 ≤ z) (z1 : z ≤ 255) : Inc w0 (wr.setCell ⟨g, j, none⟩ (.int .u8 z)) g n := by
  have hn : 0 < n := by omega
  obtain ⟨hk, hc⟩ := h
  obtain ⟨cs, h1, h2⟩ := hc hn
  refine ⟨⟨hk.os, hk.tape, hk.output, by simpa using hk.size, fun k h3 h4 => ?_⟩, fun _ => ⟨cs.setIfInBounds j (.int .u8 z), heap_setCell_same _ _ _ _ _ _ h1, fun i hi => ?_⟩⟩
  · rw [Below.heap_setCell _ _ _ _ (show k ≠ g from fun e => h4 ⟨hn, e⟩)]
    exact hk.block k h3 h4
  · obtain ⟨y, y0, y1, hy⟩ := h2 i hi
    by_cases e : j = i
    · subst e
      have hl : j < cs.size := (Array.getElem?_eq_some_iff.1 hy).1
      exact ⟨z, z0, z1, by simp [hl]⟩
    · exact ⟨y, y0, y1, by rw [Array.getElem?_setIfInBounds_ne e]; exact hy⟩
theorem Inc.bel {w0 wr : World} {g n B : Nat} (h : Inc w0 wr g n) (hB : B ≤ w0.heap.size) (hg : 0 < n → B ≤ g) : Below B w0 wr := h.1.below hB (fun k hk => by obtain ⟨h1, h2⟩ := hk; have := hg h1; omega)
/-- The Module in block b, its secret in block g. -/
def MS (w : World) (b g : Nat) (k : List Int) (p h : Int) : Prop :=
  ∃ n, k.length = n ∧ w.heap[b]? = some (.cells #[.slice (some ⟨g, 0, none⟩) n n, .int .i64 p, .int .i64 h] 59 (0, 0)) ∧ g ≠ b ∧ Lies w (.slice (some ⟨g, 0, none⟩) n n) k
theorem MS.mst {w : World} {b g : Nat} {k : List Int} {p h : Int} (hm : MS w b g k p h) : Mst 0 w b k p h := by
  obtain ⟨n, h1, h2, h3, h4⟩ := hm; exact ⟨Nat.zero_le _, g, n, h1, h2, h3, Nat.zero_le _, h4⟩
theorem Mst.ms {B : Nat} {w : World} {b : Nat} {k : List Int} {p h : Int} (hm : Mst B w b k p h) : ∃ g, B ≤ b ∧ B ≤ g ∧ b < w.heap.size ∧ (0 < k.length → g < w.heap.size) ∧ MS w b g k p h := by
  have hlt := hm.lt
  obtain ⟨hB, g, n, hn, hr, hne, hBg, hl⟩ := hm
  refine ⟨g, hB, hBg, hlt, fun h0 => ?_, n, hn, hr, hne, hl⟩
  obtain ⟨_, _, q, _, _, q4⟩ := hl
  obtain ⟨g', o, r1, r2, _⟩ := q4 h0
  simp only [Value.slice.injEq] at q
  rw [r1] at q
  simp at q
  omega
theorem Lies.keptS {w w' : World} {g o n c : Nat} {l : List Int} {S : Nat → Prop} (h : Lies w (.slice (some ⟨g, o, none⟩) n c) l) (hk : Kept S w w') (hn : 0 < l.length → ¬ S g) : Lies w' (.slice (some ⟨g, o, none⟩) n c) l := by
  obtain ⟨ao, cap, q1, q2, q3, q4⟩ := h
  refine ⟨ao, cap, q1, q2, q3, fun h0 => ?_⟩
  obtain ⟨g', o', r1, r2, r3⟩ := q4 h0
  simp only [Value.slice.injEq] at q1
  have e : g' = g := by rw [r1] at q1; simp at q1; omega
  subst e
  exact ⟨g', o', r1, Nat.lt_of_lt_of_le r2 hk.size, fun j u hu => by
    rw [World.cell?_of_block (w := w) (hk.block g' r2 (hn h0))]
    exact r3 j u hu⟩
theorem MS.kept {w w' : World} {b g : Nat} {k : List Int} {p h : Int} {S : Nat → Prop} (hm : MS w b g k p h) (hk : Kept S w w') (h1 : ¬ S b) (h2 : 0 < k.length → ¬ S g) : MS w' b g k p h := by
  obtain ⟨n, hn, hr, hne, hl⟩ := hm
  exact ⟨n, hn, (hk.block b (lt_of_block hr) h1).trans hr, hne, hl.keptS hk h2⟩
theorem MS.at {w w' : World} {b g : Nat} {k : List Int} {p h : Int} (hm : MS w b g k p h) (hb : Below w.heap.size w w') : MS w' b g k p h := by
  obtain ⟨n, hn, hr, hne, hl⟩ := hm
  exact ⟨n, hn, (hb.block b (lt_of_block hr)).trans hr, hne, hl.at hb⟩
/-- An own row of bytes: its block. -/
theorem os_inc {B n cap : Nat} {w0 w : World} {ao : Option Addr} {l : List Int} (h : OS B w0 w (.slice ao n cap) l) (hn : l.length = n) (hr : ∀ y ∈ l, 0 ≤ y ∧ y ≤ 255) :
    ∃ g, (0 < n → ao = some ⟨g, 0, none⟩ ∧ B ≤ g ∧ g < w.heap.size) ∧ ∀ w', (0 < n → w'.heap[g]? = w.heap[g]?) → Inc w' w' g n := by
  rcases h.own.2 with ⟨h1, h2⟩ | ⟨g, c, cur, h1, hB, hg, _, _, _, ht⟩
  · exact ⟨0, fun h0 => by omega, fun w' _ => ⟨kept_refl _ _, fun h0 => by omega⟩⟩
  · simp only [Value.slice.injEq] at h1
    refine ⟨g, fun h0 => ⟨h1.1, hB, lt_of_block hg⟩, fun w' hw => ⟨kept_refl _ _, fun h0 => ⟨cur, (hw h0).trans hg, fun j hj => ?_⟩⟩⟩
    refine ⟨l[j], (hr _ (List.getElem_mem (by omega))).1, (hr _ (List.getElem_mem (by omega))).2, ?_⟩
    have h3 : (cur.toList.take (l.length * 1))[j]? = (bs l)[j]? := by rw [ht]
    rw [List.getElem?_take, if_pos (by omega)] at h3
    rw [← Array.getElem?_toList, h3]
    simp [bs, show j < l.length by omega]
end Go.Proofs.YtdgihleekemnnaaDoor
