/- The Module of package keyed. Bounds on the sizes. -/
import Derived.Test.YtogfgcihhnblkaaDoorKeyDer
namespace Go.Proofs.YtogfgcihhnblkaaDoor
open Go.RowKit

abbrev R64 (n : Int) : Prop := -9223372036854775808 ≤ n ∧ n ≤ 9223372036854775807
/-- The Module in block b: its secret, its process, its height. -/
def Mst (B : Nat) (w : World) (b : Nat) (k : List Int) (p h : Int) : Prop :=
  B ≤ b ∧ ∃ g n, k.length = n ∧ w.heap[b]? = some (.cells #[.slice (some ⟨g, 0, none⟩) n n, .int .i64 p, .int .i64 h] 59 (0, 0)) ∧ g ≠ b ∧ B ≤ g ∧ Lies w (.slice (some ⟨g, 0, none⟩) n n) k
theorem Mst.lt {B : Nat} {w : World} {b : Nat} {k : List Int} {p h : Int} (hm : Mst B w b k p h) : b < w.heap.size := by
  obtain ⟨_, g, n, _, hb, _⟩ := hm; exact lt_of_block hb
theorem Mst.later {w w' : World} {b B C : Nat} {k : List Int} {p h : Int} (hm : Mst B w b k p h) (hb : Below C w w') (hC : w.heap.size ≤ C) : Mst B w' b k p h := by
  have hlt := hm.lt
  obtain ⟨hB, g, n, hn, hr, hne, hBg, hl⟩ := hm
  exact ⟨hB, g, n, hn, (hb.block b (by omega)).trans hr, hne, hBg, hl.later hb hC⟩
theorem Lies.kept {w w' : World} {g n c q : Nat} {l : List Int} (h : Lies w (.slice (some ⟨g, 0, none⟩) n c) l) (hk : Kept (fun k => k = q) w w') (hn : g ≠ q) : Lies w' (.slice (some ⟨g, 0, none⟩) n c) l := by
  obtain ⟨ao, cap, q1, q2, q3, q4⟩ := h
  refine ⟨ao, cap, q1, q2, q3, fun h0 => ?_⟩
  obtain ⟨g', o, r1, r2, r3⟩ := q4 h0
  simp only [Value.slice.injEq] at q1
  have e : g' = g := by rw [r1] at q1; simp at q1; omega
  subst e
  exact ⟨g', o, r1, Nat.lt_of_lt_of_le r2 hk.size, fun j u hu => by
    rw [World.cell?_of_block (w := w) (hk.block g' r2 hn)]
    exact r3 j u hu⟩
/-- Another Module's state behind a Raise. -/
theorem Mst.kept {w w' : World} {b B q : Nat} {k : List Int} {p h : Int} (hm : Mst B w b k p h) (hk : Kept (fun k => k = q) w w') (hq : q < B) : Mst B w' b k p h := by
  have hlt := hm.lt
  obtain ⟨hB, g, n, hn, hr, hne, hBg, hl⟩ := hm
  exact ⟨hB, g, n, hn, (hk.block b hlt (by omega)).trans hr, hne, hBg, hl.kept hk (by omega)⟩

theorem proc_any {B : Nat} (b : Nat) (k : List Int) (p h : Int) (w : World) (hm : Mst B w b k p h) :
    Calls Tryd.prog 17 #[.pointer (some ⟨b, 0, none⟩)] w fun e w' => e = .returned (.int .i64 p) ∧ w = w' := by
  obtain ⟨hB, g, n, hn, hr, hne, hBg, hl⟩ := hm
  have c : w.cell? ⟨b, 1, none⟩ = some (.int .i64 p) := cell_of_row _ _ 1 _ _ _ hr
  clear hB hBg hn hr hne hl
  go_enter Tryd.func17, Tryd.ntmps17
  go_wp2
  go_ret
  exact ⟨rfl, rfl⟩
theorem height_any {B : Nat} (b : Nat) (k : List Int) (p h : Int) (w : World) (hm : Mst B w b k p h) :
    Calls Tryd.prog 18 #[.pointer (some ⟨b, 0, none⟩)] w fun e w' => e = .returned (.int .i64 h) ∧ w = w' := by
  obtain ⟨hB, g, n, hn, hr, hne, hBg, hl⟩ := hm
  have c : w.cell? ⟨b, 2, none⟩ = some (.int .i64 h) := cell_of_row _ _ 2 _ _ _ hr
  clear hB hBg hn hr hne hl
  go_enter Tryd.func18, Tryd.ntmps18
  go_wp2
  go_ret
  exact ⟨rfl, rfl⟩
theorem raise_any {B : Nat} (b : Nat) (k : List Int) (p h x : Int) (w : World) (hm : Mst B w b k p h) :
    Calls Tryd.prog 19 #[.pointer (some ⟨b, 0, none⟩), .int .i64 x] w fun e w' => e = .returned (.tuple #[]) ∧ Mst B w' b k p (max h x) ∧ Kept (fun q => q = b) w w' := by
  have HM := hid_of hm
  obtain ⟨hB, g, n, hn, hr, hne, hBg, hl⟩ := hm
  have c : w.cell? ⟨b, 2, none⟩ = some (.int .i64 h) := cell_of_row _ _ 2 _ _ _ hr
  have f : w.frozen? ⟨b, 2, none⟩ = false := frozen_of_row _ _ _ _ _ hr
  have HR := hid_of hr
  have HLL := hid_of hl
  clear hr hl
  by_cases hx : h < x
  · have hd : decide (x > h) = true := by simp; exact hx
    go_enter Tryd.func19, Tryd.ntmps19
    go_wp2
    go_end0
    refine ⟨rfl, ⟨hB, g, n, hn, ?_, hne, hBg, HLL.out.kept ((Kept.refl _ _).set1 _) hne⟩, (Kept.refl _ _).set1 _⟩
    rw [heap_setCell_same _ _ _ _ _ _ HR.out]
    rw [show max h x = x by omega]
    rfl
  · have hd : decide (x > h) = false := by simp; omega
    go_enter Tryd.func19, Tryd.ntmps19
    go_wp2
    go_end0
    exact ⟨rfl, by rw [show max h x = h by omega]; exact HM.out, Kept.refl _ _⟩

set_option maxRecDepth 100000 in
theorem mtag_any {B : Nat} (b : Nat) (k m : List Int) (p h q x : Int) (u : Value) (w : World) (hm : Mst B w b k p h) (hk : ∀ y ∈ k, 0 ≤ y ∧ y ≤ 255) (hu : Lies w u m) (hmr : ∀ y ∈ m, 0 ≤ y ∧ y ≤ 255) (hq : R64 q) (hx : R64 x) (hG : Glob w) (hn : k.length ≤ 80000000000) (hn2 : m.length ≤ 80000000000) :
    Calls Tryd.prog 35 #[.pointer (some ⟨b, 0, none⟩), .int .i64 q, .int .i64 x, u] w fun e w' => ∃ g cap, e = .returned (.slice (some ⟨g, 0, none⟩) 32 cap) ∧ w.heap.size ≤ g ∧ Lies w' (.slice (some ⟨g, 0, none⟩) 32 cap) (hmac (derive k q x) m) ∧ Below w.heap.size w w' := by
  obtain ⟨hB, g, n, hkn, hr, hne, hBg, hl⟩ := hm
  have c : w.cell? ⟨b, 0, none⟩ = some (.slice (some ⟨g, 0, none⟩) n n) := cell_of_row _ _ 0 _ _ _ hr
  have HL := hid_of hl
  have HK := hid_of hk
  have HU := hid_of hu
  have HMR := hid_of hmr
  have HQ := hid_of hq
  have HX := hid_of hx
  have HG := hid_of hG
  have H2 : Hid (2 ≤ w.heap.size) := hid_of hG.two
  have HN := hid_of hn
  have HN2 := hid_of hn2
  clear hB hBg hkn hr hne hl hk hu hmr hq hx hG hn hn2
  go_enter Tryd.func35, Tryd.ntmps35
  go_wp2_with (first
    | (go_at_call 14; refine (derive_any (.slice (some ⟨g, 0, none⟩) n n) k q x w HL.out HK.out HQ.out HX.out HG.out HN.out).mono ?_; rintro e w1 ⟨g1, c1, rfl, hg1, hl1, hb1⟩; have HL1 := hid_of hl1; have HB1 := hid_of hb1; clear hg1 hl1 hb1)
    | (go_at_call 12; refine (tag_any (.slice (some ⟨g1, 0, none⟩) 32 c1) u (derive k q x) m w1 HL1.out (HU.out.later HB1.out (Nat.le_refl _)) (hmac_rng _ _) HMR.out (HG.out.bel HB1.out H2.out) (by rw [derive, hmac_length]; omega) HN2.out).mono ?_; rintro e w2 ⟨g2, c2, rfl, hg2, hl2, hb2⟩; have HG2 := hid_of (Nat.le_trans HB1.out.size hg2); have HL2 := hid_of hl2; have HB2 := hid_of (HB1.out.trans (hb2.mono HB1.out.size)); clear hg2 hl2 hb2))
  go_ret
  exact ⟨_, _, rfl, HG2.out, HL2.out, HB2.out⟩
end Go.Proofs.YtogfgcihhnblkaaDoor
