/- Next. Bounds on sizes alone. -/
import Derived.Test.YtdmjlmlmdllhgaaDoorLexNxt
namespace Go.Proofs.YtdmjlmlmdllhgaaDoor
open Go.RowKit

/-- What Next says: a token with its place and the place behind it, or a fault. -/
def NexP (g : Got) (p : Nat) (w : World) (e : Ending) (w' : World) : Prop :=
  (g.code = 0 → e = .returned (.tuple #[.agg #[.int .i64 g.kind, .string g.text, .int .i64 g.n, .int .i64 p], .int .i64 g.stop, .agg #[.int .i64 0, .int .i64 0]])) ∧
  (g.code ≠ 0 → e = .returned (.tuple #[.agg #[.int .i64 0, .string ⟨#[]⟩, .int .i64 0, .int .i64 0], .int .i64 0, .agg #[.int .i64 g.code, .int .i64 p]])) ∧ Below w.heap.size w w'
def WP (s : ByteArray) (i : Nat) (w : World) : World := (Wz w).alloc (.cells #[.string s, .int .i64 i] 51)

theorem bel_row {B : Nat} {w w' : World} {g : Nat} (h : Below B w w') (hg : B ≤ g) (cs : Array Value) : Below B w (w'.setRow g cs) :=
  ⟨h.os, h.tape, h.output, by simpa [World.setRow] using h.size, fun k hk => (setRow_other w' g k cs (by omega)).trans (h.block k hk)⟩
theorem bel_drew {B : Nat} {w w' : World} (h : Below B w w') : Below B w w'.drew := ⟨h.os, h.tape, h.output, h.size, h.block⟩
theorem nex_end {w w3 : World} {ca a cb b : Array Value} {t1 t2 : Nat} {f1 f2 : Nat × Nat} (LB : Below w.heap.size w w3) (HA : w3.heap[w.heap.size]? = some (.cells ca t1 f1)) (HB : w3.heap[w.heap.size + 1]? = some (.cells cb t2 f2)) :
    Below w.heap.size w ((w3.setRow w.heap.size a).setRow (w.heap.size + 1) b) ∧ ((w3.setRow w.heap.size a).setRow (w.heap.size + 1) b).heap[w.heap.size]? = some (.cells a t1 f1) ∧ ((w3.setRow w.heap.size a).setRow (w.heap.size + 1) b).heap[w.heap.size + 1]? = some (.cells b t2 f2) :=
  ⟨bel_row (bel_row LB (Nat.le_refl _) a) (by omega) b, (setRow_other _ _ _ _ (by omega)).trans (setRow_heap _ _ _ _ _ _ HA), setRow_heap _ _ _ _ _ _ ((setRow_other _ _ _ _ (by omega)).trans HB)⟩

set_option maxRecDepth 100000 in
set_option maxHeartbeats 1600000 in
theorem nex_any (s : ByteArray) (i : Nat) (w : World) (hs : s.size ≤ 65536) (hi : i ≤ s.size) (hG : Glob w) :
    Calls Tryd.prog 19 #[.string s, .int .i64 i] w (NexP (nextF s i) (sk s i) w) := by
  have hz : (Wz w).heap.size = w.heap.size + 2 := by simp [Wz]
  have P0 : Pst (WP s i w) (w.heap.size + 2) s i := by
    have := heap_alloc_new (Wz w) (.cells #[.string s, .int .i64 i] 51)
    rw [hz] at this
    exact this
  have hb0 : Below w.heap.size w (WP s i w) := (bel_Wz w).trans ((bel_alloc (Wz w) _).mono (by omega))
  have R1 := hid_of (lnext_any (w.heap.size + 2) s i (WP s i w) (by omega) hi (by have := hG.eight; omega) (hG.at hb0) P0)
  have hRA : ∀ w1, KB (w.heap.size + 2) (WP s i w) w1 → w1.heap[w.heap.size]? = some (.cells #[.int .i64 0, .string ⟨#[]⟩, .int .i64 0, .int .i64 0] 25 (0, 0)) ∧ w1.heap[w.heap.size + 1]? = some (.cells #[.int .i64 0, .int .i64 0] 28 (0, 0)) ∧ w.heap.size + 2 < w1.heap.size := fun w1 h => by
    have hsz : (WP s i w).heap.size = w.heap.size + 3 := by simp [WP, Wz]
    have hb1 := bel_alloc (Wz w) (.cells #[.string s, .int .i64 i] 51)
    refine ⟨(h.block w.heap.size (by omega) (by omega)).trans ((hb1.block _ (by omega)).trans ?_), (h.block (w.heap.size + 1) (by omega) (by omega)).trans ((hb1.block _ (by omega)).trans ?_), by have := h.size; omega⟩
    · exact ((bel_alloc (w.alloc zTok) zFlt).block w.heap.size (by simp)).trans (heap_alloc_new w zTok)
    · have h3 := heap_alloc_new (w.alloc zTok) zFlt
      rw [show (w.alloc zTok).heap.size = w.heap.size + 1 by simp] at h3
      exact h3
  have HRA := hid_of hRA
  have HBL : Hid (∀ w1, KB (w.heap.size + 2) (WP s i w) w1 → Below w.heap.size w w1) := hid_of (fun w1 h => hb0.trans (h.below (by have := hb0.size; omega) (fun k hk => by omega)))
  obtain ⟨g, hg⟩ : ∃ g, g = nextF s i := ⟨_, rfl⟩
  obtain ⟨j, hj⟩ : ∃ j, j = sk s i := ⟨_, rfl⟩
  rw [← hg, ← hj] at R1 ⊢
  obtain ⟨kd, tx, nn, st, cd⟩ := g
  have HI1 := hid_of infoTok
  have HI2 := hid_of infoFlt
  have b0 : (0 : Int) ≤ (i : Int) := by omega
  have b1 : (i : Int) ≤ (s.size : Int) := by omega
  have d1 : decide ((s.size : Int) > 65536) = false := decide_eq_false (by omega)
  have d2 : decide ((i : Int) < 0) = false := decide_eq_false (by omega)
  have d3 : decide (s.size < i) = false := decide_eq_false (by omega)
  clear hz P0 hb0 hRA hg hj hs hi hG
  rw [show WP s i w = ((w.alloc (.cells #[.int .i64 0, .string ⟨#[]⟩, .int .i64 0, .int .i64 0] 25)).alloc (.cells #[.int .i64 0, .int .i64 0] 28)).alloc (.cells #[.string s, .int .i64 i] 51) from rfl] at *
  by_cases hc : cd = 0
  · have d0 : (cd != 0) = false := by simpa using hc
    have RR : Hid (Calls Tryd.prog 32 #[.pointer (some ⟨w.heap.size + 2, 0, none⟩)] _ fun e w1 => e = _ ∧ Pst w1 (w.heap.size + 2) s st ∧ KB (w.heap.size + 2) _ w1) := hid_of (R1.out.mono fun e w1 h => ⟨(h.1 hc).1, (h.1 hc).2, h.2.2⟩)
    have HC := hid_of hc
    clear hc R1
    go_enter Tryd.func19, Tryd.ntmps19
    go_wp2_with (go_at_call 32; ((with_reducible refine (RR.out).mono ?_); (rintro e w1 ⟨rfl, h1, h2⟩; have P1 := hid_of h1; have K1 := hid_of h2; have c1 := h1.pos; clear h1 h2)))
    obtain ⟨ra, rb, rc⟩ := HRA.out w1 K1.out
    have B3 : Hid (Below w1.heap.size w1 ((w1.alloc (.cells #[.int .i64 kd, .string tx, .int .i64 nn, .int .i64 j] 25)).alloc (.cells #[.int .i64 0, .int .i64 0] 28))) := hid_of ((bel_alloc w1 _).trans ((bel_alloc (w1.alloc _) _).mono (by simp)))
    have WA := hid_of ((B3.out.block w.heap.size (by omega)).trans ra)
    have WB := hid_of ((B3.out.block (w.heap.size + 1) (by omega)).trans rb)
    have P3 := hid_of (P1.out.bel B3.out P1.out.lt)
    have T3 : Hid (((w1.alloc (.cells #[.int .i64 kd, .string tx, .int .i64 nn, .int .i64 j] 25)).alloc (.cells #[.int .i64 0, .int .i64 0] 28)).heap[w1.heap.size]? = some (.cells #[.int .i64 kd, .string tx, .int .i64 nn, .int .i64 j] 25 (0, 0))) := hid_of (((bel_alloc (w1.alloc _) _).block w1.heap.size (by simp)).trans (heap_alloc_new w1 _))
    have LB := hid_of ((HBL.out w1 K1.out).trans (B3.out.mono (by omega)))
    have n1 : ¬ w.heap.size = w1.heap.size := by omega
    have n2 : ¬ w.heap.size + 1 = w1.heap.size := by omega
    have HRC := hid_of rc
    clear ra rb rc c1
    generalize ((w1.alloc (.cells #[.int .i64 kd, .string tx, .int .i64 nn, .int .i64 j] 25)).alloc (.cells #[.int .i64 0, .int .i64 0] 28)) = w3 at *
    obtain ⟨c0, c1, c2, c3, f0, f1, f2, f3⟩ := row4 WA.out
    obtain ⟨e0, e1, g0, g1⟩ := row2 WB.out
    obtain ⟨t0, t1, t2, t3, _, _, _, _⟩ := row4 T3.out
    have p1 := P3.out.pos
    go_region
    go_wp2
    rw [set4 WA.out, set2 ((setRow_other _ _ _ _ (by omega)).trans WB.out)]
    obtain ⟨q1, q2, q3⟩ := nex_end (a := #[.int .i64 kd, .string tx, .int .i64 nn, .int .i64 j]) (b := #[.int .i64 0, .int .i64 0]) LB.out WA.out WB.out
    refine bodyPost_ret (res_ctc (cs := #[.int .i64 kd, .string tx, .int .i64 nn, .int .i64 j]) (cs2 := #[.int .i64 0, .int .i64 0]) rfl w.heap.size (w.heap.size + 1) rfl rfl q2 q3 Tryd.underlying25 rfl HI1.out Tryd.underlying28 rfl HI2.out) rfl ⟨fun _ => rfl, fun h => absurd HC.out h, ?_⟩
    exact bel_drew q1
  · have d0 : (cd != 0) = true := by simpa using hc
    have RR : Hid (Calls Tryd.prog 32 #[.pointer (some ⟨w.heap.size + 2, 0, none⟩)] _ fun e w1 => e = _ ∧ KB (w.heap.size + 2) _ w1) := hid_of (R1.out.mono fun e w1 h => ⟨h.2.1 hc, h.2.2⟩)
    have HC := hid_of hc
    clear hc R1
    go_enter Tryd.func19, Tryd.ntmps19
    go_wp2_with (go_at_call 32; ((with_reducible refine (RR.out).mono ?_); (rintro e w1 ⟨rfl, h2⟩; have K1 := hid_of h2; clear h2)))
    obtain ⟨ra, rb, rc⟩ := HRA.out w1 K1.out
    have B3 : Hid (Below w1.heap.size w1 ((w1.alloc (.cells #[.int .i64 0, .string ⟨#[]⟩, .int .i64 0, .int .i64 0] 25)).alloc (.cells #[.int .i64 cd, .int .i64 j] 28))) := hid_of ((bel_alloc w1 _).trans ((bel_alloc (w1.alloc _) _).mono (by simp)))
    have WA := hid_of ((B3.out.block w.heap.size (by omega)).trans ra)
    have WB := hid_of ((B3.out.block (w.heap.size + 1) (by omega)).trans rb)
    have T3 : Hid (((w1.alloc (.cells #[.int .i64 0, .string ⟨#[]⟩, .int .i64 0, .int .i64 0] 25)).alloc (.cells #[.int .i64 cd, .int .i64 j] 28)).heap[w1.heap.size]? = some (.cells #[.int .i64 0, .string ⟨#[]⟩, .int .i64 0, .int .i64 0] 25 (0, 0))) := hid_of (((bel_alloc (w1.alloc _) _).block w1.heap.size (by simp)).trans (heap_alloc_new w1 _))
    have U3 : Hid (((w1.alloc (.cells #[.int .i64 0, .string ⟨#[]⟩, .int .i64 0, .int .i64 0] 25)).alloc (.cells #[.int .i64 cd, .int .i64 j] 28)).heap[w1.heap.size + 1]? = some (.cells #[.int .i64 cd, .int .i64 j] 28 (0, 0))) := hid_of (by have h3 := heap_alloc_new (w1.alloc (.cells #[.int .i64 0, .string ⟨#[]⟩, .int .i64 0, .int .i64 0] 25)) (.cells #[.int .i64 cd, .int .i64 j] 28); rw [show (w1.alloc (.cells #[.int .i64 0, .string ⟨#[]⟩, .int .i64 0, .int .i64 0] 25)).heap.size = w1.heap.size + 1 by simp] at h3; exact h3)
    have LB := hid_of ((HBL.out w1 K1.out).trans (B3.out.mono (by omega)))
    have n1 : ¬ w.heap.size = w1.heap.size := by omega
    have n2 : ¬ w.heap.size + 1 = w1.heap.size := by omega
    have HRC := hid_of rc
    clear ra rb rc
    generalize ((w1.alloc (.cells #[.int .i64 0, .string ⟨#[]⟩, .int .i64 0, .int .i64 0] 25)).alloc (.cells #[.int .i64 cd, .int .i64 j] 28)) = w3 at *
    obtain ⟨c0, c1, c2, c3, f0, f1, f2, f3⟩ := row4 WA.out
    obtain ⟨e0, e1, g0, g1⟩ := row2 WB.out
    obtain ⟨t0, t1, _, _⟩ := row2 U3.out
    have n3 : ¬ w.heap.size = w1.heap.size + 1 := by have := HRC.out; omega
    have n4 : ¬ w.heap.size + 1 = w1.heap.size + 1 := by have := HRC.out; omega
    go_region
    go_wp2
    rw [set4 WA.out, set2 ((setRow_other _ _ _ _ (by omega)).trans WB.out)]
    obtain ⟨q1, q2, q3⟩ := nex_end (a := #[.int .i64 0, .string ⟨#[]⟩, .int .i64 0, .int .i64 0]) (b := #[.int .i64 cd, .int .i64 j]) LB.out WA.out WB.out
    refine bodyPost_ret (res_ctc (cs := #[.int .i64 0, .string ⟨#[]⟩, .int .i64 0, .int .i64 0]) (cs2 := #[.int .i64 cd, .int .i64 j]) rfl w.heap.size (w.heap.size + 1) rfl rfl q2 q3 Tryd.underlying25 rfl HI1.out Tryd.underlying28 rfl HI2.out) rfl ⟨fun h => absurd h HC.out, fun _ => rfl, ?_⟩
    exact bel_drew q1
end Go.Proofs.YtdmjlmlmdllhgaaDoor
