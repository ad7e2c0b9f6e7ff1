/- read of package lattice, of a description of the kind Max. Bounds on sizes alone. -/
import Derived.Test.YtoogcafceghdjaaLatWmx
namespace Go.Proofs.Ytoogcafceghdjaa
open Go.RowKit

theorem wk_blk {S : Nat → Prop} {w w' : World} (h : Wr.Kept S w w') (k : Nat) (hk : k < w.heap.size) (hs : ¬ S k) : w'.heap[k]? = w.heap[k]? := h.block k hk hs
theorem fr_blk {w : World} {b : Nat} {cs : List Value} {E : TypeId} (hb : w.heap[b]? = some (.cells cs.toArray E (0, 0))) (j : Nat) : w.frozen? ⟨b, j, none⟩ = false := by
  simp [World.frozen?, hb]
theorem set_blk {w : World} {b k a : Nat} {v : Value} (p : Nat) (hne : a ≠ b) : (w.setCell ⟨a, k, none⟩ v).heap[b]? = w.heap[b]? := Below.heap_setCell w ⟨a, k, none⟩ v b (fun h => hne h.symm)
set_option maxRecDepth 100000 in
set_option maxHeartbeats 3200000 in
theorem readmax_any (b g k1 k2 k3 n1 n2 : Nat) (d : List Int) (w : World) (h : Wr.Rst w b g d 0 0 0) (h1 : Wr.dec (d.drop 0) = some (2, k1)) (h2 : Wr.dec (d.drop (0 + k1)) = some (n1, k2)) (h3 : Wr.dec (d.drop (0 + k1 + k2)) = some (n2, k3)) :
    Calls Try.prog 24 #[.pointer (some ⟨b, 0, none⟩), .int .i64 1] w fun e w' => e = .returned (.agg #[.int .i64 2, .int .i64 (Wr.unzig n1), .int .i64 (Wr.unzig n2), .slice none 0 0, .slice none 0 0, .slice none 0 0]) ∧ Wr.Rst w' b g d (0 + k1 + k2 + k3) (0 + k1 + k2) 0 ∧ Wr.Kept (fun k => k = b) w w' := by
  have hgb := h.gne
  have hb := h.blt
  have hg := h.glt
  have HB := hid_of hb
  have HG := hid_of hg
  have R0 : Hid (Wr.Rst (w.alloc (.cells [.int .i64 0, .int .i64 0, .int .i64 0, .slice none 0 0, .slice none 0 0, .slice none 0 0].toArray 26 (0, 0))) b g d 0 0 0) := hid_of (h.same ((bel_alloc w _).block b hb) ((bel_alloc w _).block g hg))
  have C0 := hid_of (show Calls Try.prog 50 #[.pointer (some ⟨b, 0, none⟩)] (w.alloc (.cells #[.int .i64 0, .int .i64 0, .int .i64 0, .slice none 0 0, .slice none 0 0, .slice none 0 0] 26 (0, 0))) (fun e w' => e = .returned (.int .u64 2) ∧ Wr.RTo (w.alloc (.cells [.int .i64 0, .int .i64 0, .int .i64 0, .slice none 0 0, .slice none 0 0, .slice none 0 0].toArray 26 (0, 0))) w' b g d (0 + k1) 0 0) from Wr.ruint_ok b g 0 0 2 k1 d _ R0.out h1)
  -- what stands behind the first call
  have S1 : Hid (∀ w1 : World, Wr.RTo (w.alloc (.cells [.int .i64 0, .int .i64 0, .int .i64 0, .slice none 0 0, .slice none 0 0, .slice none 0 0].toArray 26 (0, 0))) w1 b g d (0 + k1) 0 0 → w1.heap.size = w.heap.size + 1 ∧ w1.heap[w.heap.size]? = some (.cells [.int .i64 0, .int .i64 0, .int .i64 0, .slice none 0 0, .slice none 0 0, .slice none 0 0].toArray 26 (0, 0)) ∧ Wr.Kept (fun k => k = b) w w1 ∧ Wr.Rst (w1.alloc (.cells [.int .i64 2, .int .i64 0, .int .i64 0, .slice none 0 0, .slice none 0 0, .slice none 0 0].toArray 26 (0, 0))) b g d (0 + k1) 0 0) := hid_of (fun w1 h => by
    obtain ⟨q1, q2, q3⟩ := h
    have hs : (w.alloc (.cells [.int .i64 0, .int .i64 0, .int .i64 0, .slice none 0 0, .slice none 0 0, .slice none 0 0].toArray 26 (0, 0))).heap.size = w.heap.size + 1 := by simp
    refine ⟨by rw [q3, hs], (q2.block w.heap.size (by rw [hs]; omega) (by omega)).trans (heap_alloc_new w _), q2.of_alloc, ?_⟩
    exact q1.same ((bel_alloc w1 _).block b q1.blt) ((bel_alloc w1 _).block g q1.glt))
  have S2 : Hid (∀ w1 w2 : World, w1.heap.size = w.heap.size + 1 → w1.heap[w.heap.size]? = some (.cells [.int .i64 0, .int .i64 0, .int .i64 0, .slice none 0 0, .slice none 0 0, .slice none 0 0].toArray 26 (0, 0)) → Wr.RTo (w1.alloc (.cells [.int .i64 2, .int .i64 0, .int .i64 0, .slice none 0 0, .slice none 0 0, .slice none 0 0].toArray 26 (0, 0))) w2 b g d (0 + k1 + k2) (0 + k1) 0 → w2.heap.size = w.heap.size + 2 ∧ w2.heap[w.heap.size]? = some (.cells [.int .i64 0, .int .i64 0, .int .i64 0, .slice none 0 0, .slice none 0 0, .slice none 0 0].toArray 26 (0, 0)) ∧ w2.heap[w1.heap.size]? = some (.cells [.int .i64 2, .int .i64 0, .int .i64 0, .slice none 0 0, .slice none 0 0, .slice none 0 0].toArray 26 (0, 0)) ∧ Wr.Kept (fun k => k = b) w1 w2 ∧
      Wr.Rst (w2.setCell ⟨w1.heap.size, 1, none⟩ (.int .i64 (Wr.unzig n1))) b g d (0 + k1 + k2) (0 + k1) 0 ∧ (w2.setCell ⟨w1.heap.size, 1, none⟩ (.int .i64 (Wr.unzig n1))).heap[w.heap.size]? = some (.cells [.int .i64 0, .int .i64 0, .int .i64 0, .slice none 0 0, .slice none 0 0, .slice none 0 0].toArray 26 (0, 0)) ∧ (w2.setCell ⟨w1.heap.size, 1, none⟩ (.int .i64 (Wr.unzig n1))).heap[w1.heap.size]? = some (.cells [.int .i64 2, .int .i64 (Wr.unzig n1), .int .i64 0, .slice none 0 0, .slice none 0 0, .slice none 0 0].toArray 26 (0, 0))) := hid_of (fun w1 w2 hs hz h => by
    obtain ⟨q1, q2, q3⟩ := h
    have hs2 : (w1.alloc (.cells [.int .i64 2, .int .i64 0, .int .i64 0, .slice none 0 0, .slice none 0 0, .slice none 0 0].toArray 26 (0, 0))).heap.size = w1.heap.size + 1 := by simp
    have e1 : w2.heap[w.heap.size]? = some (.cells [.int .i64 0, .int .i64 0, .int .i64 0, .slice none 0 0, .slice none 0 0, .slice none 0 0].toArray 26 (0, 0)) := (q2.block w.heap.size (by rw [hs2]; omega) (by omega)).trans (((bel_alloc w1 _).block _ (by omega)).trans hz)
    have e2 : w2.heap[w1.heap.size]? = some (.cells [.int .i64 2, .int .i64 0, .int .i64 0, .slice none 0 0, .slice none 0 0, .slice none 0 0].toArray 26 (0, 0)) := (q2.block w1.heap.size (by rw [hs2]; omega) (by omega)).trans (heap_alloc_new w1 _)
    refine ⟨by rw [q3, hs2, hs], e1, e2, q2.of_alloc, ?_, ?_, ?_⟩
    · exact q1.same (set_blk 0 (by omega)) (set_blk 0 (by omega))
    · exact (set_blk 0 (by omega)).trans e1
    · exact Go.Proofs.Ytoogcafceghdjaa.blk_setCell (k := 1) e2)
  have S3 : Hid (∀ w1 w2 w3 : World, w1.heap.size = w.heap.size + 1 → w2.heap.size = w.heap.size + 2 → (w2.setCell ⟨w1.heap.size, 1, none⟩ (.int .i64 (Wr.unzig n1))).heap[w.heap.size]? = some (.cells [.int .i64 0, .int .i64 0, .int .i64 0, .slice none 0 0, .slice none 0 0, .slice none 0 0].toArray 26 (0, 0)) → (w2.setCell ⟨w1.heap.size, 1, none⟩ (.int .i64 (Wr.unzig n1))).heap[w1.heap.size]? = some (.cells [.int .i64 2, .int .i64 (Wr.unzig n1), .int .i64 0, .slice none 0 0, .slice none 0 0, .slice none 0 0].toArray 26 (0, 0)) → Wr.RTo (w2.setCell ⟨w1.heap.size, 1, none⟩ (.int .i64 (Wr.unzig n1))) w3 b g d (0 + k1 + k2 + k3) (0 + k1 + k2) 0 →
      w3.heap[w.heap.size]? = some (.cells [.int .i64 0, .int .i64 0, .int .i64 0, .slice none 0 0, .slice none 0 0, .slice none 0 0].toArray 26 (0, 0)) ∧ w3.heap[w1.heap.size]? = some (.cells [.int .i64 2, .int .i64 (Wr.unzig n1), .int .i64 0, .slice none 0 0, .slice none 0 0, .slice none 0 0].toArray 26 (0, 0)) ∧ Wr.Kept (fun k => k = b ∨ k = w1.heap.size) w2 w3 ∧
      Wr.Rst (w3.setCell ⟨w1.heap.size, 2, none⟩ (.int .i64 (Wr.unzig n2))) b g d (0 + k1 + k2 + k3) (0 + k1 + k2) 0 ∧ (w3.setCell ⟨w1.heap.size, 2, none⟩ (.int .i64 (Wr.unzig n2))).heap[w.heap.size]? = some (.cells [.int .i64 0, .int .i64 0, .int .i64 0, .slice none 0 0, .slice none 0 0, .slice none 0 0].toArray 26 (0, 0)) ∧ (w3.setCell ⟨w1.heap.size, 2, none⟩ (.int .i64 (Wr.unzig n2))).heap[w1.heap.size]? = some (.cells [.int .i64 2, .int .i64 (Wr.unzig n1), .int .i64 (Wr.unzig n2), .slice none 0 0, .slice none 0 0, .slice none 0 0].toArray 26 (0, 0))) := hid_of (fun w1 w2 w3 hs hs2 hz hl h => by
    obtain ⟨q1, q2, q3⟩ := h
    have hss : (w2.setCell ⟨w1.heap.size, 1, none⟩ (.int .i64 (Wr.unzig n1))).heap.size = w2.heap.size := by simp
    have e1 : w3.heap[w.heap.size]? = some (.cells [.int .i64 0, .int .i64 0, .int .i64 0, .slice none 0 0, .slice none 0 0, .slice none 0 0].toArray 26 (0, 0)) := (q2.block w.heap.size (by rw [hss]; omega) (by omega)).trans hz
    have e2 : w3.heap[w1.heap.size]? = some (.cells [.int .i64 2, .int .i64 (Wr.unzig n1), .int .i64 0, .slice none 0 0, .slice none 0 0, .slice none 0 0].toArray 26 (0, 0)) := (q2.block w1.heap.size (by rw [hss]; omega) (by omega)).trans hl
    refine ⟨e1, e2, ?_, ?_, ?_, ?_⟩
    · exact ⟨q2.os, q2.tape, q2.output, by rw [← hss]; exact q2.size, fun k hk hn => (q2.block k (by rw [hss]; exact hk) (fun e => hn (.inl e))).trans (set_blk 0 (fun e => hn (.inr e.symm)))⟩
    · exact q1.same (set_blk 0 (by omega)) (set_blk 0 (by omega))
    · exact (set_blk 0 (by omega)).trans e1
    · exact Go.Proofs.Ytoogcafceghdjaa.blk_setCell (k := 2) e2)
  have LX1 : Hid ((#[.int .i64 2, .int .i64 (Wr.unzig n1), .int .i64 (Wr.unzig n2), .slice none 0 0, .slice none 0 0, .slice none 0 0] : Array Value).all (·.oneCell') = true) := hid_of (by simp [Value.oneCell'])
  have H2 := hid_of h2
  have H3 := hid_of h3
  clear h h1 h2 h3 hb hg hgb
  go_enter Try.func24, Try.ntmps24
  go_wp2_with (first
    | (go_at_call 50; ((with_reducible refine (C0.out).mono ?_); (rintro e w1 ⟨rfl, r1⟩); (have R1 := hid_of (S1.out w1 r1)); (have C1 := hid_of (Wr.rint_ok b g _ _ n1 k2 d _ R1.out.2.2.2 H2.out)); clear r1))
    | (go_at_call 52; ((with_reducible refine (C1.out).mono ?_); (rintro e w2 ⟨rfl, r1⟩); (have R2 := hid_of (S2.out w1 w2 R1.out.1 R1.out.2.1 r1)); (have s1 := cell_blk R2.out.2.2.1 (j := 1) rfl); (have s2 := fr_blk R2.out.2.2.1 1); (have C2 := hid_of (Wr.rint_ok b g _ _ n2 k3 d _ R2.out.2.2.2.2.1 H3.out)); clear r1))
    | (go_at_call 52; ((with_reducible refine (C2.out).mono ?_); (rintro e w3 ⟨rfl, r1⟩); (have R3 := hid_of (S3.out w1 w2 w3 R1.out.1 R2.out.1 R2.out.2.2.2.2.2.1 R2.out.2.2.2.2.2.2 r1)); (have t1 := cell_blk R3.out.2.1 (j := 2) rfl); (have t2 := fr_blk R3.out.2.1 2); (have y0 := cell_blk R3.out.2.2.2.2.2 (j := 0) rfl); (have y1 := cell_blk R3.out.2.2.2.2.2 (j := 1) rfl); (have y2 := cell_blk R3.out.2.2.2.2.2 (j := 2) rfl); (have y3 := cell_blk R3.out.2.2.2.2.2 (j := 3) rfl); (have y4 := cell_blk R3.out.2.2.2.2.2 (j := 4) rfl); (have y5 := cell_blk R3.out.2.2.2.2.2 (j := 5) rfl); clear r1 s1 s2))
    | (refine wpList_store_row rfl 26 (.tmp 4) (.tmp 108) rfl w.heap.size #[.int .i64 2, .int .i64 (Wr.unzig n1), .int .i64 (Wr.unzig n2), .slice none 0 0, .slice none 0 0, .slice none 0 0] rfl rfl 26 _ R3.out.2.2.2.2.1 infoLat rfl LX1.out ?_))
  refine bodyPost_ret (results_cell_row rfl _ _ w.heap.size 26 #[.int .i64 2, .int .i64 (Wr.unzig n1), .int .i64 (Wr.unzig n2), .slice none 0 0, .slice none 0 0, .slice none 0 0] (0, 0) _ rfl (setRow_heap _ _ _ _ _ _ R3.out.2.2.2.2.1) Try.underlying26 rfl infoLat) rfl ⟨rfl, ?_, ?_⟩
  · exact R3.out.2.2.2.1.same (setRow_other _ _ _ _ (by have := HB.out; omega)) (setRow_other _ _ _ _ (by have := HG.out; omega))
  · have a1 := R1.out.2.2.1
    have a2 := R2.out.2.2.2.1
    have a3 := R3.out.2.2.1
    have z1 := R1.out.1
    have z2 := R2.out.1
    refine ⟨a3.os.trans (a2.os.trans a1.os), a3.tape.trans (a2.tape.trans a1.tape), a3.output.trans (a2.output.trans a1.output), ?_, fun k hk hn => ?_⟩
    · have := a3.size
      simp [World.setRow]
      omega
    · rw [setRow_other _ _ _ _ (by omega)]
      exact (set_blk 0 (by omega)).trans ((a3.block k (by omega) (by omega)).trans ((a2.block k (by omega) hn).trans (a1.block k hk hn)))
end Go.Proofs.Ytoogcafceghdjaa
