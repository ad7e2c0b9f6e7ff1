/- The scanner: blanks, then a token. Bounds on sizes alone. -/
import Derived.Test.YtdmjlmlmdllhgaaDoorLexTkn
namespace Go.Proofs.YtdmjlmlmdllhgaaDoor
open Go.RowKit

def Wz (w : World) : World := (w.alloc zTok).alloc zFlt
theorem bel_Wz (w : World) : Below w.heap.size w (Wz w) := (bel_alloc w zTok).trans ((bel_alloc (w.alloc zTok) zFlt).mono (by simp))
/-- What next says: a token with its place, or a fault. -/
def NxtP (b : Nat) (s : ByteArray) (g : Got) (p : Nat) (w : World) (e : Ending) (w' : World) : Prop :=
  (g.code = 0 → e = .returned (.tuple #[.agg #[.int .i64 g.kind, .string g.text, .int .i64 g.n, .int .i64 p], .agg #[.int .i64 0, .int .i64 0]]) ∧ Pst w' b s g.stop) ∧
  (g.code ≠ 0 → e = .returned (.tuple #[.agg #[.int .i64 0, .string ⟨#[]⟩, .int .i64 0, .int .i64 0], .agg #[.int .i64 g.code, .int .i64 p]])) ∧ KB b w w'

set_option maxRecDepth 100000 in
set_option maxHeartbeats 1600000 in
theorem lnext_any (b : Nat) (s : ByteArray) (i : Nat) (w : World) (hs : s.size ≤ 1000000) (hi : i ≤ s.size) (hb : 8 ≤ b) (hG : Glob w) (H : Pst w b s i) :
    Calls Tryd.prog 32 #[.pointer (some ⟨b, 0, none⟩)] w (NxtP b s (nextF s i) (sk s i) w) := by
  have HBW := hid_of H.lt
  have P0 := H.bel (bel_Wz w) H.lt
  have G0 := hG.bel (bel_Wz w) hG.eight
  have R1 := hid_of (lskip_any b s i (Wz w) hs hi P0)
  obtain ⟨j, hj⟩ : ∃ j, j = sk s i := ⟨_, rfl⟩
  have hjs : j ≤ s.size := by rw [hj]; exact (sk_spec s i).2.1 hi
  obtain ⟨g, hg⟩ : ∃ g, g = nextF s i := ⟨_, rfl⟩
  have hgt : tknF s j = g := by rw [hg, hj]; exact tkn_next s i
  rw [← hj] at R1
  rw [← hj, ← hg]
  have HTK : Hid (∀ w1, Pst w1 b s j → KB b (Wz w) w1 → Calls Tryd.prog 43 #[.pointer (some ⟨b, 0, none⟩)] w1 (TokN b s g.kind g.text g.n g.stop g.code (Wz w))) := hid_of (fun w1 h1 h2 => (ltoken_any b s j w1 hs hjs hb (G0.kept h2 hb) h1).mono fun e w2 h => by rw [hgt] at h; exact tokN_of h2 h)
  have HRA : Hid (∀ w1, KB b (Wz w) w1 → w1.heap[w.heap.size]? = some (.cells #[.int .i64 0, .string ⟨#[]⟩, .int .i64 0, .int .i64 0] 25 (0, 0)) ∧ w1.heap[w.heap.size + 1]? = some (.cells #[.int .i64 0, .int .i64 0] 28 (0, 0)) ∧ w.heap.size + 1 < w1.heap.size) := hid_of (fun w1 h => by
    have hsz : (Wz w).heap.size = w.heap.size + 2 := by simp [Wz]
    refine ⟨(h.block w.heap.size (by omega) (by have := HBW.out; omega)).trans ?_, (h.block (w.heap.size + 1) (by omega) (by have := HBW.out; omega)).trans ?_, by have := h.size; omega⟩
    · exact ((bel_alloc (w.alloc zTok) zFlt).block w.heap.size (by simp)).trans (heap_alloc_new w zTok)
    · have h3 := heap_alloc_new (w.alloc zTok) zFlt
      rw [show (w.alloc zTok).heap.size = w.heap.size + 1 by simp] at h3
      exact h3)
  obtain ⟨kd, tx, nn, st, cd⟩ := g
  have HRX : Hid (∀ w1 (z : Int), KB b (Wz w) w1 → (w1.alloc (.cells #[.int .i64 kd, .string tx, .int .i64 nn, .int .i64 z] 25)).heap[w.heap.size]? = some (.cells #[.int .i64 0, .string ⟨#[]⟩, .int .i64 0, .int .i64 0] 25 (0, 0)) ∧ (w1.alloc (.cells #[.int .i64 kd, .string tx, .int .i64 nn, .int .i64 z] 25)).heap[w.heap.size + 1]? = some (.cells #[.int .i64 0, .int .i64 0] 28 (0, 0)) ∧ w.heap.size + 1 < w1.heap.size) := hid_of (fun w1 z h => by
    obtain ⟨q1, q2, q3⟩ := HRA.out w1 h
    exact ⟨((bel_alloc w1 _).block w.heap.size (by omega)).trans q1, ((bel_alloc w1 _).block (w.heap.size + 1) q3).trans q2, q3⟩)
  have HKE : Hid (∀ w1 (z : Int) c1 c2, KB b (Wz w) w1 → KB b w (((w1.alloc (.cells #[.int .i64 kd, .string tx, .int .i64 nn, .int .i64 z] 25)).setRow w.heap.size c1).setRow (w.heap.size + 1) c2)) := hid_of (fun w1 z c1 c2 h => kept_row (kept_row ((Kept.ofBelow (bel_Wz w)).trans (h.trans (Kept.ofBelow (bel_alloc w1 _)))) (Nat.le_refl _) c1) (by omega) c2)
  dsimp only at HTK
  have HI1 := hid_of infoTok
  have HI2 := hid_of infoFlt
  clear H hG hs hi hb P0 G0 hj hg hgt hjs
  rw [show Wz w = (w.alloc (.cells #[.int .i64 0, .string ⟨#[]⟩, .int .i64 0, .int .i64 0] 25)).alloc (.cells #[.int .i64 0, .int .i64 0] 28) from rfl] at *
  by_cases hc : cd = 0
  · have d0 : (cd != 0) = false := by simpa using hc
    have HC := hid_of hc
    clear hc
    go_enter Tryd.func32, Tryd.ntmps32
    go_wp2_with (first
      | (go_at_call 42; ((with_reducible refine (R1.out).mono ?_); (rintro e w1 ⟨rfl, h1, h2⟩; have c1 := h1.pos; have T1 := hid_of (HTK.out w1 h1 h2); clear h1 h2)))
      | (go_at_call 43; go_loud ((with_reducible refine (T1.out).mono ?_); (rintro e w2 ⟨rfl, h1, h2⟩; have P2 := hid_of h1; have K2 := hid_of h2; obtain ⟨ra, rb, rc⟩ := HRX.out w2 j h2; have WA := hid_of ra; have WB := hid_of rb; have WC := hid_of rc; obtain ⟨c0, c1, c2, c3, f0, f1, f2, f3⟩ := row4 ra; obtain ⟨e0, e1, g0, g1⟩ := row2 rb; clear h1 h2 ra rb rc))))
    have hb := HBW.out
    have hw := WC.out
    have P3 := hid_of (((P2.out HC.out).al (.cells #[.int .i64 kd, .string tx, .int .i64 nn, .int .i64 j] 25)).row (g := w.heap.size) (by omega) #[.int .i64 kd, .string tx, .int .i64 nn, .int .i64 j] |>.row (g := w.heap.size + 1) (by omega) #[.int .i64 0, .int .i64 0])
    rw [set4 WA.out, set2 ((setRow_other _ _ _ _ (by omega)).trans WB.out)]
    have W3 : Hid (_ ∧ _) := hid_of ⟨(setRow_other _ (w.heap.size + 1) w.heap.size #[.int .i64 0, .int .i64 0] (by omega)).trans (setRow_heap _ _ _ #[.int .i64 kd, .string tx, .int .i64 nn, .int .i64 j] _ _ WA.out), setRow_heap _ (w.heap.size + 1) _ #[.int .i64 0, .int .i64 0] _ _ ((setRow_other _ w.heap.size (w.heap.size + 1) #[.int .i64 kd, .string tx, .int .i64 nn, .int .i64 j] (by omega)).trans WB.out)⟩
    refine bodyPost_ret (res_cc (cs := #[.int .i64 kd, .string tx, .int .i64 nn, .int .i64 j]) (cs2 := #[.int .i64 0, .int .i64 0]) rfl w.heap.size (w.heap.size + 1) rfl rfl W3.out.1 W3.out.2 Tryd.underlying25 rfl HI1.out Tryd.underlying28 rfl HI2.out) rfl ⟨fun _ => ⟨rfl, P3.out⟩, fun h => absurd HC.out h, ?_⟩
    exact HKE.out w2 j _ _ K2.out
  · have d0 : (cd != 0) = true := by simpa using hc
    have HC := hid_of hc
    clear hc
    go_enter Tryd.func32, Tryd.ntmps32
    go_wp2_with (first
      | (go_at_call 42; ((with_reducible refine (R1.out).mono ?_); (rintro e w1 ⟨rfl, h1, h2⟩; have c1 := h1.pos; have T1 := hid_of (HTK.out w1 h1 h2); clear h1 h2)))
      | (go_at_call 43; go_loud ((with_reducible refine (T1.out).mono ?_); (rintro e w2 ⟨rfl, h1, h2⟩; have P2 := hid_of h1; have K2 := hid_of h2; obtain ⟨ra, rb, rc⟩ := HRX.out w2 0 h2; have WA := hid_of ra; have WB := hid_of rb; have WC := hid_of rc; obtain ⟨c0, c1, c2, c3, f0, f1, f2, f3⟩ := row4 ra; obtain ⟨e0, e1, g0, g1⟩ := row2 rb; clear h1 h2 ra rb rc))))
    rw [set4 WA.out, set2 ((setRow_other _ _ _ _ (by omega)).trans WB.out)]
    have W3 : Hid (_ ∧ _) := hid_of ⟨(setRow_other _ (w.heap.size + 1) w.heap.size #[.int .i64 cd, .int .i64 j] (by omega)).trans (setRow_heap _ _ _ #[.int .i64 0, .string ⟨#[]⟩, .int .i64 0, .int .i64 0] _ _ WA.out), setRow_heap _ (w.heap.size + 1) _ #[.int .i64 cd, .int .i64 j] _ _ ((setRow_other _ w.heap.size (w.heap.size + 1) #[.int .i64 0, .string ⟨#[]⟩, .int .i64 0, .int .i64 0] (by omega)).trans WB.out)⟩
    refine bodyPost_ret (res_cc (cs := #[.int .i64 0, .string ⟨#[]⟩, .int .i64 0, .int .i64 0]) (cs2 := #[.int .i64 cd, .int .i64 j]) rfl w.heap.size (w.heap.size + 1) rfl rfl W3.out.1 W3.out.2 Tryd.underlying25 rfl HI1.out Tryd.underlying28 rfl HI2.out) rfl ⟨fun h => absurd h HC.out, fun _ => rfl, ?_⟩
    exact HKE.out w2 0 _ _ K2.out
end Go.Proofs.YtdmjlmlmdllhgaaDoor
