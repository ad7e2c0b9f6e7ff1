/- The reference: Next. Bounds on sizes alone. -/
import Derived.Test.YtdmjlmlmdllhgaaDoorLexRtk
namespace Go.Proofs.YtdmjlmlmdllhgaaDoor
open Go.RowKit

set_option maxRecDepth 100000 in
set_option maxHeartbeats 1600000 in
theorem qnex_big (s : ByteArray) (a : Int) (w : World) (hs : 65536 < s.size) :
    Calls Tryd.prog 20 #[.string s, .int .i64 a] w (NexBad 6 65536 w) := by
  have ZA : Hid (((w.alloc (.cells #[.int .i64 0, .string ⟨#[]⟩, .int .i64 0, .int .i64 0] 25)).alloc (.cells #[.int .i64 0, .int .i64 0] 28)).heap[w.heap.size]? = some (.cells #[.int .i64 0, .string ⟨#[]⟩, .int .i64 0, .int .i64 0] 25 (0, 0))) := hid_of (two_a _ _ _)
  have ZB : Hid (((w.alloc (.cells #[.int .i64 0, .string ⟨#[]⟩, .int .i64 0, .int .i64 0] 25)).alloc (.cells #[.int .i64 0, .int .i64 0] 28)).heap[w.heap.size + 1]? = some (.cells #[.int .i64 0, .int .i64 0] 28 (0, 0))) := hid_of (two_b _ _ _)
  have ZL : Hid (w.heap.size + 1 < ((w.alloc (.cells #[.int .i64 0, .string ⟨#[]⟩, .int .i64 0, .int .i64 0] 25)).alloc (.cells #[.int .i64 0, .int .i64 0] 28)).heap.size) := hid_of (by simp)
  have ZW : Hid (Below w.heap.size w ((w.alloc (.cells #[.int .i64 0, .string ⟨#[]⟩, .int .i64 0, .int .i64 0] 25)).alloc (.cells #[.int .i64 0, .int .i64 0] 28))) := hid_of (bel_two _ _ _)
  have ZN : Hid (∀ w1, Below ((w.alloc (.cells #[.int .i64 0, .string ⟨#[]⟩, .int .i64 0, .int .i64 0] 25)).alloc (.cells #[.int .i64 0, .int .i64 0] 28)).heap.size ((w.alloc (.cells #[.int .i64 0, .string ⟨#[]⟩, .int .i64 0, .int .i64 0] 25)).alloc (.cells #[.int .i64 0, .int .i64 0] 28)) w1 → w1.heap[w.heap.size]? = some (.cells #[.int .i64 0, .string ⟨#[]⟩, .int .i64 0, .int .i64 0] 25 (0, 0)) ∧ w1.heap[w.heap.size + 1]? = some (.cells #[.int .i64 0, .int .i64 0] 28 (0, 0)) ∧ Below w.heap.size w w1) := hid_of (fun w1 h => ⟨(h.block _ (Nat.lt_of_succ_lt ZL.out)).trans ZA.out, (h.block _ ZL.out).trans ZB.out, ZW.out.trans (h.mono ZW.out.size)⟩)
  have HI1 := hid_of infoTok
  have HI2 := hid_of infoFlt
  have d1 : decide ((s.size : Int) > 65536) = true := decide_eq_true (by omega)
  clear hs
  go_enter Tryd.func20, Tryd.ntmps20
  go_wp2_with (go_at_call 33; ((with_reducible refine (qfault_any _ _ _).mono ?_); (rintro e w1 ⟨rfl, h1⟩; have B1 := hid_of (h1); clear h1; obtain ⟨ra, rb, rc⟩ := ZN.out _ B1.out; have WA := hid_of ra; have WB := hid_of rb; have LB := hid_of rc; obtain ⟨c0, c1, c2, c3, f0, f1, f2, f3⟩ := row4 ra; obtain ⟨e0, e1, g0, g1⟩ := row2 rb; clear ra rb rc)))
  rw [set4 WA.out, set2 ((setRow_other _ _ _ _ (by omega)).trans WB.out)]
  obtain ⟨q1, q2, q3⟩ := nex_end (a := #[.int .i64 0, .string ⟨#[]⟩, .int .i64 0, .int .i64 0]) (b := #[.int .i64 6, .int .i64 65536]) LB.out WA.out WB.out
  exact bodyPost_ret (res_ctc (cs := #[.int .i64 0, .string ⟨#[]⟩, .int .i64 0, .int .i64 0]) (cs2 := #[.int .i64 6, .int .i64 65536]) rfl w.heap.size (w.heap.size + 1) rfl rfl q2 q3 Tryd.underlying25 rfl HI1.out Tryd.underlying28 rfl HI2.out) rfl ⟨rfl, q1⟩

set_option maxRecDepth 100000 in
set_option maxHeartbeats 1600000 in
theorem qnex_neg (s : ByteArray) (a : Int) (w : World) (hs : s.size ≤ 65536) (ha : a < 0) :
    Calls Tryd.prog 20 #[.string s, .int .i64 a] w (NexBad 1 0 w) := by
  have ZA : Hid (((w.alloc (.cells #[.int .i64 0, .string ⟨#[]⟩, .int .i64 0, .int .i64 0] 25)).alloc (.cells #[.int .i64 0, .int .i64 0] 28)).heap[w.heap.size]? = some (.cells #[.int .i64 0, .string ⟨#[]⟩, .int .i64 0, .int .i64 0] 25 (0, 0))) := hid_of (two_a _ _ _)
  have ZB : Hid (((w.alloc (.cells #[.int .i64 0, .string ⟨#[]⟩, .int .i64 0, .int .i64 0] 25)).alloc (.cells #[.int .i64 0, .int .i64 0] 28)).heap[w.heap.size + 1]? = some (.cells #[.int .i64 0, .int .i64 0] 28 (0, 0))) := hid_of (two_b _ _ _)
  have ZL : Hid (w.heap.size + 1 < ((w.alloc (.cells #[.int .i64 0, .string ⟨#[]⟩, .int .i64 0, .int .i64 0] 25)).alloc (.cells #[.int .i64 0, .int .i64 0] 28)).heap.size) := hid_of (by simp)
  have ZW : Hid (Below w.heap.size w ((w.alloc (.cells #[.int .i64 0, .string ⟨#[]⟩, .int .i64 0, .int .i64 0] 25)).alloc (.cells #[.int .i64 0, .int .i64 0] 28))) := hid_of (bel_two _ _ _)
  have ZN : Hid (∀ w1, Below ((w.alloc (.cells #[.int .i64 0, .string ⟨#[]⟩, .int .i64 0, .int .i64 0] 25)).alloc (.cells #[.int .i64 0, .int .i64 0] 28)).heap.size ((w.alloc (.cells #[.int .i64 0, .string ⟨#[]⟩, .int .i64 0, .int .i64 0] 25)).alloc (.cells #[.int .i64 0, .int .i64 0] 28)) w1 → w1.heap[w.heap.size]? = some (.cells #[.int .i64 0, .string ⟨#[]⟩, .int .i64 0, .int .i64 0] 25 (0, 0)) ∧ w1.heap[w.heap.size + 1]? = some (.cells #[.int .i64 0, .int .i64 0] 28 (0, 0)) ∧ Below w.heap.size w w1) := hid_of (fun w1 h => ⟨(h.block _ (Nat.lt_of_succ_lt ZL.out)).trans ZA.out, (h.block _ ZL.out).trans ZB.out, ZW.out.trans (h.mono ZW.out.size)⟩)
  have HI1 := hid_of infoTok
  have HI2 := hid_of infoFlt
  have d1 : decide ((s.size : Int) > 65536) = false := decide_eq_false (by omega)
  have d2 : decide (a < 0) = true := decide_eq_true ha
  clear hs
  go_enter Tryd.func20, Tryd.ntmps20
  go_wp2_with (go_at_call 33; ((with_reducible refine (qfault_any _ _ _).mono ?_); (rintro e w1 ⟨rfl, h1⟩; have B1 := hid_of (h1); clear h1; obtain ⟨ra, rb, rc⟩ := ZN.out _ B1.out; have WA := hid_of ra; have WB := hid_of rb; have LB := hid_of rc; obtain ⟨c0, c1, c2, c3, f0, f1, f2, f3⟩ := row4 ra; obtain ⟨e0, e1, g0, g1⟩ := row2 rb; clear ra rb rc)))
  rw [set4 WA.out, set2 ((setRow_other _ _ _ _ (by omega)).trans WB.out)]
  obtain ⟨q1, q2, q3⟩ := nex_end (a := #[.int .i64 0, .string ⟨#[]⟩, .int .i64 0, .int .i64 0]) (b := #[.int .i64 1, .int .i64 0]) LB.out WA.out WB.out
  exact bodyPost_ret (res_ctc (cs := #[.int .i64 0, .string ⟨#[]⟩, .int .i64 0, .int .i64 0]) (cs2 := #[.int .i64 1, .int .i64 0]) rfl w.heap.size (w.heap.size + 1) rfl rfl q2 q3 Tryd.underlying25 rfl HI1.out Tryd.underlying28 rfl HI2.out) rfl ⟨rfl, q1⟩

set_option maxRecDepth 100000 in
set_option maxHeartbeats 1600000 in
theorem qnex_over (s : ByteArray) (a : Int) (w : World) (hs : s.size ≤ 65536) (ha : (s.size : Int) < a) :
    Calls Tryd.prog 20 #[.string s, .int .i64 a] w (NexBad 1 0 w) := by
  have ZA : Hid (((w.alloc (.cells #[.int .i64 0, .string ⟨#[]⟩, .int .i64 0, .int .i64 0] 25)).alloc (.cells #[.int .i64 0, .int .i64 0] 28)).heap[w.heap.size]? = some (.cells #[.int .i64 0, .string ⟨#[]⟩, .int .i64 0, .int .i64 0] 25 (0, 0))) := hid_of (two_a _ _ _)
  have ZB : Hid (((w.alloc (.cells #[.int .i64 0, .string ⟨#[]⟩, .int .i64 0, .int .i64 0] 25)).alloc (.cells #[.int .i64 0, .int .i64 0] 28)).heap[w.heap.size + 1]? = some (.cells #[.int .i64 0, .int .i64 0] 28 (0, 0))) := hid_of (two_b _ _ _)
  have ZL : Hid (w.heap.size + 1 < ((w.alloc (.cells #[.int .i64 0, .string ⟨#[]⟩, .int .i64 0, .int .i64 0] 25)).alloc (.cells #[.int .i64 0, .int .i64 0] 28)).heap.size) := hid_of (by simp)
  have ZW : Hid (Below w.heap.size w ((w.alloc (.cells #[.int .i64 0, .string ⟨#[]⟩, .int .i64 0, .int .i64 0] 25)).alloc (.cells #[.int .i64 0, .int .i64 0] 28))) := hid_of (bel_two _ _ _)
  have ZN : Hid (∀ w1, Below ((w.alloc (.cells #[.int .i64 0, .string ⟨#[]⟩, .int .i64 0, .int .i64 0] 25)).alloc (.cells #[.int .i64 0, .int .i64 0] 28)).heap.size ((w.alloc (.cells #[.int .i64 0, .string ⟨#[]⟩, .int .i64 0, .int .i64 0] 25)).alloc (.cells #[.int .i64 0, .int .i64 0] 28)) w1 → w1.heap[w.heap.size]? = some (.cells #[.int .i64 0, .string ⟨#[]⟩, .int .i64 0, .int .i64 0] 25 (0, 0)) ∧ w1.heap[w.heap.size + 1]? = some (.cells #[.int .i64 0, .int .i64 0] 28 (0, 0)) ∧ Below w.heap.size w w1) := hid_of (fun w1 h => ⟨(h.block _ (Nat.lt_of_succ_lt ZL.out)).trans ZA.out, (h.block _ ZL.out).trans ZB.out, ZW.out.trans (h.mono ZW.out.size)⟩)
  have HI1 := hid_of infoTok
  have HI2 := hid_of infoFlt
  have d1 : decide ((s.size : Int) > 65536) = false := decide_eq_false (by omega)
  have d2 : decide (a < 0) = false := decide_eq_false (by omega)
  have d3 : decide ((s.size : Int) < a) = true := decide_eq_true ha
  clear hs
  go_enter Tryd.func20, Tryd.ntmps20
  go_wp2_with (go_at_call 33; ((with_reducible refine (qfault_any _ _ _).mono ?_); (rintro e w1 ⟨rfl, h1⟩; have B1 := hid_of (h1); clear h1; obtain ⟨ra, rb, rc⟩ := ZN.out _ B1.out; have WA := hid_of ra; have WB := hid_of rb; have LB := hid_of rc; obtain ⟨c0, c1, c2, c3, f0, f1, f2, f3⟩ := row4 ra; obtain ⟨e0, e1, g0, g1⟩ := row2 rb; clear ra rb rc)))
  rw [set4 WA.out, set2 ((setRow_other _ _ _ _ (by omega)).trans WB.out)]
  obtain ⟨q1, q2, q3⟩ := nex_end (a := #[.int .i64 0, .string ⟨#[]⟩, .int .i64 0, .int .i64 0]) (b := #[.int .i64 1, .int .i64 0]) LB.out WA.out WB.out
  exact bodyPost_ret (res_ctc (cs := #[.int .i64 0, .string ⟨#[]⟩, .int .i64 0, .int .i64 0]) (cs2 := #[.int .i64 1, .int .i64 0]) rfl w.heap.size (w.heap.size + 1) rfl rfl q2 q3 Tryd.underlying25 rfl HI1.out Tryd.underlying28 rfl HI2.out) rfl ⟨rfl, q1⟩

set_option maxRecDepth 100000 in
set_option maxHeartbeats 1600000 in
theorem qnex_any (s : ByteArray) (i : Nat) (w : World) (hs : s.size ≤ 65536) (hi : i ≤ s.size) :
    Calls Tryd.prog 20 #[.string s, .int .i64 i] w (NexP (nextF s i) (sk s i) w) := by
  have ZA : Hid (((w.alloc (.cells #[.int .i64 0, .string ⟨#[]⟩, .int .i64 0, .int .i64 0] 25)).alloc (.cells #[.int .i64 0, .int .i64 0] 28)).heap[w.heap.size]? = some (.cells #[.int .i64 0, .string ⟨#[]⟩, .int .i64 0, .int .i64 0] 25 (0, 0))) := hid_of (two_a _ _ _)
  have ZB : Hid (((w.alloc (.cells #[.int .i64 0, .string ⟨#[]⟩, .int .i64 0, .int .i64 0] 25)).alloc (.cells #[.int .i64 0, .int .i64 0] 28)).heap[w.heap.size + 1]? = some (.cells #[.int .i64 0, .int .i64 0] 28 (0, 0))) := hid_of (two_b _ _ _)
  have ZL : Hid (w.heap.size + 1 < ((w.alloc (.cells #[.int .i64 0, .string ⟨#[]⟩, .int .i64 0, .int .i64 0] 25)).alloc (.cells #[.int .i64 0, .int .i64 0] 28)).heap.size) := hid_of (by simp)
  have ZW : Hid (Below w.heap.size w ((w.alloc (.cells #[.int .i64 0, .string ⟨#[]⟩, .int .i64 0, .int .i64 0] 25)).alloc (.cells #[.int .i64 0, .int .i64 0] 28))) := hid_of (bel_two _ _ _)
  have ZN : Hid (∀ w1, Below ((w.alloc (.cells #[.int .i64 0, .string ⟨#[]⟩, .int .i64 0, .int .i64 0] 25)).alloc (.cells #[.int .i64 0, .int .i64 0] 28)).heap.size ((w.alloc (.cells #[.int .i64 0, .string ⟨#[]⟩, .int .i64 0, .int .i64 0] 25)).alloc (.cells #[.int .i64 0, .int .i64 0] 28)) w1 → w1.heap[w.heap.size]? = some (.cells #[.int .i64 0, .string ⟨#[]⟩, .int .i64 0, .int .i64 0] 25 (0, 0)) ∧ w1.heap[w.heap.size + 1]? = some (.cells #[.int .i64 0, .int .i64 0] 28 (0, 0)) ∧ Below w.heap.size w w1) := hid_of (fun w1 h => ⟨(h.block _ (Nat.lt_of_succ_lt ZL.out)).trans ZA.out, (h.block _ ZL.out).trans ZB.out, ZW.out.trans (h.mono ZW.out.size)⟩)
  have HI1 := hid_of infoTok
  have HI2 := hid_of infoFlt
  obtain ⟨g, hg⟩ : ∃ g, g = nextF s i := ⟨_, rfl⟩
  obtain ⟨j, hj⟩ : ∃ j, j = sk s i := ⟨_, rfl⟩
  have hjs : j ≤ s.size := by rw [hj]; exact (sk_spec s i).2.1 hi
  rw [← hg, ← hj]
  have SK : Hid (∀ w1, Calls Tryd.prog 34 #[.string s, .int .i64 i] w1 (NumP j w1)) := hid_of (fun w1 => by rw [hj]; exact qskip_any s i w1 (by omega) hi)
  have HG : Hid (g = if j = s.size then ⟨6, ⟨#[]⟩, 0, s.size, 0⟩ else tokF s j) := hid_of (by rw [hg, hj]; rfl)
  have HS := hid_of hs
  have b0 : (0 : Int) ≤ (i : Int) := by omega
  have b1 : (i : Int) ≤ (s.size : Int) := by omega
  have d1 : decide ((s.size : Int) > 65536) = false := decide_eq_false (by omega)
  have d2 : decide ((i : Int) < 0) = false := decide_eq_false (by omega)
  have d3 : decide (s.size < i) = false := decide_eq_false (by omega)
  clear hg hj hi hs
  by_cases he : j = s.size
  · have GE : Hid (g = ⟨6, ⟨#[]⟩, 0, j, 0⟩) := hid_of (by rw [HG.out, if_pos he, he])
    have d4 : ((j : Int) == (s.size : Int)) = true := by rw [he]; simp
    have d5 : decide (j = s.size) = true := decide_eq_true he
    clear he HG hjs
    go_enter Tryd.func20, Tryd.ntmps20
    go_wp2_with (go_at_call 34; ((with_reducible refine (SK.out _).mono ?_); (rintro e w' ⟨rfl, rfl⟩)))
    refine bodyPost_ret (res_ctc (cs := #[.int .i64 6, .string ⟨#[]⟩, .int .i64 0, .int .i64 j]) (cs2 := #[.int .i64 0, .int .i64 0]) rfl w.heap.size (w.heap.size + 1) rfl rfl (two_a _ _ _) (two_b _ _ _) Tryd.underlying25 rfl HI1.out Tryd.underlying28 rfl HI2.out) rfl ⟨fun _ => (by rw [GE.out] <;> rfl), fun h => absurd (by rw [GE.out] <;> rfl) h, ?_⟩
    exact bel_two _ _ _
  · have HG1 : Hid (g = tokF s j) := hid_of (by rw [HG.out, if_neg he])
    have hlt : j < s.size := by omega
    have d4 : ((j : Int) == (s.size : Int)) = false := by simp; omega
    have d5 : decide (j = s.size) = false := decide_eq_false he
    have IC := hid_of (qtoken_any s j ((w.alloc (.cells #[.int .i64 0, .string ⟨#[]⟩, .int .i64 0, .int .i64 0] 25)).alloc (.cells #[.int .i64 0, .int .i64 0] 28)) (by have := HS.out; omega) hlt)
    rw [← HG1.out] at IC
    clear he HG HG1 hjs hlt
    obtain ⟨kd, tx, nn, st, cd⟩ := g
    by_cases hc : cd = 0
    · have IC2 : Hid (Calls Tryd.prog 35 #[.string s, .int .i64 j] ((w.alloc (.cells #[.int .i64 0, .string ⟨#[]⟩, .int .i64 0, .int .i64 0] 25)).alloc (.cells #[.int .i64 0, .int .i64 0] 28)) fun e w1 => e = _ ∧ Below (((w.alloc (.cells #[.int .i64 0, .string ⟨#[]⟩, .int .i64 0, .int .i64 0] 25)).alloc (.cells #[.int .i64 0, .int .i64 0] 28))).heap.size ((w.alloc (.cells #[.int .i64 0, .string ⟨#[]⟩, .int .i64 0, .int .i64 0] 25)).alloc (.cells #[.int .i64 0, .int .i64 0] 28)) w1) := hid_of (IC.out.mono fun e w1 h => ⟨h.1 hc, h.2.2⟩)
      have GE := hid_of hc
      clear IC hc
      go_enter Tryd.func20, Tryd.ntmps20
      go_wp2_with (first
        | (go_at_call 34; ((with_reducible refine (SK.out _).mono ?_); (rintro e w' ⟨rfl, rfl⟩)))
        | (go_at_call 35; ((with_reducible refine (IC2.out).mono ?_); (rintro e w1 ⟨rfl, h1⟩; have B1 := hid_of h1; clear h1; obtain ⟨ra, rb, rc⟩ := ZN.out _ B1.out; have WA := hid_of ra; have WB := hid_of rb; have LB := hid_of rc; obtain ⟨c0, c1, c2, c3, f0, f1, f2, f3⟩ := row4 ra; obtain ⟨e0, e1, g0, g1⟩ := row2 rb; clear ra rb rc))))
      rw [set4 WA.out, set2 ((setRow_other _ _ _ _ (by omega)).trans WB.out)]
      obtain ⟨q1, q2, q3⟩ := nex_end (a := #[.int .i64 kd, .string tx, .int .i64 nn, .int .i64 j]) (b := #[.int .i64 0, .int .i64 0]) LB.out WA.out WB.out
      exact bodyPost_ret (res_ctc (cs := #[.int .i64 kd, .string tx, .int .i64 nn, .int .i64 j]) (cs2 := #[.int .i64 0, .int .i64 0]) rfl w.heap.size (w.heap.size + 1) rfl rfl q2 q3 Tryd.underlying25 rfl HI1.out Tryd.underlying28 rfl HI2.out) rfl ⟨fun _ => rfl, fun h => absurd GE.out h, q1⟩
    · have IC2 : Hid (Calls Tryd.prog 35 #[.string s, .int .i64 j] ((w.alloc (.cells #[.int .i64 0, .string ⟨#[]⟩, .int .i64 0, .int .i64 0] 25)).alloc (.cells #[.int .i64 0, .int .i64 0] 28)) fun e w1 => e = _ ∧ Below (((w.alloc (.cells #[.int .i64 0, .string ⟨#[]⟩, .int .i64 0, .int .i64 0] 25)).alloc (.cells #[.int .i64 0, .int .i64 0] 28))).heap.size ((w.alloc (.cells #[.int .i64 0, .string ⟨#[]⟩, .int .i64 0, .int .i64 0] 25)).alloc (.cells #[.int .i64 0, .int .i64 0] 28)) w1) := hid_of (IC.out.mono fun e w1 h => ⟨h.2.1 hc, h.2.2⟩)
      have GE := hid_of hc
      clear IC hc
      go_enter Tryd.func20, Tryd.ntmps20
      go_wp2_with (first
        | (go_at_call 34; ((with_reducible refine (SK.out _).mono ?_); (rintro e w' ⟨rfl, rfl⟩)))
        | (go_at_call 35; ((with_reducible refine (IC2.out).mono ?_); (rintro e w1 ⟨rfl, h1⟩; have B1 := hid_of h1; clear h1; obtain ⟨ra, rb, rc⟩ := ZN.out _ B1.out; have WA := hid_of ra; have WB := hid_of rb; have LB := hid_of rc; obtain ⟨c0, c1, c2, c3, f0, f1, f2, f3⟩ := row4 ra; obtain ⟨e0, e1, g0, g1⟩ := row2 rb; clear ra rb rc))))
      rw [set4 WA.out, set2 ((setRow_other _ _ _ _ (by omega)).trans WB.out)]
      obtain ⟨q1, q2, q3⟩ := nex_end (a := #[.int .i64 0, .string ⟨#[]⟩, .int .i64 0, .int .i64 0]) (b := #[.int .i64 cd, .int .i64 j]) LB.out WA.out WB.out
      exact bodyPost_ret (res_ctc (cs := #[.int .i64 0, .string ⟨#[]⟩, .int .i64 0, .int .i64 0]) (cs2 := #[.int .i64 cd, .int .i64 j]) rfl w.heap.size (w.heap.size + 1) rfl rfl q2 q3 Tryd.underlying25 rfl HI1.out Tryd.underlying28 rfl HI2.out) rfl ⟨fun h => absurd h GE.out, fun _ => rfl, q1⟩
end Go.Proofs.YtdmjlmlmdllhgaaDoor
