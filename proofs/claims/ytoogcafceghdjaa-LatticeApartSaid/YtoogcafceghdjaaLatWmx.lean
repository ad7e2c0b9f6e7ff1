/- write and Encode of package lattice, of a description of the kind Max. Bounds on sizes alone. -/
import Derived.Test.YtoogcafceghdjaaLatFie
import Derived.Test.YtoogcafceghdjaaWireRdC
namespace Go.Proofs.Ytoogcafceghdjaa
open Go.RowKit

def WS2 (b : Nat) (v : Value) (q : Nat) : Prop := q = b ∨ v.ownBlock = some q
set_option maxRecDepth 100000 in
set_option maxHeartbeats 3200000 in
theorem wmax_any (lo hi : Int) (b B : Nat) (v : Value) (l : List Int) (w : World) (rlo : R64 lo) (rhi : R64 hi) (h : Wr.Wst B b w v l) (hl : l.length ≤ 60000000000000) (hB : B ≤ w.heap.size) :
    Calls Try.prog 21 #[.pointer (some ⟨b, 0, none⟩), .agg #[.int .i64 2, .int .i64 lo, .int .i64 hi, .slice none 0 0, .slice none 0 0, .slice none 0 0]] w fun e w' => e = .returned (.tuple #[]) ∧ ∃ v', Wr.Wst B b w' v' (l ++ Wr.enc 2 ++ Wr.enc (Wr.zig lo) ++ Wr.enc (Wr.zig hi)) ∧ Wr.Kept (fun k => k = b ∨ v.ownBlock = some k) w w' := by
  have HW : Hid (Wr.Wst B b (w.alloc (.cells #[.int .i64 2, .int .i64 lo, .int .i64 hi, .slice none 0 0, .slice none 0 0, .slice none 0 0] 26)) v l) := hid_of (h.alloc _)
  have hb := lt_of_block h.blk
  have hbx : ∀ w', Wr.Kept (fun k => k = b ∨ v.ownBlock = some k) (w.alloc (.cells #[.int .i64 2, .int .i64 lo, .int .i64 hi, .slice none 0 0, .slice none 0 0, .slice none 0 0] 26)) w' → w'.cell? ⟨w.heap.size, 0, none⟩ = some (.int .i64 2) ∧ w'.cell? ⟨w.heap.size, 1, none⟩ = some (.int .i64 lo) ∧ w'.cell? ⟨w.heap.size, 2, none⟩ = some (.int .i64 hi) := fun w' hk => by
    have e := (hk.block w.heap.size (by simp) (fun hs => by
      rcases hs with hs | hs
      · omega
      · have := (h.own.lt _ hs).2; omega)).trans (heap_alloc_new w (.cells [.int .i64 2, .int .i64 lo, .int .i64 hi, .slice none 0 0, .slice none 0 0, .slice none 0 0].toArray 26 (0, 0)))
    exact ⟨cell_blk e rfl, cell_blk e rfl, cell_blk e rfl⟩
  have HBX := hid_of hbx
  have HB := hid_of hB
  have HL := hid_of hl
  have l1 : Hid ((Wr.enc 2).length ≤ 10) := hid_of (Wr.enc_length_10 2 (by omega))
  have l2 : Hid ((Wr.enc (Wr.zig lo)).length ≤ 10) := hid_of (Wr.enc_length_10 _ (Wr.zig_lt lo rlo.1 rlo.2))
  have C0 := hid_of (show Calls Try.prog 45 #[.pointer (some ⟨b, 0, none⟩), .int .u64 2] _ _ from Wr.uint_any 2 b B v l (w.alloc (.cells #[.int .i64 2, .int .i64 lo, .int .i64 hi, .slice none 0 0, .slice none 0 0, .slice none 0 0] 26)) (by omega) HW.out (by omega) (by simp; omega))
  clear hbx hb h hl hB
  go_enter Try.func21, Try.ntmps21
  go_wp2_with (first
    | (go_at_call 45; ((with_reducible refine (C0.out).mono ?_); (rintro e w1 ⟨rfl, v1, h1, k1, o1⟩); have W1 := hid_of h1; have K1 := hid_of k1; have O1 := hid_of o1; have C1 := hid_of (Wr.int_any lo b B v1 _ w1 rlo.1 rlo.2 h1 (by rw [List.length_append]; have := HL.out; have := l1.out; omega) (Nat.le_trans HB.out (Nat.le_trans (by simp) k1.size))); obtain ⟨p0, p1, p2⟩ := HBX.out w1 k1; clear h1 k1 o1))
    | (go_at_call 46; ((with_reducible refine (C1.out).mono ?_)); rintro e w2 ⟨rfl, v2, h1, k1, o1⟩; have W2 := hid_of h1; have K2 := hid_of (Wr.kept_two K1.out k1 O1.out); have O2 := hid_of (Wr.own_two K1.out.size O1.out o1); have C2 := hid_of (Wr.int_any hi b B v2 _ w2 rhi.1 rhi.2 h1 (by rw [List.length_append, List.length_append]; have := HL.out; have := l1.out; have := l2.out; omega) (Nat.le_trans HB.out (Nat.le_trans (by simp) K2.out.size))); obtain ⟨q0, q1, q2⟩ := HBX.out w2 K2.out; clear h1 k1 o1 p0 p1 p2)
    | (go_at_call 46; ((with_reducible refine (C2.out).mono ?_)); rintro e w3 ⟨rfl, v3, h1, k1, o1⟩; have W3 := hid_of h1; have K3 := hid_of (Wr.kept_two K2.out k1 O2.out); clear h1 k1 o1 q0 q1 q2))
  go_end0
  exact ⟨rfl, v3, W3.out, K3.out.of_alloc⟩
set_option maxRecDepth 100000 in
set_option maxHeartbeats 3200000 in
theorem encmax_any (lo hi : Int) (t : Lat) (ht : t = ⟨2, lo, hi, [], [], []⟩) (hok : chkL t = 0) (w : World) (rlo : R64 lo) (rhi : R64 hi) (M : List Int) (hM : M = Wr.enc 2 ++ Wr.enc (Wr.zig lo) ++ Wr.enc (Wr.zig hi)) :
    Calls Try.prog 8 #[.agg #[.int .i64 2, .int .i64 lo, .int .i64 hi, .slice none 0 0, .slice none 0 0, .slice none 0 0]] w fun e w' => ∃ g, e = .returned (.slice (some ⟨g, 0, none⟩) M.length M.length) ∧ w'.heap[g]? = some (.cells (Wr.bs M).toArray 5 (0, 0)) ∧ Below w.heap.size w w' ∧ w.heap.size ≤ g := by
  have HO : ∀ w, LO w 2 lo hi none 0 0 none 0 0 none 0 0 t := fun w => by
    subst ht
    exact ⟨rfl, rfl, rfl, ⟨by omega, by omega⟩, rlo, rhi, ⟨none, 0, rfl, Nat.le_refl _, by omega, fun h => by simp [ss, Lat.ns] at h⟩, by intro y hy; simp [Lat.ns] at hy, rfl, lds_nil w, rfl, rur_nil w, by intro y hy; simp [Lat.rs] at hy, rfl⟩
  have HBW := hid_of (bel_alloc w (.cells #[.int .i64 2, .int .i64 lo, .int .i64 hi, .slice none 0 0, .slice none 0 0, .slice none 0 0] 26))
  have CH := hid_of (check_any t 2 lo hi none 0 0 none 0 0 none 0 0 (w.alloc (.cells #[.int .i64 2, .int .i64 lo, .int .i64 hi, .slice none 0 0, .slice none 0 0, .slice none 0 0] 26)) (HO _))
  rw [hok] at CH
  have HC : Hid (∀ w', Below (w.alloc (.cells #[.int .i64 2, .int .i64 lo, .int .i64 hi, .slice none 0 0, .slice none 0 0, .slice none 0 0] 26)).heap.size (w.alloc (.cells #[.int .i64 2, .int .i64 lo, .int .i64 hi, .slice none 0 0, .slice none 0 0, .slice none 0 0] 26)) w' → _) := hid_of (fun w' h => box6 2 lo hi none 0 0 none 0 0 none 0 0 h)
  have l1 := Wr.enc_length_10 2 (by omega)
  have l2 := Wr.enc_length_10 _ (Wr.zig_lt lo rlo.1 rlo.2)
  have l3 := Wr.enc_length_10 _ (Wr.zig_lt hi rhi.1 rhi.2)
  have hML : M.length ≤ 30 := by rw [hM, List.length_append, List.length_append]; omega
  have HML := hid_of hML
  have WM : Hid (∀ w2 : World, Calls Try.prog 21 #[.pointer (some ⟨w2.heap.size, 0, none⟩), .agg #[.int .i64 2, .int .i64 lo, .int .i64 hi, .slice none 0 0, .slice none 0 0, .slice none 0 0]] (w2.alloc (.cells #[.slice none 0 0] 44)) fun e w' => e = .returned (.tuple #[]) ∧ ∃ v', Wr.Wst w2.heap.size w2.heap.size w' v' M ∧ Below w2.heap.size w2 w') := hid_of (fun w2 => by
    have hw : Wr.Wst w2.heap.size w2.heap.size (w2.alloc (.cells #[.slice none 0 0] 44)) (.slice none 0 0) [] := ⟨heap_alloc_new _ _, World.ownsRow_nil _ _ _ _⟩
    refine (wmax_any lo hi w2.heap.size w2.heap.size (.slice none 0 0) [] (w2.alloc (.cells #[.slice none 0 0] 44)) rlo rhi hw (by simp) (by simp)).mono ?_
    rintro e w' ⟨rfl, v', h1, h2⟩
    refine ⟨rfl, v', by rw [hM]; exact h1, (bel_alloc w2 (.cells #[.slice none 0 0] 44)).trans ?_⟩
    refine h2.below (by simp) (fun k hk => ?_)
    rcases hk with hk | hk
    · omega
    · cases hk)
  clear hM HO l1 l2 l3 hML
  go_enter Try.func8, Try.ntmps8
  go_wp2_with (first
    | (go_at_call 13; ((with_reducible refine (CH.out).mono ?_); (rintro e w2 ⟨rfl, h2⟩); (have H2 := hid_of h2); (obtain ⟨p0, p1, p2, p3, p4, p5⟩ := HC.out (w2.alloc (.cells #[.slice none 0 0] 44)) (h2.alloc h2.size _)); clear h2))
    | (go_at_call 21; ((with_reducible refine (WM.out w2).mono ?_); (rintro e w3 ⟨rfl, v3, h3, h4⟩); (have W3 := hid_of h3); (have H4 := hid_of h4); (have DT := hid_of (Wr.data_any w2.heap.size w2.heap.size v3 M w3 h3 (by have := HML.out; omega))); clear h3 h4))
    | (go_at_call 22; ((with_reducible refine (DT.out).mono ?_); (rintro e w4 ⟨rfl, h3, h4⟩); (have R4 := hid_of h3); (have H5 := hid_of h4); clear h3 h4)))
  go_ret
  have hx2 : Below w.heap.size w w2 := HBW.out.trans (H2.out.mono HBW.out.size)
  have hx3 : Below w.heap.size w w3 := hx2.trans (H4.out.mono hx2.size)
  exact ⟨_, rfl, R4.out, hx3.trans (H5.out.mono hx3.size), hx3.size⟩
end Go.Proofs.Ytoogcafceghdjaa
