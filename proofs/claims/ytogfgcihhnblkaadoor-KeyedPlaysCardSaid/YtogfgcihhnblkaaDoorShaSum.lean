/- pad and Sum. Bounds on the sizes. -/
import Derived.Test.YtogfgcihhnblkaaDoorShaPut
import Derived.Laws.BytesArg
namespace Go.Proofs.YtogfgcihhnblkaaDoor
open Go.RowKit

theorem wordBytes_nat (n : Nat) : wordBytes (n : Int) = be8 n := by
  unfold wordBytes be8
  rw [show (n : Int) / 16777216 % 256 = ((n / 16777216 % 256 : Nat) : Int) by omega, show (n : Int) / 65536 % 256 = ((n / 65536 % 256 : Nat) : Int) by omega, show (n : Int) / 256 % 256 = ((n / 256 % 256 : Nat) : Int) by omega, show (n : Int) % 256 = ((n % 256 : Nat) : Int) by omega]
def T0 : List Int := 128 :: List.replicate 71 0
/-- The tail of the padding. -/
theorem tail_row (z : Nat) (hi lo : Int) (hz : z ≤ 63) : (put4 (put4 T0 (1 + z) hi) (1 + z + 4) lo).take (1 + z + 8) = 128 :: (List.replicate z 0 ++ (wordBytes hi ++ wordBytes lo)) := by
  have e1 : T0 = (128 :: List.replicate z 0) ++ List.replicate (71 - z) 0 := by
    unfold T0
    rw [List.cons_append, List.replicate_append_replicate]
    congr 2; omega
  have l1 : (128 :: List.replicate z (0 : Int)).length = 1 + z := by simp; omega
  have e2 : put4 T0 (1 + z) hi = (128 :: List.replicate z 0) ++ (wordBytes hi ++ List.replicate (67 - z) 0) := by
    unfold put4
    rw [e1, List.take_left' l1, List.drop_append, l1, List.drop_of_length_le (l := 128 :: List.replicate z 0) (by omega)]
    simp only [List.nil_append, List.drop_replicate]
    congr 3
    omega
  have l2 : ((128 :: List.replicate z (0 : Int)) ++ wordBytes hi).length = 1 + z + 4 := by rw [List.length_append, l1]; rfl
  have e3 : put4 (put4 T0 (1 + z) hi) (1 + z + 4) lo = ((128 :: List.replicate z 0) ++ wordBytes hi) ++ (wordBytes lo ++ List.replicate (63 - z) 0) := by
    rw [e2, ← List.append_assoc]
    generalize (128 :: List.replicate z 0) ++ wordBytes hi = A at *
    unfold put4
    rw [List.take_left' l2, List.drop_append, l2, List.drop_of_length_le (l := A) (by omega)]
    simp only [List.nil_append, List.drop_replicate]
    congr 3
    omega
  rw [e3, ← List.append_assoc, List.take_left' (by rw [List.length_append, l2]; rfl)]
  simp

def zero72 : Array Value := (bs (List.replicate 72 0)).toArray
theorem Tryd.zero72 : (Tryd.prog.info? 87).map (fun i => (i.zero, i.size)) = some (some (.agg zero72), 72) := by kernel_rfl

theorem zero72_0 : zero72[0]? = some (.int .u8 0) := by kernel_rfl
theorem zero72_T0 : zero72.setIfInBounds 0 (.int .u8 128) = (bs T0).toArray := by kernel_rfl
theorem padOf_rng (n : Nat) : ∀ y ∈ padOf n, 0 ≤ y ∧ y ≤ 255 := by
  intro y hy
  unfold padOf be8 at hy
  simp only [List.mem_cons, List.mem_append, List.mem_replicate, List.not_mem_nil, or_false] at hy
  omega
theorem pad_tail (n z : Nat) (hz : z = zerosOf n) (hn : n ≤ 100000000000) (x y : Int) (hx : x = ((n * 8 / 4294967296 : Nat) : Int)) (hy : y = ((n * 8 % 4294967296 : Nat) : Int)) :
    (put4 (put4 T0 (1 + z) x) (1 + z + 4) y).take (1 + z + 8) = padOf n := by
  have h63 : z ≤ 63 := by rw [hz]; unfold zerosOf; omega
  rw [tail_row z x y h63, hx, hy, wordBytes_nat, wordBytes_nat]
  unfold padOf
  rw [hz]
theorem rest_row {w : World} {b g t z3 cap : Nat} {D l : List Int} (h : Brow w g t D) (hl : D.take z3 = l) (hz : z3 = l.length) (hc : z3 ≤ cap) (hc2 : cap ≤ 1000) (hgb : g ≠ b) : Rest w b (.slice (some ⟨g, 0, none⟩) z3 cap) l := by
  subst hz
  refine ⟨_, _, rfl, hc, by omega, fun _ => ⟨g, 0, rfl, hgb, h.lt, fun j u hu => ?_⟩⟩
  have hj : j < l.length := by have := (List.getElem?_eq_some_iff.1 hu).1; simpa [bs] using this
  rw [Nat.zero_add, cell_of_row _ _ _ _ _ _ h]
  have h1 : (bs l)[j]? = (bs D)[j]? := by
    have e : l = D.take l.length := hl.symm
    rw [e, bs_take, List.getElem?_take, if_pos hj]
  rw [h1] at hu
  simpa using hu

theorem bel_new {w w2 : World} {o : Obj} (h : Kept (fun k => k = w.heap.size) (w.alloc o) w2) : Below w.heap.size w w2 :=
  ((Below.refl _ _).alloc (Nat.le_refl _) o).trans (h.below (by simp) (fun k hk => by omega))

set_option maxRecDepth 100000 in
set_option maxHeartbeats 1600000 in
theorem pad_any (b : Nat) (m : List Int) (w : World) (h : Sst w b m) (hG : Glob w) (hb : 2 ≤ b) (hn : m.length ≤ 100000000000) :
    Calls Tryd.prog 46 #[.pointer (some ⟨b, 0, none⟩)] w fun e w' => e = .returned (.tuple #[]) ∧ Sst w' b (m ++ padOf m.length) ∧ Kept (fun k => k = b) w w' := by
  obtain ⟨n, hnn⟩ : ∃ n, n = m.length := ⟨_, rfl⟩
  have HN := hid_of hnn
  have hbl := h.lt
  have cl : w.cell? ⟨b, 72, none⟩ = some (.int .i64 n) := by obtain ⟨B, hB, _⟩ := h; rw [hnn]; exact hB.length
  have hn1 : n ≤ 100000000000 := by omega
  rw [← hnn]
  obtain ⟨z, hz⟩ : ∃ z, z = zerosOf n := ⟨_, rfl⟩
  have hz63 : z ≤ 63 := by rw [hz]; unfold zerosOf; omega
  have HZ := hid_of hz
  have hzI : (119 - (n : Int) % 64) % 64 = (z : Int) := by rw [hz]; unfold zerosOf; omega
  have H := hid_of h
  have HG := hid_of hG
  clear h hG hz hnn hn
  have hz72 := (zero_of_info Tryd.zero72).1
  have hz0 := zero72_0
  have hzT := zero72_T0
  obtain ⟨z1, hz1⟩ : ∃ z1, z1 = 1 + z := ⟨_, rfl⟩
  obtain ⟨z2, hz2⟩ : ∃ z2, z2 = z1 + 4 := ⟨_, rfl⟩
  obtain ⟨z3, hz3⟩ : ∃ z3, z3 = z1 + 8 := ⟨_, rfl⟩
  have s1 : 1 + (z : Int) = (z1 : Int) := by omega
  have s2 : (z1 : Int) + 4 = (z2 : Int) := by omega
  have s3 : (z1 : Int) + 8 = (z3 : Int) := by omega
  have b1 : z1 ≤ 64 := by omega
  have b2 : z2 ≤ 68 := by omega
  have b3 : z3 ≤ 72 := by omega
  have i1 : (z1 : Int) ≤ 72 := by omega
  have i2 : (z2 : Int) ≤ 72 := by omega
  have i3 : (z3 : Int) ≤ 72 := by omega
  have n1 : ¬ (72 = z1) := by omega
  have n2 : ¬ (72 = z2) := by omega
  have HZ1 := hid_of hz1
  have HZ2 := hid_of hz2
  have HZ3 := hid_of hz3
  clear hz1 hz2 hz3
  have HT0 : Hid (T0.length = 72) := hid_of (by unfold T0; simp)
  have hl1 : (put4 T0 z1 ((n : Int) * 8 / 4294967296)).length = 72 := by rw [put4_length (by rw [HT0.out]; omega), HT0.out]
  have w1' : W32 ((n : Int) * 8 / 4294967296) := by unfold W32; omega
  have w2' : W32 ((n : Int) * 8 % 4294967296) := by unfold W32; omega
  have HP1 := hid_of (putWord_any w.heap.size 87 z1 (72 - z1) (72 - z1) T0 ((n : Int) * 8 / 4294967296) (w.alloc (.cells (bs T0).toArray 87)) (heap_alloc_new _ _) (by rw [HT0.out]; omega) (by omega) (by omega) w1')
  have HP2 := hid_of (fun W (h : Brow W w.heap.size 87 (put4 T0 z1 ((n : Int) * 8 / 4294967296))) => putWord_any w.heap.size 87 z2 (72 - z2) (72 - z2) (put4 T0 z1 ((n : Int) * 8 / 4294967296)) ((n : Int) * 8 % 4294967296) W h (by rw [hl1]; omega) (by omega) (by omega) w2')
  have HTAIL : Hid ((put4 (put4 T0 z1 ((n : Int) * 8 / 4294967296)) z2 ((n : Int) * 8 % 4294967296)).take z3 = padOf n) := hid_of (by
    rw [HZ3.out, HZ2.out, HZ1.out]
    exact pad_tail n z HZ.out hn1 _ _ (by omega) (by omega))
  have HPL : Hid (z3 = (padOf n).length) := hid_of (by rw [padOf_length, HZ3.out, HZ1.out, ← HZ.out]; omega)
  have HMN : Hid (m.length + (padOf n).length ≤ 1000000000000) := hid_of (by rw [← HPL.out, ← HN.out]; omega)
  have HBL := hid_of hbl
  clear hl1 w1' w2'
  go_enter Tryd.func46, Tryd.ntmps46
  go_wp2_with (first
    | (go_at_call 47; (first
      | ((with_reducible refine HP1.out.mono ?_); rintro e w1 ⟨rfl, hb1, hk1⟩; have HB1 := hid_of hb1; have HK1 := hid_of hk1; clear hb1 hk1)
      | ((with_reducible refine (HP2.out w1 HB1.out).mono ?_); rintro e w2 ⟨rfl, hb2, hk2⟩; have HB2 := hid_of hb2; have HK2 := hid_of (bel_new (HK1.out.trans hk2)); clear hb2 hk2)))
    | (go_at_call 38; refine (write_any b m (padOf n) _ w2 (H.out.later (HK2.out.block b HBL.out)) (rest_row HB2.out HTAIL.out HPL.out (by omega) (by omega) (by have := HBL.out; omega)) (padOf_rng n) (HG.out.bel HK2.out HG.out.two) hb HMN.out).mono ?_; rintro e w3 ⟨rfl, h3, hk3⟩; have H3 := hid_of h3; have HK3 := hid_of hk3; clear h3 hk3))
  go_end0
  exact ⟨rfl, H3.out, (Kept.ofBelow HK2.out).trans HK3.out⟩
end Go.Proofs.YtogfgcihhnblkaaDoor
