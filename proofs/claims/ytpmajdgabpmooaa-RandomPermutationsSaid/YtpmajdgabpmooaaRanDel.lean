/- slices.Delete, factorial, UnrankPermutation. Bounds on sizes alone. -/
import Derived.Ground.Names2Prog
import Derived.Shelf.Slices.Delete
import Derived.Shelf.Slices.Cells
import Derived.Test.YtpmajdgabpmooaaRanLess
import Derived.Test.YtpmajdgabpmooaaRanShufLaw
namespace Go.Proofs.Ytpmajdgabpmooaa
open Go.RowKit

def laysDel_ren : Go.Shelf.Ren := ⟨fun | 23 => 45 | n => n, fun | 22 => 34 | 3 => 3 | 4 => 4 | 0 => 0 | n => n, fun | n => n⟩
theorem laysDel : Go.Proofs.Lays2.n23 Try.prog laysDel_ren := {
  mixed := by kernel_rfl
  f23 := Try.func45.trans (congrArg some (by kernel_rfl))
  t0 := Try.underlying0
  a0 := Try.isAgg0
  z0 := Try.sizeOf0
  v0 := Try.zeroValue0
  t3 := Try.underlying3
  a3 := Try.isAgg3
  z3 := Try.sizeOf3
  v3 := Try.zeroValue3
  t4 := Try.underlying4
  a4 := Try.isAgg4
  z4 := Try.sizeOf4
  v4 := Try.zeroValue4
  t22 := Try.underlying34
  a22 := Try.isAgg34
  z22 := Try.sizeOf34
  v22 := Try.zeroValue34
  i3 := by kernel_rfl }

theorem blk_setCells {g t : Nat} : ∀ (vs : List Value) (o : Nat) (cur : List Value) (w : World), w.heap[g]? = some (.cells cur.toArray t (0, 0)) → o + vs.length ≤ cur.length →
    (w.setCells g o vs).heap[g]? = some (.cells (cur.take o ++ vs ++ cur.drop (o + vs.length)).toArray t (0, 0)) := by
  intro vs; induction vs with
  | nil => intro o cur w h ho; rw [World.setCells, List.append_nil, List.length_nil, Nat.add_zero, List.take_append_drop]; exact h
  | cons v r ih =>
    intro o cur w h ho
    rw [World.setCells, ih (o + 1) (cur.set o v) _ (blk_setCell h) (by rw [List.length_set]; simp at ho; omega)]
    have hol : o < cur.length := by simp at ho; omega
    congr 3
    rw [List.take_add_one, List.take_set_of_le (Nat.le_refl _), List.getElem?_set_self hol, List.drop_set_of_lt (by omega), List.length_cons]
    simp [Nat.add_assoc, Nat.add_comm 1]
theorem tape_setCells (g : Nat) : ∀ (vs : List Value) (o : Nat) (w : World), (w.setCells g o vs).tape = w.tape ∧ (w.setCells g o vs).heap.size = w.heap.size := by
  intro vs; induction vs with
  | nil => intro _ _; exact ⟨rfl, rfl⟩
  | cons v r ih => intro o w; rw [World.setCells, (ih _ _).1, (ih _ _).2]; exact ⟨rfl, by simp⟩
theorem kept_setCells (w : World) (g o : Nat) (vs : List Value) : Kept (fun k => k = g) w (w.setCells g o vs) := by
  refine ⟨?_, (tape_setCells g vs o w).1, ?_, by rw [(tape_setCells g vs o w).2]; exact Nat.le_refl _, fun k hk hn => ?_⟩
  · exact (World.keptBut_setCells g (may := fun _ => True) vs o w (fun _ _ => trivial)).1
  · exact (World.keptBut_setCells g (may := fun _ => True) vs o w (fun _ _ => trivial)).2.1
  · exact (World.keptBut_setCells g (may := fun p => p.block = g) vs o w (fun _ _ => rfl)).block hk (fun _ hp e => hn (e.symm.trans hp))

theorem delete_any (g c at_ : Nat) (l : List Nat) (tail : List Int) (z : Int) (w : World) (h : Blk w g (nI l ++ tail)) (hc : l.length + tail.length = c) (hat : at_ < l.length) (hcm : c ≤ 1000000) (hz : z = ((at_ + 1 : Nat) : Int)) :
    Calls Try.prog 45 #[.slice (some ⟨g, 0, none⟩) l.length c, .int .i64 at_, .int .i64 z] w fun e w' => e = .returned (.slice (some ⟨g, 0, none⟩) (l.length - 1) c) ∧ Blk w' g (nI (l.eraseIdx at_) ++ 0 :: tail) ∧ Kept (fun k => k = g) w w' := by
  subst hz
  have hlen : (nI l ++ tail).length = c := by rw [List.length_append, nI_length]; exact hc
  have key := Any.slices_Delete_int_cells laysDel g 0 l.length c at_ (at_ + 1) (nI l ++ tail) w (by rw [hlen]; omega) (by omega) (by omega) (by omega) (by omega) (fun j hj => by rw [Nat.zero_add]; exact h.cell hj) (fun j _ => by rw [Nat.zero_add]; exact h.free)
  refine key.mono fun e w' ⟨he, q, hw⟩ => ⟨by rw [he]; congr 2; omega, ?_, ?_⟩
  · have e1 : (nI l ++ tail).take l.length = nI l := by rw [← nI_length l]; exact List.take_left
    rw [e1, show at_ + 1 - at_ = 1 by omega] at hw
    have e2 : (nI l).take at_ ++ (nI l).drop (at_ + 1) = nI (l.eraseIdx at_) := by
      unfold nI; rw [← List.map_take, ← List.map_drop, ← List.map_append, List.eraseIdx_eq_take_drop_succ]
    rw [e2] at hw
    have hb : (w.drewN q).heap[g]? = some (.cells (is (nI l ++ tail)).toArray 3 (0, 0)) := h
    have h2 := blk_setCells ((nI (l.eraseIdx at_) ++ List.replicate 1 0).map (Value.int .i64)) 0 _ _ hb (by simp [is, nI, List.length_eraseIdx, hat]; omega)
    unfold Blk
    rw [hw, h2]
    congr 3
    have e3 : (nI (l.eraseIdx at_)).length + 1 = l.length := by rw [nI_length, List.length_eraseIdx, if_pos hat]; omega
    simp only [List.take_zero, List.nil_append, List.length_map, List.length_append, List.length_replicate, Nat.zero_add]
    rw [e3]
    have e4 : (is (nI l ++ tail)).drop l.length = is tail := by
      rw [is_append]; rw [show l.length = (is (nI l)).length by rw [is_length, nI_length]]; exact List.drop_left
    rw [e4]
    simp [is]
  · rw [hw]
    have k := kept_setCells (w.drewN q) g 0 (((nI l ++ tail).take l.length |>.take at_) ++ ((nI l ++ tail).take l.length |>.drop (at_ + 1)) ++ List.replicate (at_ + 1 - at_) 0 |>.map (Value.int .i64))
    exact ⟨k.os, k.tape, k.output, k.size, k.block⟩

theorem fac_step (n i : Nat) (h : i < n) (hn : n ≤ 20) : IntKind.u64.wrap (((fac i : Nat) : Int) * ((i : Int) + 1)) = ((fac (i + 1) : Nat) : Int) := by
  have h1 := fac20 (show i + 1 ≤ 20 by omega)
  rw [show ((fac i : Nat) : Int) * ((i : Int) + 1) = ((fac (i + 1) : Nat) : Int) by rw [fac, Int.natCast_mul, Int.mul_comm]; rfl]
  exact wrapu (by omega)
theorem fac_any (n : Nat) (z : Int) (w : World) (hz : z = n) (hn : n ≤ 20) :
    Calls Try.prog 44 #[.int .i64 z] w fun e w' => e = .returned (.int .u64 ((fac n : Nat) : Int)) ∧ w = w' := by
  subst hz
  go_enter Try.func44, Try.ntmps44
  go_wp2
  go_loop [3, 6] (fun cv iv => ∃ i : Nat, i ≤ n ∧ iv = .int .i64 i ∧ cv = .int .u64 ((fac i : Nat) : Int)) (fun _ iv => n - (intOf iv).toNat)
  case atStart => exact ⟨0, Nat.zero_le _, rfl, rfl⟩
  case round =>
    obtain ⟨i, hi, rfl, rfl⟩ := hrel
    by_cases hlt : i < n
    · have hd : decide (i < n) = true := by simp; omega
      have hst := hid_of (fac_step n i hlt hn)
      obtain ⟨c, hc⟩ : ∃ c, c = fac i := ⟨_, rfl⟩
      rw [← hc] at hst ⊢
      have hw1 : IntKind.u64.wrap ((i : Int) + 1) = (i : Int) + 1 := IntWalk.u64_in _ (by omega)
      clear hc
      go_wp2
      go_round
      case rel => exact ⟨i + 1, by omega, by go_num, by rw [← hst.out]⟩
      case measure => simp [intOf]; omega
    · obtain rfl : i = n := by omega
      have hd : decide (i < i) = false := by simp
      go_wp2
      go_ret
      exact ⟨rfl, rfl⟩
theorem rfac_any (n : Nat) (z : Int) (w : World) (hz : z = n) (hn : n ≤ 20) :
    Calls Try.prog 32 #[.int .i64 z] w fun e w' => e = .returned (.int .u64 ((fac n : Nat) : Int)) ∧ w = w' := by
  subst hz
  go_enter Try.func32, Try.ntmps32
  go_wp2
  go_loop [3, 4] (fun cv iv => ∃ i : Nat, 1 ≤ i ∧ (i ≤ n ∨ i = 1) ∧ iv = .int .i64 ((i : Int) + 1) ∧ cv = .int .u64 ((fac i : Nat) : Int)) (fun _ iv => n + 1 - (intOf iv).toNat)
  case atStart => exact ⟨1, by omega, .inr rfl, rfl, rfl⟩
  case round =>
    obtain ⟨i, hi1, hi, rfl, rfl⟩ := hrel
    have hi20 : i ≤ 20 := by omega
    by_cases hlt : i < n
    · have hd : decide ((i : Int) + 1 ≤ (n : Int)) = true := by simp; omega
      have hst := hid_of (fac_step n i hlt hn)
      obtain ⟨c, hc⟩ : ∃ c, c = fac i := ⟨_, rfl⟩
      rw [← hc] at hst ⊢
      have hw1 : IntKind.u64.wrap ((i : Int) + 1) = (i : Int) + 1 := IntWalk.u64_in _ (by omega)
      clear hc hi
      go_wp2
      go_round
      case rel => exact ⟨i + 1, by omega, .inl (by omega), by go_num, by rw [← hst.out]⟩
      case measure => simp [intOf]; omega
    · have hd : decide ((i : Int) + 1 ≤ (n : Int)) = false := by simp; omega
      have HF : Hid (fac i = fac n) := hid_of (by
        rcases hi with h | h
        · rw [show i = n by omega]
        · subst h
          have : n = 0 ∨ n = 1 := by omega
          rcases this with h | h <;> subst h <;> rfl)
      clear hi
      go_wp2
      go_ret
      exact ⟨ret_int (by rw [HF.out]), rfl⟩
end Go.Proofs.Ytpmajdgabpmooaa
