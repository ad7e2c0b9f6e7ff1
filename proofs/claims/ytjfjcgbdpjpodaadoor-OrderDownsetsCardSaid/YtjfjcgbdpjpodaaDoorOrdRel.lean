/- The relation of package order in memory: its cells, all, acyclic, what closureOf does for each element. Bounds on sizes alone. -/
import Derived.Test.YtjfjcgbdpjpodaaDoorOrdSet
import Derived.Test.YtjfjcgbdpjpodaaDoorOrdRow
namespace Go.Proofs.YtjfjcgbdpjpodaaDoor
open Go.RowKit

theorem still_of {P : Program} {f : FuncId} {args : Array Value} {w : World} {v : Value} (h : Calls P f args w fun e w' => e = .returned v ∧ w = w') : Calls P f args w fun e w'' => e = .returned v ∧ w'' = w :=
  h.mono fun _ _ ⟨a, b⟩ => ⟨a, b.symm⟩
/-- The cells of a relation. -/
def rlc (n : Nat) (A B : Nat → Nat) : List Value := .int .i64 n :: ((List.range 64).map (fun i => Value.int .u64 (A i)) ++ (List.range 64).map (fun i => Value.int .u64 (B i)))
theorem rlc_n (n : Nat) (A B : Nat → Nat) : (rlc n A B)[0]? = some (.int .i64 n) := rfl
theorem rlc_a (n : Nat) (A B : Nat → Nat) {i : Nat} (h : i < 64) : (rlc n A B)[1 + i]? = some (.int .u64 (A i)) := by
  unfold rlc
  rw [Nat.add_comm, List.getElem?_cons_succ, List.getElem?_append_left (by simpa using h)]
  simp [h]
theorem rlc_b (n : Nat) (A B : Nat → Nat) {i : Nat} (h : i < 64) : (rlc n A B)[65 + i]? = some (.int .u64 (B i)) := by
  unfold rlc
  rw [show 65 + i = (64 + i) + 1 by omega, List.getElem?_cons_succ, List.getElem?_append_right (by simp)]
  simp [h]
theorem map_upd (A : Nat → Nat) (i v : Nat) : (List.range 64).map (fun j => Value.int .u64 (upd A i v j)) = ((List.range 64).map (fun j => Value.int .u64 (A j))).set i (.int .u64 v) := by
  apply List.ext_getElem?
  intro j
  rw [List.getElem?_set]
  by_cases hj : j < 64
  · by_cases e : i = j
    · subst e; simp [hj, upd]
    · simp [hj, upd, e, Ne.symm e]
  · by_cases e : i = j
    · subst e; rw [if_pos rfl, if_neg (by simpa using hj), List.getElem?_eq_none (by simp; omega)]
    · rw [if_neg e, List.getElem?_eq_none (by simp; omega), List.getElem?_eq_none (by simp; omega)]
theorem rlc_setA (n : Nat) (A B : Nat → Nat) {i : Nat} (h : i < 64) (v : Nat) : (rlc n A B).set (1 + i) (.int .u64 v) = rlc n (upd A i v) B := by
  unfold rlc
  rw [map_upd, Nat.add_comm, List.set_cons_succ, List.set_append_left _ _ (by simpa using h)]
theorem rlc_setB (n : Nat) (A B : Nat → Nat) {i : Nat} (_h : i < 64) (v : Nat) : (rlc n A B).set (65 + i) (.int .u64 v) = rlc n A (upd B i v) := by
  unfold rlc
  rw [map_upd, show 65 + i = (64 + i) + 1 by omega, List.set_cons_succ, List.set_append_right _ _ (by simp)]
  simp

/-- The relation with the masks A (after) and B (before) in block b. -/
def RL (w : World) (b n : Nat) (A B : Nat → Nat) : Prop := w.heap[b]? = some (.cells (rlc n A B).toArray 61 (0, 0))
theorem blk_cell {w : World} {g t : Nat} {cs : List Value} (h : w.heap[g]? = some (.cells cs.toArray t (0, 0))) {j : Nat} {u : Value} (hu : cs[j]? = some u) : w.cell? ⟨g, j, none⟩ = some u := by
  have := World.news_of_block h j u hu
  rw [Addr.add_mid, Nat.zero_add] at this
  exact this
theorem blk_free {w : World} {g t : Nat} {cs : List Value} (h : w.heap[g]? = some (.cells cs.toArray t (0, 0))) (j : Nat) : w.frozen? ⟨g, j, none⟩ = false := by
  simp [World.frozen?, h]
section
variable {w w' : World} {b n : Nat} {A B : Nat → Nat}
theorem RL.cn (h : RL w b n A B) : w.cell? ⟨b, 0, none⟩ = some (.int .i64 n) := blk_cell h (rlc_n _ _ _)
theorem RL.ca (h : RL w b n A B) {i : Nat} (hi : i < 64) : w.cell? ⟨b, 1 + i, none⟩ = some (.int .u64 (A i)) := blk_cell h (rlc_a _ _ _ hi)
theorem RL.cb (h : RL w b n A B) {i : Nat} (hi : i < 64) : w.cell? ⟨b, 65 + i, none⟩ = some (.int .u64 (B i)) := blk_cell h (rlc_b _ _ _ hi)
theorem RL.free (h : RL w b n A B) (j : Nat) : w.frozen? ⟨b, j, none⟩ = false := blk_free h j
theorem RL.lt (h : RL w b n A B) : b < w.heap.size := lt_of_block h
theorem RL.kept {S : Nat → Prop} (h : RL w b n A B) (hk : Kept S w w') (hs : ¬ S b) : RL w' b n A B := (hk.block b h.lt hs).trans h
theorem RL.at (h : RL w b n A B) (hb : Below w.heap.size w w') : RL w' b n A B := (hb.block b h.lt).trans h
theorem RL.drew (h : RL w b n A B) : RL w.drew b n A B := h
theorem RL.setA (h : RL w b n A B) {i : Nat} (hi : i < 64) (v : Nat) : RL (w.setCell ⟨b, 1 + i, none⟩ (.int .u64 v)) b n (upd A i v) B := by
  have := blk_setCell (k := 1 + i) (u := .int .u64 v) h
  rw [rlc_setA _ _ _ hi] at this
  exact this
theorem RL.setB (h : RL w b n A B) {i : Nat} (hi : i < 64) (v : Nat) : RL (w.setCell ⟨b, 65 + i, none⟩ (.int .u64 v)) b n A (upd B i v) := by
  have := blk_setCell (k := 65 + i) (u := .int .u64 v) h
  rw [rlc_setB _ _ _ hi] at this
  exact this
end

theorem all_val (n : Nat) : IntKind.u64.wrap ((sg n : Int) - 1) = ((allS n : Nat) : Int) := by
  rw [IntKind.wrap_u64]
  unfold allS
  have := sg_lt n
  show ((sg n : Int) - 1) % 18446744073709551616 = (((sg n + (18446744073709551616 - 1)) % 18446744073709551616 : Nat) : Int)
  omega

set_option maxRecDepth 100000 in
theorem all_any (b n : Nat) (A B : Nat → Nat) (w : World) (h : RL w b n A B) (hn : n ≤ 64) : Calls Tryd.prog 47 #[.pointer (some ⟨b, 0, none⟩)] w fun x w' => x = .returned (.int .u64 (allS n : Nat)) ∧ w = w' := by
  have c0 := h.cn
  have HN := hid_of hn
  have e1 := all_val n
  clear h hn
  go_enter Tryd.func47, Tryd.ntmps47
  go_wp2_with (go_at_call 45; ((with_reducible refine (single_any n HN.out w).mono ?_); (rintro ee w' ⟨rfl, rfl⟩)))
  go_ret
  exact ⟨rfl, rfl⟩

theorem acyc_step {n k : Nat} {A : Nat → Nat} (_h : (List.range k).all (fun a => !(A a).testBit a) = true) (hk : k < n) : (A k).testBit k = true → acyc n A = false := by
  intro hb
  rw [Bool.eq_false_iff]
  intro hc
  unfold acyc at hc
  rw [List.all_eq_true] at hc
  have := hc k (by simpa using hk)
  rw [hb] at this
  simp at this

set_option maxRecDepth 100000 in
set_option maxHeartbeats 800000 in
theorem acyclic_any (b n : Nat) (A B : Nat → Nat) (w : World) (h : RL w b n A B) (hn : n ≤ 64) (hA : Bd n A) : Calls Tryd.prog 40 #[.pointer (some ⟨b, 0, none⟩)] w fun x w' => x = .returned (.bool (acyc n A)) ∧ w = w' := by
  have c0 := h.cn
  have H := hid_of h
  have HA := hid_of hA
  have HN := hid_of hn
  obtain ⟨R, hR⟩ : ∃ R, R = acyc n A := ⟨_, rfl⟩
  rw [← hR]
  have HR := hid_of hR
  clear h hA hR
  go_enter Tryd.func40, Tryd.ntmps40
  go_wp2
  go_loop [3, 8] (fun _ iv => ∃ k : Nat, iv = .int .i64 k ∧ k ≤ n ∧ Hid ((List.range k).all (fun a => !(A a).testBit a) = true)) (fun _ iv => n - (intOf iv).toNat)
  case atStart => exact ⟨0, rfl, Nat.zero_le _, hid_of rfl⟩
  case round =>
    obtain ⟨k, rfl, hk, hall⟩ := hrel
    by_cases hlt : k < n
    · have hd : decide (k < n) = true := by simp; omega
      have c1 := H.out.ca (i := k) (by omega)
      have b1 : (k : Int) < 64 := by omega
      have b0 : (0 : Int) ≤ (k : Int) := by omega
      obtain ⟨q, hq⟩ : ∃ q, q = A k := ⟨_, rfl⟩
      have HAL : Hid (q < M64) := hid_of (by rw [hq]; exact HA.out.m64 HN.out k)
      rw [← hq] at c1
      have HK : Hid (k < 64) := hid_of (by omega)
      obtain ⟨t, ht⟩ : ∃ t, t = q.testBit k := ⟨_, rfl⟩
      have HAS : Hid (Calls Tryd.prog 67 #[.int .u64 q, .int .i64 k] w fun x w' => x = .returned (.bool t) ∧ w = w') := hid_of (by rw [ht]; exact has_any q k HAL.out HK.out w)
      have HT : Hid (t = (A k).testBit k) := hid_of (by rw [ht, hq])
      clear hq ht
      cases t
      · go_wp2_with (go_at_call 67; ((with_reducible refine (HAS.out).mono ?_); (rintro ee w' ⟨rfl, rfl⟩)))
        go_round
        case rel => exact ⟨k + 1, by go_num, by omega, hid_of (by rw [List.range_succ, List.all_append, hall.out]; simp [← HT.out])⟩
        case measure => simp [intOf]; omega
      · go_wp2_with (go_at_call 67; ((with_reducible refine (HAS.out).mono ?_); (rintro ee w' ⟨rfl, rfl⟩)))
        go_ret
        exact ⟨by rw [HR.out, acyc_step hall.out hlt HT.out.symm]; rfl, rfl⟩
    · have hd : decide (k < n) = false := by simp; omega
      have HE : Hid (R = true) := hid_of (by rw [HR.out]; have := hall.out; rw [show k = n by omega] at this; exact this)
      go_wp2
      go_ret
      exact ⟨by rw [HE.out]; rfl, rfl⟩

set_option maxRecDepth 100000 in
set_option maxHeartbeats 800000 in
/-- closureOf's visit of one element b that comes after a. -/
theorem clo1_any (b n : Nat) (A B : Nat → Nat) (rb ab a x : Nat) (w : World) (h : RL w b n A B) (hr : w.cell? ⟨rb, 0, none⟩ = some (.pointer (some ⟨b, 0, none⟩))) (ha : w.cell? ⟨ab, 0, none⟩ = some (.int .i64 a)) (ha9 : a < 64) (hx : x < 64) (hB : B x < M64) :
    Calls Tryd.prog 68 #[.int .i64 x, .pointer (some ⟨rb, 0, none⟩), .pointer (some ⟨ab, 0, none⟩)] w fun e w' => e = .returned (.tuple #[]) ∧ RL w' b n A (upd B x (B x ||| sg a)) ∧ Kept (fun k => k = b) w w' := by
  have c1 := h.cb hx
  have f1 := h.free (65 + x)
  have H := hid_of h
  have b1 : (x : Int) < 64 := by omega
  have b0 : (0 : Int) ≤ (x : Int) := by omega
  obtain ⟨q, hq⟩ : ∃ q, q = B x := ⟨_, rfl⟩
  rw [← hq] at c1 hB
  have e1 := u64_or_nat q (sg a) hB (sg_lt a)
  have HA : Hid (a ≤ 64) := hid_of (by omega)
  have HX := hid_of hx
  have HQ := hid_of hq
  have d1 : w.drew.cell? ⟨b, 65 + x, none⟩ = some (.int .u64 q) := c1
  have d2 : w.drew.frozen? ⟨b, 65 + x, none⟩ = false := f1
  clear h hq hB ha9 hx
  go_enter Tryd.func68, Tryd.ntmps68
  go_wp2
  refine wp_region_still_tail 12 (by kernel_rfl) (by kernel_rfl) ?_
  simp only [List.take_succ_cons, List.take_zero, List.drop_succ_cons, List.drop_zero]
  repeat still_step
  refine wpStill_step (fun K hK => ?_)
  go_simp
  refine ⟨_, still_of (single_any a HA.out _), hK _ ?_⟩
  clear hK K
  repeat still_step
  refine wpStill_nil ?_
  change wpList _ _ _ _ _ w.drew
  go_wp2
  first | go_ret | go_end0
  exact ⟨rfl, by have := H.out.drew.setB HX.out (q ||| sg a); rw [HQ.out] at this ⊢; exact this, (Kept.refl _ w).drew.trans (Kept.set _ _ _ _)⟩
end Go.Proofs.YtjfjcgbdpjpodaaDoor
