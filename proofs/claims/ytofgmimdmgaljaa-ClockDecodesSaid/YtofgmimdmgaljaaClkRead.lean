/- The reference's read. Bounds on sizes. -/
import Derived.Test.YtofgmimdmgaljaaClkRdM
import Derived.Test.YtofgmimdmgaljaaClkRef2
namespace Go.Proofs.Ytofgmimdmgaljaa
open Go.RowKit

def rdRes (a : Nat) : Option (Nat × Nat) → Value
  | some (n, k) => .tuple #[.int .u64 n, .int .i64 ((a + k : Nat) : Int)]
  | none => .tuple #[.int .u64 0, .int .i64 (-1)]
theorem BR.byte {w : World} {ao : Option Addr} {n c : Nat} {l : List Int} (h : BR w (.slice ao n c) l) (h0 : 0 < n) : ∃ g o, ao = some ⟨g, o, none⟩ ∧ g < w.heap.size ∧ ∀ j y, l[j]? = some y → w.cell? ⟨g, o + j, none⟩ = some (.int .u8 y) := by
  obtain ⟨h1, _, _⟩ := h.len
  obtain ⟨x, y, q, _, _, q3⟩ := h
  simp only [Value.slice.injEq] at q
  obtain ⟨rfl, _, _⟩ := q
  obtain ⟨g, o, r1, r2, r3⟩ := q3 (by omega)
  exact ⟨g, o, r1, r2, fun j y hy => r3 j _ (by simp [Wr.bs, hy])⟩

theorem pow27 (i : Nat) : (2 : Int) ^ (7 * i) = ((128 ^ i : Nat) : Int) := by
  rw [Int.pow_mul]
  push_cast
  rfl
theorem grp_val (acc z i : Nat) (hi : i < 8) (ha : acc < 128 ^ i) : IntKind.u64.wrap ((acc : Int) + IntKind.u64.wrap ((z : Int) % 128 * 2 ^ (7 * i))) = ((acc + z % 128 * 128 ^ i : Nat) : Int) ∧ acc + z % 128 * 128 ^ i < 128 ^ (i + 1) := by
  have h1 := Wr.pow_le9 i (by omega)
  have h2 : z % 128 * 128 ^ i + 128 ^ i ≤ 128 ^ (i + 1) := by
    rw [Nat.pow_succ, ← Nat.succ_mul, Nat.mul_comm (128 ^ i)]
    exact Nat.mul_le_mul_right _ (by omega)
  refine ⟨?_, by omega⟩
  rw [pow27]
  have e : (z : Int) % 128 * ((128 ^ i : Nat) : Int) = ((z % 128 * 128 ^ i : Nat) : Int) := by push_cast; rfl
  rw [e, IntKind.wrap_u64, IntKind.wrap_u64]
  omega
theorem rd_step {d : List Int} {i acc j z : Nat} (hi : i < 8) (hz : d[j]? = some (z : Int)) : Wr.decAt (8 - i) i acc (d.drop j) = if 128 ≤ (z : Int) then Wr.decAt (8 - (i + 1)) (i + 1) (acc + ((z : Int) - 128).toNat * 128 ^ i) (d.drop (j + 1)) else if Wr.mayEnd i z then some (acc + (z : Int).toNat * 128 ^ i, i + 1) else none := by
  obtain ⟨hj, e⟩ := List.getElem?_eq_some_iff.1 hz
  rw [List.drop_eq_getElem_cons hj, e, show 8 - i = (8 - (i + 1)) + 1 by omega]
  rfl
theorem ret_rd {n m : Int} {k j : Int} (h1 : n = m) (h2 : k = j) : Ending.returned (.tuple #[.int .u64 n, .int .i64 k]) = Ending.returned (.tuple #[.int .u64 m, .int .i64 j]) := by rw [h1, h2]

set_option maxRecDepth 100000 in
set_option maxHeartbeats 1600000 in
theorem rread_any (ao : Option Addr) (n cap : Nat) (d : List Int) (a : Nat) (w : World) (h : BR w (.slice ao n cap) d) (hr : ∀ y ∈ d, 0 ≤ y ∧ y ≤ 255) (hn : n ≤ 1000000) (ha : a ≤ n) :
    Calls Try.prog 46 #[.slice ao n cap, .int .i64 a] w fun e w' => e = .returned (rdRes a (rd8 (d.drop a))) ∧ Below w.heap.size w w' := by
  obtain ⟨R, hR⟩ : ∃ R, R = rd8 (d.drop a) := ⟨_, rfl⟩
  rw [← hR]
  have HR := hid_of hR
  have HD := hid_of h
  have HRR := hid_of hr
  have HN : Hid (d.length = n) := hid_of h.len.1
  clear h hr hR
  go_enter Try.func46, Try.ntmps46
  go_wp2
  go_loopw [6, 7] (fun nv iv wr => ∃ (i acc : Nat), i ≤ 8 ∧ iv = .int .i64 i ∧ nv = .int .u64 acc ∧ a + i ≤ n ∧ Hid (acc < 128 ^ i ∧ R = Wr.decAt (8 - i) i acc (d.drop (a + i))) ∧ Hid (Below w.heap.size w wr)) (fun _ iv _ => 8 - (intOf iv).toNat)
  case atStart => exact ⟨0, 0, by omega, rfl, rfl, ha, hid_of ⟨by simp, HR.out⟩, hid_of (Below.refl _ _)⟩
  case round =>
    obtain ⟨i, acc, hi, rfl, rfl, hai, hp, hb⟩ := hrel
    have HP := hid_of hp.out
    have HB := hid_of hb.out
    clear hp hb
    have aw : IntKind.i64.wrap ((a : Int) + (i : Int)) = (a : Int) + (i : Int) := IntWalk.i64_in _ (by omega)
    by_cases h8 : i < 8
    · by_cases hlt : a + i < n
      · obtain ⟨g, o, rfl, hg, hc⟩ := HD.out.byte (by omega)
        obtain ⟨y, hy⟩ : ∃ y, d[a + i]? = some y := ⟨_, List.getElem?_eq_getElem (by have := HN.out; omega)⟩
        have c1 := (HB.out.cell (p := ⟨g, o + (a + i), none⟩) hg).trans (hc (a + i) y hy)
        have hyr := HRR.out y (List.mem_of_getElem? hy)
        obtain ⟨z, rfl⟩ : ∃ z : Nat, y = z := ⟨y.toNat, by omega⟩
        have b1 : (a : Int) + (i : Int) < (n : Int) := by omega
        have b0 : (0 : Int) ≤ (a : Int) + (i : Int) := by omega
        have hz : z ≤ 255 := by omega
        have ST := hid_of (HP.out.2.trans (rd_step h8 hy))
        obtain ⟨nv, hnv⟩ : ∃ nv, nv = acc + z % 128 * 128 ^ i := ⟨_, rfl⟩
        have GV := grp_val acc z i h8 HP.out.1
        rw [← hnv] at GV
        obtain ⟨av, hlt2⟩ := GV
        have NV := hid_of hnv
        have HL2 := hid_of hlt2
        clear hc hyr hnv hlt2 hy
        by_cases hz1 : z < 128
        · have dz : decide ((z : Int) < 128) = true := by simp; omega
          have EV : Hid (nv = acc + (z : Int).toNat * 128 ^ i) := hid_of (by rw [NV.out, Nat.mod_eq_of_lt hz1]; rfl)
          have hcase : (i = 0) ∨ (0 < i ∧ z = 0) ∨ (0 < i ∧ z ≠ 0) := by omega
          rcases hcase with hi0 | ⟨hi0, hz0⟩ | ⟨hi0, hz0⟩
          · have HE : Hid (R = some (nv, i + 1)) := hid_of (by
              rw [ST.out, if_neg (by omega), if_pos (by unfold Wr.mayEnd; simp [hi0]), EV.out])
            have di : decide (0 < i) = false := by simp; omega
            clear hi0
            go_wp2
            go_ret2
            exact ⟨by rw [HE.out]; exact ret_rd rfl (by push_cast; omega), HB.out⟩
          · have HE : Hid (R = none) := hid_of (by
              rw [ST.out, if_neg (by omega), if_neg (by unfold Wr.mayEnd; simp [hz0]; omega)])
            have di : decide (0 < i) = true := by simp; omega
            have dz0 : ((z : Int) == 0) = true := by simp; omega
            clear hz0
            go_wp2
            go_ret2
            exact ⟨by rw [HE.out]; rfl, HB.out⟩
          · have HE : Hid (R = some (nv, i + 1)) := hid_of (by
              rw [ST.out, if_neg (by omega), if_pos (by unfold Wr.mayEnd; simp [hz0]; omega), EV.out])
            have di : decide (0 < i) = true := by simp; omega
            have dz0 : ((z : Int) == 0) = false := by simp; omega
            clear hz0
            go_wp2
            go_ret2
            exact ⟨by rw [HE.out]; exact ret_rd rfl (by push_cast; omega), HB.out⟩
        · have dz : decide ((z : Int) < 128) = false := by simp; omega
          have HE : Hid (R = Wr.decAt (8 - (i + 1)) (i + 1) nv (d.drop (a + (i + 1)))) := hid_of (by
            rw [ST.out, if_pos (by omega), NV.out, show ((z : Int) - 128).toNat = z % 128 by omega]
            rfl)
          clear hz1
          go_wp2
          go_roundw
          case rel => exact ⟨i + 1, nv, by omega, by go_num, rfl, by omega, hid_of ⟨HL2.out, HE.out⟩, HB⟩
          case measure => simp [intOf]; omega
      · have hEq : a + i = n := by omega
        have HE : Hid (R = none) := hid_of (by
          rw [HP.out.2, List.drop_of_length_le (by have := HN.out; omega), show 8 - i = (7 - i) + 1 by omega]
          rfl)
        have b1 : ¬ (a : Int) + (i : Int) < (n : Int) := by omega
        have db : decide ((a : Int) + (i : Int) < (n : Int)) = false := by simp; omega
        go_wp2
        go_ret2
        exact ⟨by rw [HE.out]; rfl, HB.out⟩
    · obtain rfl : i = 8 := by omega
      have HE : Hid (R = none) := hid_of (by rw [HP.out.2]; rfl)
      go_wp2
      go_ret2
      exact ⟨by rw [HE.out]; rfl, HB.out⟩
end Go.Proofs.Ytofgmimdmgaljaa
