/- The reference's Unhex. -/
import Derived.Test.YtembofcdoognkaaDoorShaRefHex
import Derived.Test.YtembofcdoognkaaDoorShaClonesW
namespace Go.Proofs.YtembofcdoognkaaDoor
open Go.RowKit

theorem drew_bel {w : World} : Below w.heap.size w w.drew := (Below.refl _ _).drew

set_option maxRecDepth 100000 in
set_option maxHeartbeats 1600000 in
theorem runhex_any (s : ByteArray) (w : World) (hn : s.size ≤ 2000000000) :
    Calls Tryd.prog 21 #[.string s] w fun e w' => Below w.heap.size w w' ∧
      ((∃ l : List Int, (∀ y ∈ l, 0 ≤ y ∧ y ≤ 255) ∧ hexL l = strBytes s ∧ e = .returned (.tuple #[.string (strOfNums l), .bool true])) ∨
       ((∀ l : List Int, (∀ y ∈ l, 0 ≤ y ∧ y ≤ 255) → hexL l ≠ strBytes s) ∧ e = .returned (.tuple #[.string ⟨#[]⟩, .bool false]))) := by
  obtain ⟨i0, hi, hz0, hz1, hz2⟩ := info_parts Tryd.infoU8
  go_enter Tryd.func21, Tryd.ntmps21
  by_cases hp : s.size % 2 = 0
  case neg =>
    go_wp2
    go_ret2
    refine ⟨Below.refl _ _, .inr ⟨fun l _ hl2 => ?_, rfl⟩⟩
    have := congrArg List.length hl2
    rw [hexL_length, strBytes_length] at this
    omega
  go_wp2
  have hodd : (((s.size : Int) % 2) != 0) = false := by simp; omega
  simp only [hodd]
  go_loopw [4, 5] (fun tv iv wr => ∃ (k m : Nat) (l : List Int) (ao : Option Addr) (cap : Nat), m ≤ s.size ∧ m = 2 * k ∧ iv = .int .i64 m ∧ tv = .slice ao k cap ∧ Hid (k = l.length) ∧ Hid (hexL l = (strBytes s).take m) ∧ Hid (∀ y ∈ l, 0 ≤ y ∧ y ≤ 255) ∧ Hid (OS w.heap.size w wr (.slice ao k cap) l)) (fun _ iv _ => s.size - (intOf iv).toNat)
  case atStart => exact ⟨0, 0, [], _, _, by omega, rfl, rfl, rfl, hid_of rfl, hid_of rfl, hid_of (by simp), hid_of (os_nil w)⟩
  case round =>
    obtain ⟨k, m, l, ao, cap, hm, hmk, rfl, rfl, hkl, hhl, hlb, hos⟩ := hrel
    by_cases hlt : m < s.size
    · have hlt2 : m + 1 < s.size := by omega
      obtain ⟨y, hy⟩ : ∃ y : Int, y = ((s[m]).toNat : Int) := ⟨_, rfl⟩
      have hy2 : 0 ≤ y ∧ y ≤ 255 := by rw [hy]; have := (s[m]).toNat_lt; omega
      obtain ⟨y0, y1⟩ := hy2
      have HY := hid_of hy
      have hys : ((s[m]).toNat : Int) = y := hy.symm
      clear hy
      obtain ⟨x, hx⟩ : ∃ x : Int, x = ((s[m + 1]).toNat : Int) := ⟨_, rfl⟩
      have hx2 : 0 ≤ x ∧ x ≤ 255 := by rw [hx]; have := (s[m + 1]).toNat_lt; omega
      obtain ⟨x0, x1⟩ := hx2
      have HX := hid_of hx
      have hxs : ((s[m + 1]).toNat : Int) = x := hx.symm
      clear hx
      by_cases hyd : isd y = true
      case neg =>
        clear hmk
        have hyd2 : dgr y < 0 := by have := dgr_no y hyd; omega
        have hxr := dgr_rng x
        have hs1 : IntKind.i64.wrap ((m : Int) + 1) = (m : Int) + 1 := Go.IntWalk.i64_in _ (by omega)
        have hs2 : (0 : Int) ≤ (m : Int) + 1 := by clear hs1; omega
        have hs3 : ((m : Int) + 1).toNat = m + 1 := by clear hs1 hs2; omega
        go_wp2
        go_region_with (go_at_call 29; refine (rdigit_any _ _ (by assumption) (by assumption)).mono ?_; rintro e w2 ⟨rfl, hw2⟩; obtain rfl := hw2)
        all_goals clear hs1 hs2 hs3
        all_goals go_wp2
        all_goals
          go_ret2
          refine ⟨hos.out.bel.drew, .inr ⟨fun l' hl' he => ?_, rfl⟩⟩
          have hmem : y ∈ hexL l' := by rw [he]; exact List.mem_of_getElem? ((strBytes_at s m hlt).trans (congrArg some hys))
          exact hyd (hexL_isd l' hl' y hmem)
      by_cases hxd : isd x = true
      case neg =>
        clear hmk
        have hxd2 : dgr x < 0 := by have := dgr_no x hxd; omega
        have hyr := (dgr_yes y hyd).1
        have hs1 : IntKind.i64.wrap ((m : Int) + 1) = (m : Int) + 1 := Go.IntWalk.i64_in _ (by omega)
        have hs2 : (0 : Int) ≤ (m : Int) + 1 := by clear hs1; omega
        have hs3 : ((m : Int) + 1).toNat = m + 1 := by clear hs1 hs2; omega
        go_wp2
        go_region_with (go_at_call 29; refine (rdigit_any _ _ (by assumption) (by assumption)).mono ?_; rintro e w2 ⟨rfl, hw2⟩; obtain rfl := hw2)
        all_goals clear hs1 hs2 hs3
        all_goals go_wp2
        all_goals
          go_ret2
          refine ⟨hos.out.bel.drew, .inr ⟨fun l' hl' he => ?_, rfl⟩⟩
          have hmem : x ∈ hexL l' := by rw [he]; exact List.mem_of_getElem? ((strBytes_at s (m + 1) hlt2).trans (congrArg some hxs))
          exact hxd (hexL_isd l' hl' x hmem)
      obtain ⟨y2, y3, y4⟩ := dgr_yes y hyd
      obtain ⟨x2, x3, x4⟩ := dgr_yes x hxd
      obtain ⟨z, hz⟩ : ∃ z : Int, z = 16 * dgr y + dgr x := ⟨_, rfl⟩
      have hzz : dg (z / 16) = y ∧ dg (z % 16) = x ∧ 0 ≤ z ∧ z ≤ 255 := by
        rw [show z / 16 = dgr y by omega, show z % 16 = dgr x by omega]
        exact ⟨y4, x4, by omega, by omega⟩
      have HZ := hid_of hzz
      have hzs : 16 * dgr y + dgr x = z := hz.symm
      have HHL : Hid (hexL (l ++ [z]) = (strBytes s).take (m + 2)) := hid_of (by
        rw [hexL_snoc, hhl.out, HZ.out.1, HZ.out.2.1, List.take_add_one, List.take_add_one, strBytes_at s (m + 1) hlt2, strBytes_at s m hlt, hys, hxs]
        simp)
      clear hz hzz
      have HMK := hid_of hmk
      have hk9 : k ≤ 999999999 := by omega
      clear hmk
      have HOS := hid_of (fun o : Obj => OS.drew (OS.alloc hos.out o))
      have HKL := hid_of hkl.out.symm
      have LZ : Hid (Lies (wr.alloc (.cells #[.int .u8 z] 5)).drew (.slice (some ⟨wr.heap.size, 0, none⟩) 1 1) [z]) := hid_of ((lies_new (w := wr) (l := [z]) (n := 1) (cs := #[.int .u8 z]) (m := (0, 0)) rfl rfl (by simp)).at drew_bel)
      have hs1 : IntKind.i64.wrap ((m : Int) + 1) = (m : Int) + 1 := Go.IntWalk.i64_in _ (by omega)
      have hs2 : (0 : Int) ≤ (m : Int) + 1 := by clear hs1; omega
      have hs3 : ((m : Int) + 1).toNat = m + 1 := by clear hs1 hs2; omega
      go_wp2
      go_region_with (go_at_call 29; refine (rdigit_any _ _ (by assumption) (by assumption)).mono ?_; rintro e w2 ⟨rfl, hw2⟩; obtain rfl := hw2)
      all_goals clear hs1 hs2 hs3
      all_goals
        go_wp2_with (first
          | (at_builtin; (refine wpList_app rfl _ _ rfl (v := .slice ao k cap) rfl (HOS.out _) (vx := .slice (some ⟨wr.heap.size, 0, none⟩) 1 1) rfl LZ.out (by rw [HKL.out]; simp; omega) ?_); intro ao2 n2 cap2 w2 hn2 h2; obtain rfl : n2 = k + 1 := (by rw [hn2, HKL.out]; rfl); have H2 := hid_of h2; clear hn2 h2))
        go_roundw
        case rel => exact ⟨k + 1, m + 2, l ++ [z], ao2, cap2, by omega, by have := HMK.out; omega, by go_num, rfl, hid_of (by rw [hkl.out]; simp), HHL, hid_of (by intro t ht; rcases List.mem_append.mp ht with h | h; exact hlb.out t h; simp at h; subst h; exact HZ.out.2.2), H2⟩
        case measure => simp [intOf]; omega
    · obtain rfl : m = s.size := by omega
      have hfull : (strBytes s).take s.size = strBytes s := List.take_of_length_le (by rw [strBytes_length]; exact Nat.le_refl _)
      have HF := hid_of hfull
      have HHL : Hid (hexL l = strBytes s) := hid_of (by rw [← HF.out]; exact hhl.out)
      have HNL : Hid (l.length = k) := hid_of hkl.out.symm
      clear hfull hlt
      go_wp2_with (refine wpList_str _ rfl 22 9 (.tmp 41) rfl 5 Tryd.underlying22 Tryd.underlying5 Tryd.underlying9 ao l k cap HNL.out rfl (OS.src hos.out) ?_)
      go_ret2
      exact ⟨hos.out.bel, .inl ⟨l, hlb.out, HHL.out, rfl⟩⟩
end Go.Proofs.YtembofcdoognkaaDoor
