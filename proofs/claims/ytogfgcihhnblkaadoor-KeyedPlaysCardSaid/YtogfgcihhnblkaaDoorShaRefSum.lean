/- The reference's rotr, constants, Padded. -/
import Derived.Test.YtogfgcihhnblkaaDoorShaApp
namespace Go.Proofs.YtogfgcihhnblkaaDoor
open Go.RowKit

theorem rrotr_any (x : Int) (n : Nat) (w : World) (hx : 0 ≤ x) (hx2 : x ≤ 4294967295) (hn : 1 ≤ n) (hn2 : n ≤ 31) :
    Calls Tryd.prog 48 #[.int .u32 x, .int .u64 n] w fun e w' => e = .returned (.int .u32 (rot x n)) ∧ w = w' := by
  go_enter Tryd.func48, Tryd.ntmps48
  go_wp2
  go_ret
  exact ⟨rfl, rfl⟩

def sliceLen : Value → Nat
  | .slice _ n _ => n
  | _ => 0
theorem zeros_more {n z m : Nat} (hm : m = n + 1 + z) (hz : z < zerosOf n) : ¬ ((m : Int) % 64 = 56) := by
  unfold zerosOf at hz; omega
theorem zeros_done {n z m : Nat} (hm : m = n + 1 + z) (hz : ¬ z < zerosOf n) (hz2 : z ≤ zerosOf n) : (m : Int) % 64 = 56 := by
  unfold zerosOf at hz hz2; omega
theorem zeros_le (n : Nat) : zerosOf n ≤ 63 := by unfold zerosOf; omega

/-- The first j bytes of the length in bits. -/
def pre8 (n j : Nat) : List Int := ([0, 0, 0, 0, 0, 0, ((n * 8 / 256 : Nat) : Int), ((n * 8 % 256 : Nat) : Int)] : List Int).take j
theorem pre8_len (n j : Nat) (h : j ≤ 8) : (pre8 n j).length = j := by unfold pre8; rw [List.length_take]; simp; omega
theorem pad_eq (n : Nat) (h : n ≤ 2300) : padOf n = 128 :: (List.replicate (zerosOf n) 0 ++ pre8 n 8) := by
  unfold padOf be8 pre8
  rw [show n * 8 / 4294967296 = 0 by omega, show n * 8 % 4294967296 = n * 8 by omega]
  rw [show n * 8 / 16777216 % 256 = 0 by omega, show n * 8 / 65536 % 256 = 0 by omega, show n * 8 / 256 % 256 = n * 8 / 256 by omega]
  rfl

set_option maxRecDepth 100000 in
set_option maxHeartbeats 1600000 in
theorem padded_any (l : List Int) (ao : Option Addr) (n cap : Nat) (w : World) (hl : l.length = n) (hL : Lies w (.slice ao n cap) l) (hn : n ≤ 2300) :
    Calls Tryd.prog 40 #[.slice ao n cap] w fun e w' => ∃ (xo : Option Addr) (c : Nat), e = .returned (.slice xo (l ++ padOf n).length c) ∧ OS w.heap.size w w' (.slice xo (l ++ padOf n).length c) (l ++ padOf n) := by
  have HL := hid_of hL
  have HN := hid_of hl
  have HZ := hid_of (zeros_le n)
  clear hL hl
  go_enter Tryd.func40, Tryd.ntmps40
  go_wp2_with (at_builtin; (first
    | ((with_reducible refine wpList_app rfl _ _ rfl (v := .slice (some ⟨w.heap.size, 0, none⟩) 0 0) rfl (os_empty w) (vx := .slice ao n cap) rfl (HL.out.at (bel_alloc _ _)) (by simp; rw [HN.out]; omega) ?_); intro xo1 n1 c1 w1 hn1 h1; obtain rfl : n = n1 := (by rw [hn1]; simp [HN.out]); have X1 : Hid (OS w.heap.size w w1 (.slice xo1 n c1) l) := hid_of h1; have L1 : Hid (Lies (w1.alloc (.cells #[.int .u8 128] 5)) (.slice (some ⟨w1.heap.size, 0, none⟩) 1 1) [128]) := hid_of (lies_new (l := [128]) (n := 1) (cs := #[.int .u8 128]) (m := (0, 0)) rfl rfl (by simp)); clear h1 hn1)
    | ((refine wpList_app rfl _ _ rfl (v := .slice xo1 n c1) rfl (X1.out.alloc _) (vx := .slice (some ⟨w1.heap.size, 0, none⟩) 1 1) rfl L1.out (by rw [HN.out]; simp; omega) ?_); intro xo2 n2 c2 w2 hn2 h2; obtain rfl : n2 = n + 1 := (by rw [hn2, HN.out]; rfl); have X2 : Hid (OS w.heap.size w w2 (.slice xo2 (n + 1) c2) (l ++ [128])) := hid_of h2; clear h2 hn2)))
  go_loopw [3] (fun tv wr => ∃ (z m : Nat) (xo : Option Addr) (xc : Nat), z ≤ zerosOf n ∧ tv = .slice xo m xc ∧ Hid (m = n + 1 + z) ∧ Hid (OS w.heap.size w wr (.slice xo m xc) (l ++ 128 :: List.replicate z 0))) (fun tv _ => n + 1 + zerosOf n - sliceLen tv)
  case atStart => exact ⟨0, n + 1, xo2, c2, Nat.zero_le _, rfl, hid_of rfl, X2⟩
  case round =>
    obtain ⟨z, m, xo, xc, hz, rfl, hm, hos⟩ := hrel
    have HLEN : Hid ((l ++ 128 :: List.replicate z 0).length = m) := hid_of (by rw [hm.out]; simp [HN.out]; omega)
    have hm2 : m ≤ 2400 := by have := hm.out; have := HZ.out; omega
    by_cases hlt : z < zerosOf n
    · have h56 := zeros_more hm.out hlt
      have LZ : Hid (Lies (wr.alloc (.cells #[.int .u8 0] 5)) (.slice (some ⟨wr.heap.size, 0, none⟩) 1 1) [0]) := hid_of (lies_new (l := [0]) (n := 1) (cs := #[.int .u8 0]) (m := (0, 0)) rfl rfl (by simp))
      go_wp2_with (at_builtin; ((refine wpList_app rfl _ _ rfl (v := .slice xo m xc) rfl (hos.out.alloc _) (vx := .slice (some ⟨wr.heap.size, 0, none⟩) 1 1) rfl LZ.out (by rw [HLEN.out]; simp; omega) ?_); intro xo3 n3 c3 w3 hn3 h3; obtain rfl : n3 = m + 1 := (by rw [hn3, HLEN.out]; rfl); have X3 : Hid (OS w.heap.size w w3 (.slice xo3 (m + 1) c3) (l ++ 128 :: List.replicate (z + 1) 0)) := hid_of (by rw [List.replicate_succ', ← List.cons_append, ← List.append_assoc]; exact h3); clear h3 hn3))
      go_roundw
      case rel => exact ⟨z + 1, m + 1, xo3, c3, by omega, rfl, hid_of (by have := hm.out; omega), X3⟩
      case measure => simp [sliceLen]; have := hm.out; omega
    · have h56 := zeros_done hm.out hlt hz
      obtain rfl : z = zerosOf n := by omega
      have h8k : (n : Int) ≤ 2300 := by omega
      go_wp2
      clear h56 hlt hz
      go_loopw [3, 5] (fun tv iv wr => ∃ (j m : Nat) (d : Int) (xo : Option Addr) (xc : Nat), (j = 0 ∧ d = 56 ∨ j = 1 ∧ d = 48 ∨ j = 2 ∧ d = 40 ∨ j = 3 ∧ d = 32 ∨ j = 4 ∧ d = 24 ∨ j = 5 ∧ d = 16 ∨ j = 6 ∧ d = 8 ∨ j = 7 ∧ d = 0 ∨ j = 8 ∧ d = -8) ∧ tv = .slice xo m xc ∧ iv = .int .i64 d ∧ Hid (m = n + 1 + zerosOf n + j) ∧ Hid (OS w.heap.size w wr (.slice xo m xc) (l ++ 128 :: List.replicate (zerosOf n) 0 ++ pre8 n j))) (fun tv _ _ => n + 1 + zerosOf n + 8 - sliceLen tv)
      case atStart => exact ⟨0, m, 56, xo, xc, .inl ⟨rfl, rfl⟩, rfl, rfl, hid_of hm.out, hid_of (by rw [show pre8 n 0 = [] from rfl, List.append_nil]; exact hos.out)⟩
      case round =>
        obtain ⟨j, m2, d, xo2, xc2, hjd, rfl, rfl, hm2, hos2⟩ := hrel
        have HLEN2 : Hid ((l ++ 128 :: List.replicate (zerosOf n) 0 ++ pre8 n j).length = m2) := hid_of (by rw [hm2.out, List.length_append, pre8_len n j (by omega)]; simp [HN.out]; omega)
        have hm3 : m2 ≤ 2400 := by have := hm2.out; have := HZ.out; omega
        have f0 : (n : Int) * 8 / 72057594037927936 = 0 := by omega
        have f1 : (n : Int) * 8 / 281474976710656 = 0 := by omega
        have f2 : (n : Int) * 8 / 1099511627776 = 0 := by omega
        have f3 : (n : Int) * 8 / 4294967296 = 0 := by omega
        have f4 : (n : Int) * 8 / 16777216 = 0 := by omega
        have f5 : (n : Int) * 8 / 65536 = 0 := by omega
        rcases hjd with ⟨rfl, rfl⟩ | ⟨rfl, rfl⟩ | ⟨rfl, rfl⟩ | ⟨rfl, rfl⟩ | ⟨rfl, rfl⟩ | ⟨rfl, rfl⟩ | ⟨rfl, rfl⟩ | ⟨rfl, rfl⟩ | ⟨rfl, rfl⟩
        · have LZ := hid_of (lies_new (w := wr) (l := [0]) (n := 1) (cs := #[.int .u8 (0)]) (m := (0, 0)) rfl rfl (by simp))
          have HP : Hid (pre8 n 1 = pre8 n 0 ++ [0]) := hid_of (by rfl)
          go_wp2_with (at_builtin; ((refine wpList_app rfl _ _ rfl (v := .slice xo2 m2 xc2) rfl (hos2.out.alloc _) (vx := .slice (some ⟨wr.heap.size, 0, none⟩) 1 1) rfl LZ.out (by rw [HLEN2.out]; simp; omega) ?_); intro xo3 n3 c3 w3 hn3 h3; obtain rfl : n3 = m2 + 1 := (by rw [hn3, HLEN2.out]; rfl); have X3 : Hid (OS w.heap.size w w3 (.slice xo3 (m2 + 1) c3) (l ++ 128 :: List.replicate (zerosOf n) 0 ++ pre8 n 1)) := hid_of (by rw [HP.out, ← List.append_assoc]; exact h3); clear h3 hn3))
          go_roundw
          case rel => exact ⟨1, m2 + 1, 48, xo3, c3, by omega, rfl, by go_num, hid_of (by have := hm2.out; omega), X3⟩
          case measure => simp [sliceLen]; have := hm2.out; omega
        · have LZ := hid_of (lies_new (w := wr) (l := [0]) (n := 1) (cs := #[.int .u8 (0)]) (m := (0, 0)) rfl rfl (by simp))
          have HP : Hid (pre8 n 2 = pre8 n 1 ++ [0]) := hid_of (by rfl)
          go_wp2_with (at_builtin; ((refine wpList_app rfl _ _ rfl (v := .slice xo2 m2 xc2) rfl (hos2.out.alloc _) (vx := .slice (some ⟨wr.heap.size, 0, none⟩) 1 1) rfl LZ.out (by rw [HLEN2.out]; simp; omega) ?_); intro xo3 n3 c3 w3 hn3 h3; obtain rfl : n3 = m2 + 1 := (by rw [hn3, HLEN2.out]; rfl); have X3 : Hid (OS w.heap.size w w3 (.slice xo3 (m2 + 1) c3) (l ++ 128 :: List.replicate (zerosOf n) 0 ++ pre8 n 2)) := hid_of (by rw [HP.out, ← List.append_assoc]; exact h3); clear h3 hn3))
          go_roundw
          case rel => exact ⟨2, m2 + 1, 40, xo3, c3, by omega, rfl, by go_num, hid_of (by have := hm2.out; omega), X3⟩
          case measure => simp [sliceLen]; have := hm2.out; omega
        · have LZ := hid_of (lies_new (w := wr) (l := [0]) (n := 1) (cs := #[.int .u8 (0)]) (m := (0, 0)) rfl rfl (by simp))
          have HP : Hid (pre8 n 3 = pre8 n 2 ++ [0]) := hid_of (by rfl)
          go_wp2_with (at_builtin; ((refine wpList_app rfl _ _ rfl (v := .slice xo2 m2 xc2) rfl (hos2.out.alloc _) (vx := .slice (some ⟨wr.heap.size, 0, none⟩) 1 1) rfl LZ.out (by rw [HLEN2.out]; simp; omega) ?_); intro xo3 n3 c3 w3 hn3 h3; obtain rfl : n3 = m2 + 1 := (by rw [hn3, HLEN2.out]; rfl); have X3 : Hid (OS w.heap.size w w3 (.slice xo3 (m2 + 1) c3) (l ++ 128 :: List.replicate (zerosOf n) 0 ++ pre8 n 3)) := hid_of (by rw [HP.out, ← List.append_assoc]; exact h3); clear h3 hn3))
          go_roundw
          case rel => exact ⟨3, m2 + 1, 32, xo3, c3, by omega, rfl, by go_num, hid_of (by have := hm2.out; omega), X3⟩
          case measure => simp [sliceLen]; have := hm2.out; omega
        · have LZ := hid_of (lies_new (w := wr) (l := [0]) (n := 1) (cs := #[.int .u8 (0)]) (m := (0, 0)) rfl rfl (by simp))
          have HP : Hid (pre8 n 4 = pre8 n 3 ++ [0]) := hid_of (by rfl)
          go_wp2_with (at_builtin; ((refine wpList_app rfl _ _ rfl (v := .slice xo2 m2 xc2) rfl (hos2.out.alloc _) (vx := .slice (some ⟨wr.heap.size, 0, none⟩) 1 1) rfl LZ.out (by rw [HLEN2.out]; simp; omega) ?_); intro xo3 n3 c3 w3 hn3 h3; obtain rfl : n3 = m2 + 1 := (by rw [hn3, HLEN2.out]; rfl); have X3 : Hid (OS w.heap.size w w3 (.slice xo3 (m2 + 1) c3) (l ++ 128 :: List.replicate (zerosOf n) 0 ++ pre8 n 4)) := hid_of (by rw [HP.out, ← List.append_assoc]; exact h3); clear h3 hn3))
          go_roundw
          case rel => exact ⟨4, m2 + 1, 24, xo3, c3, by omega, rfl, by go_num, hid_of (by have := hm2.out; omega), X3⟩
          case measure => simp [sliceLen]; have := hm2.out; omega
        · have LZ := hid_of (lies_new (w := wr) (l := [0]) (n := 1) (cs := #[.int .u8 (0)]) (m := (0, 0)) rfl rfl (by simp))
          have HP : Hid (pre8 n 5 = pre8 n 4 ++ [0]) := hid_of (by rfl)
          go_wp2_with (at_builtin; ((refine wpList_app rfl _ _ rfl (v := .slice xo2 m2 xc2) rfl (hos2.out.alloc _) (vx := .slice (some ⟨wr.heap.size, 0, none⟩) 1 1) rfl LZ.out (by rw [HLEN2.out]; simp; omega) ?_); intro xo3 n3 c3 w3 hn3 h3; obtain rfl : n3 = m2 + 1 := (by rw [hn3, HLEN2.out]; rfl); have X3 : Hid (OS w.heap.size w w3 (.slice xo3 (m2 + 1) c3) (l ++ 128 :: List.replicate (zerosOf n) 0 ++ pre8 n 5)) := hid_of (by rw [HP.out, ← List.append_assoc]; exact h3); clear h3 hn3))
          go_roundw
          case rel => exact ⟨5, m2 + 1, 16, xo3, c3, by omega, rfl, by go_num, hid_of (by have := hm2.out; omega), X3⟩
          case measure => simp [sliceLen]; have := hm2.out; omega
        · have LZ := hid_of (lies_new (w := wr) (l := [0]) (n := 1) (cs := #[.int .u8 (0)]) (m := (0, 0)) rfl rfl (by simp))
          have HP : Hid (pre8 n 6 = pre8 n 5 ++ [0]) := hid_of (by rfl)
          go_wp2_with (at_builtin; ((refine wpList_app rfl _ _ rfl (v := .slice xo2 m2 xc2) rfl (hos2.out.alloc _) (vx := .slice (some ⟨wr.heap.size, 0, none⟩) 1 1) rfl LZ.out (by rw [HLEN2.out]; simp; omega) ?_); intro xo3 n3 c3 w3 hn3 h3; obtain rfl : n3 = m2 + 1 := (by rw [hn3, HLEN2.out]; rfl); have X3 : Hid (OS w.heap.size w w3 (.slice xo3 (m2 + 1) c3) (l ++ 128 :: List.replicate (zerosOf n) 0 ++ pre8 n 6)) := hid_of (by rw [HP.out, ← List.append_assoc]; exact h3); clear h3 hn3))
          go_roundw
          case rel => exact ⟨6, m2 + 1, 8, xo3, c3, by omega, rfl, by go_num, hid_of (by have := hm2.out; omega), X3⟩
          case measure => simp [sliceLen]; have := hm2.out; omega
        · have LZ := hid_of (lies_new (w := wr) (l := [(n : Int) * 8 / 256]) (n := 1) (cs := #[.int .u8 ((n : Int) * 8 / 256)]) (m := (0, 0)) rfl rfl (by simp))
          have HP : Hid (pre8 n 7 = pre8 n 6 ++ [(n : Int) * 8 / 256]) := hid_of (by simp [pre8])
          go_wp2_with (at_builtin; ((refine wpList_app rfl _ _ rfl (v := .slice xo2 m2 xc2) rfl (hos2.out.alloc _) (vx := .slice (some ⟨wr.heap.size, 0, none⟩) 1 1) rfl LZ.out (by rw [HLEN2.out]; simp; omega) ?_); intro xo3 n3 c3 w3 hn3 h3; obtain rfl : n3 = m2 + 1 := (by rw [hn3, HLEN2.out]; rfl); have X3 : Hid (OS w.heap.size w w3 (.slice xo3 (m2 + 1) c3) (l ++ 128 :: List.replicate (zerosOf n) 0 ++ pre8 n 7)) := hid_of (by rw [HP.out, ← List.append_assoc]; exact h3); clear h3 hn3))
          go_roundw
          case rel => exact ⟨7, m2 + 1, 0, xo3, c3, by omega, rfl, by go_num, hid_of (by have := hm2.out; omega), X3⟩
          case measure => simp [sliceLen]; have := hm2.out; omega
        · have LZ := hid_of (lies_new (w := wr) (l := [(n : Int) * 8 % 256]) (n := 1) (cs := #[.int .u8 ((n : Int) * 8 % 256)]) (m := (0, 0)) rfl rfl (by simp))
          have HP : Hid (pre8 n 8 = pre8 n 7 ++ [(n : Int) * 8 % 256]) := hid_of (by simp [pre8])
          go_wp2_with (at_builtin; ((refine wpList_app rfl _ _ rfl (v := .slice xo2 m2 xc2) rfl (hos2.out.alloc _) (vx := .slice (some ⟨wr.heap.size, 0, none⟩) 1 1) rfl LZ.out (by rw [HLEN2.out]; simp; omega) ?_); intro xo3 n3 c3 w3 hn3 h3; obtain rfl : n3 = m2 + 1 := (by rw [hn3, HLEN2.out]; rfl); have X3 : Hid (OS w.heap.size w w3 (.slice xo3 (m2 + 1) c3) (l ++ 128 :: List.replicate (zerosOf n) 0 ++ pre8 n 8)) := hid_of (by rw [HP.out, ← List.append_assoc]; exact h3); clear h3 hn3))
          go_roundw
          case rel => exact ⟨8, m2 + 1, -8, xo3, c3, by omega, rfl, by go_num, hid_of (by have := hm2.out; omega), X3⟩
          case measure => simp [sliceLen]; have := hm2.out; omega
        · go_wp2
          go_ret
          have hfin : l ++ 128 :: List.replicate (zerosOf n) 0 ++ pre8 n 8 = l ++ padOf n := by rw [pad_eq n hn, List.append_assoc, List.cons_append]
          have h1 := HLEN2.out
          have h2 := hos2.out
          rw [hfin] at h1 h2
          rw [h1]
          exact ⟨xo2, xc2, rfl, h2⟩
end Go.Proofs.YtogfgcihhnblkaaDoor
