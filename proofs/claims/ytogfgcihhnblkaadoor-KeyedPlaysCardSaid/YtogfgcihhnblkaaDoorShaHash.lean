/- The hash of a message, block by block: plain lists. No condition. -/
import Derived.Test.YtogfgcihhnblkaaDoorShaMix
namespace Go.Proofs.YtogfgcihhnblkaaDoor
open Go.RowKit

def INI8 : R8 := ⟨1779033703, 3144134277, 1013904242, 2773480762, 1359893119, 2600822924, 528734635, 1541459225⟩
theorem ini8_ok : INI8.ok := by unfold R8.ok W32 INI8; decide
/-- The state behind k whole blocks. -/
def hashN (m : List Int) : Nat → R8
  | 0 => INI8
  | k + 1 => mixF (hashN m k) ((m.drop (64 * k)).take 64)
def HB (m : List Int) : R8 := hashN m (m.length / 64)

theorem mixF_ok (s : R8) (B : List Int) : (mixF s B).ok := by
  unfold mixF R8.ok
  exact ⟨ad_w _ _, ad_w _ _, ad_w _ _, ad_w _ _, ad_w _ _, ad_w _ _, ad_w _ _, ad_w _ _⟩
theorem hashN_ok (m : List Int) : ∀ k, (hashN m k).ok := by
  intro k; cases k with
  | zero => exact ini8_ok
  | succ k => exact mixF_ok _ _
theorem HB_ok (m : List Int) : (HB m).ok := hashN_ok m _
theorem hashN_append (m l : List Int) : ∀ k, 64 * k ≤ m.length → hashN (m ++ l) k = hashN m k := by
  intro k; induction k with
  | zero => intro _; rfl
  | succ k ih =>
    intro h
    rw [hashN, hashN, ih (by omega)]
    congr 1
    rw [List.drop_append_of_le_length (by omega), List.take_append_of_le_length (by rw [List.length_drop]; omega)]

/-- The bytes behind the last whole block. -/
def tailOf (m : List Int) : List Int := m.drop (64 * (m.length / 64))
theorem tailOf_length (m : List Int) : (tailOf m).length = m.length % 64 := by
  unfold tailOf; rw [List.length_drop]; omega

theorem HB_short {m l : List Int} (h : m.length % 64 + l.length < 64) : HB (m ++ l) = HB m := by
  unfold HB
  have e : (m ++ l).length / 64 = m.length / 64 := by rw [List.length_append]; omega
  rw [e, hashN_append _ _ _ (by omega)]
theorem tail_short {m l : List Int} (h : m.length % 64 + l.length < 64) : tailOf (m ++ l) = tailOf m ++ l := by
  unfold tailOf
  have e : (m ++ l).length / 64 = m.length / 64 := by rw [List.length_append]; omega
  rw [e, List.drop_append_of_le_length (by omega)]
theorem HB_full {m l : List Int} (h : m.length % 64 + l.length = 64) : HB (m ++ l) = mixF (HB m) (tailOf m ++ l) := by
  unfold HB
  have e : (m ++ l).length / 64 = m.length / 64 + 1 := by rw [List.length_append]; omega
  rw [e, hashN, hashN_append _ _ _ (by omega)]
  congr 1
  unfold tailOf
  rw [List.drop_append_of_le_length (by omega), List.take_of_length_le (by rw [List.length_append, List.length_drop]; omega)]
theorem tail_full {m l : List Int} (h : m.length % 64 + l.length = 64) : tailOf (m ++ l) = [] := by
  have := tailOf_length (m ++ l)
  rw [List.length_append] at this
  exact List.eq_nil_of_length_eq_zero (by omega)

/-- The block behind a copy of X to place r. -/
def blk (B : List Int) (r : Nat) (X : List Int) : List Int := B.take r ++ (X ++ B.drop (r + X.length))
theorem blk_length {B X : List Int} {r : Nat} (hB : B.length = 64) (h : r + X.length ≤ 64) : (blk B r X).length = 64 := by
  unfold blk; simp; omega
theorem blk_take {B X : List Int} {r : Nat} (hB : B.length = 64) (h : r + X.length ≤ 64) : (blk B r X).take (r + X.length) = B.take r ++ X := by
  unfold blk
  rw [← List.append_assoc, List.take_append_of_le_length (by simp; omega), List.take_of_length_le (by simp; omega)]
theorem blk_full {B X : List Int} {r : Nat} (hB : B.length = 64) (h : r + X.length = 64) : blk B r X = B.take r ++ X := by
  unfold blk
  rw [List.drop_of_length_le (by omega), List.append_nil]

/-- The padding of a message of n bytes. -/
def zerosOf (n : Nat) : Nat := (119 - n % 64) % 64
def be8 (n : Nat) : List Int := [((n / 16777216 % 256 : Nat) : Int), ((n / 65536 % 256 : Nat) : Int), ((n / 256 % 256 : Nat) : Int), ((n % 256 : Nat) : Int)]
def padOf (n : Nat) : List Int := 128 :: (List.replicate (zerosOf n) 0 ++ (be8 (n * 8 / 4294967296) ++ be8 (n * 8 % 4294967296)))
theorem padOf_length (n : Nat) : (padOf n).length = 9 + zerosOf n := by unfold padOf be8; simp; omega
theorem pad_whole (n : Nat) : (n + (padOf n).length) % 64 = 0 := by rw [padOf_length]; unfold zerosOf; omega
def wordBytes (x : Int) : List Int := [x / 16777216 % 256, x / 65536 % 256, x / 256 % 256, x % 256]
def digestOf (s : R8) : List Int := wordBytes s.a ++ (wordBytes s.b ++ (wordBytes s.c ++ (wordBytes s.d ++ (wordBytes s.e ++ (wordBytes s.f ++ (wordBytes s.g ++ wordBytes s.h))))))
/-- The digest of a message. -/
def digest (m : List Int) : List Int := digestOf (HB (m ++ padOf m.length))

end Go.Proofs.YtogfgcihhnblkaaDoor
