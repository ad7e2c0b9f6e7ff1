/- Write: the state of a message, and what is written to it. Bounds on the sizes. -/
import Derived.Test.YtogfgcihhnblkaaDoorShaHash
import Derived.Deep.RegionWith
namespace Go.Proofs.YtogfgcihhnblkaaDoor
open Go.RowKit

/-- The cells of a list of bytes. -/
def bs (l : List Int) : List Value := l.map (Value.int .u8)
theorem bs_length (l : List Int) : (bs l).length = l.length := by simp [bs]
theorem bs_one (l : List Int) : ∀ v ∈ bs l, v.oneCell' = true := by
  intro v hv; simp [bs] at hv; obtain ⟨x, _, rfl⟩ := hv; rfl
theorem bs_append (a b : List Int) : bs (a ++ b) = bs a ++ bs b := by simp [bs]
theorem bs_take (a : List Int) (n : Nat) : bs (a.take n) = (bs a).take n := by simp [bs]
theorem bs_drop (a : List Int) (n : Nat) : bs (a.drop n) = (bs a).drop n := by simp [bs]
theorem Tryd.sizeU8 : (Tryd.prog.info? 5).map (·.size) = some 1 := by kernel_rfl

/-- Between w and w' nothing has turned but the blocks of S and new ones. -/
structure Kept (S : Nat → Prop) (w w' : World) : Prop where
  os : w'.os = w.os
  tape : w'.tape = w.tape
  output : w'.output = w.output
  size : w.heap.size ≤ w'.heap.size
  block : ∀ k, k < w.heap.size → ¬ S k → w'.heap[k]? = w.heap[k]?
theorem Kept.below {S : Nat → Prop} {w w' : World} {B : Nat} (h : Kept S w w') (hB : B ≤ w.heap.size) (hS : ∀ k, S k → B ≤ k) : Below B w w' :=
  ⟨h.os, h.tape, h.output, h.size, fun k hk => h.block k (by omega) (fun hs => by have := hS k hs; omega)⟩
theorem Kept.refl (S : Nat → Prop) (w : World) : Kept S w w := ⟨rfl, rfl, rfl, Nat.le_refl _, fun _ _ _ => rfl⟩
theorem Kept.trans {S : Nat → Prop} {a b c : World} (h : Kept S a b) (k : Kept S b c) : Kept S a c :=
  ⟨k.os.trans h.os, k.tape.trans h.tape, k.output.trans h.output, Nat.le_trans h.size k.size, fun q hq hS => (k.block q (Nat.lt_of_lt_of_le hq h.size) hS).trans (h.block q hq hS)⟩
theorem Kept.ofBelow {S : Nat → Prop} {a b : World} (h : Below a.heap.size a b) : Kept S a b := ⟨h.os, h.tape, h.output, h.size, fun q hq _ => h.block q hq⟩
theorem Kept.setCell {S : Nat → Prop} {a b : World} (h : Kept S a b) {p : Addr} (hp : S p.block) (u : Value) : Kept S a (b.setCell p u) :=
  h.trans ⟨rfl, rfl, rfl, by show _ ≤ (b.heap.modify _ _).size; rw [Array.size_modify]; exact Nat.le_refl _, fun q hq hS => Below.heap_setCell _ _ _ _ (fun e => hS (by rw [e]; exact hp))⟩
theorem Kept.setRow {S : Nat → Prop} {a b : World} {g : Nat} (h : Kept S a b) (hg : S g) (cs : Array Value) : Kept S a (b.setRow g cs) :=
  h.trans ⟨rfl, rfl, rfl, by simp [World.setRow], fun q hq hS => setRow_other _ _ _ _ (fun e => hS (by rw [e]; exact hg))⟩
theorem Kept.drew {S : Nat → Prop} {a b : World} (h : Kept S a b) : Kept S a b.drew := ⟨h.os, h.tape, h.output, h.size, h.block⟩
theorem Kept.drewN {S : Nat → Prop} {a b : World} (h : Kept S a b) (n : Nat) : Kept S a (b.drewN n) := ⟨h.os, h.tape, h.output, h.size, h.block⟩

theorem Kept.set1 {b j : Nat} {a w : World} (h : Kept (fun k => k = b) a w) (u : Value) : Kept (fun k => k = b) a (w.setCell ⟨b, j, none⟩ u) := h.setCell (p := ⟨b, j, none⟩) (show b = b from rfl) u

/-- The cells of a State: the words, the block, the length. -/
def rowSt (s : R8) (B : List Int) (n : Nat) : List Value := s.vals.toList ++ (bs B ++ [.int .i64 n])
theorem rowSt_length (s : R8) (B : List Int) (n : Nat) (h : B.length = 64) : (rowSt s B n).length = 73 := by simp [rowSt, bs, R8.vals, h]
/-- The State in block b. -/
structure SB (w : World) (b : Nat) (s : R8) (B : List Int) (n : Nat) : Prop where
  len : B.length = 64
  rng : ∀ y ∈ B, 0 ≤ y ∧ y ≤ 255
  blk : w.heap[b]? = some (.cells (rowSt s B n).toArray 75 (0, 0))
theorem SB.lt {w : World} {b : Nat} {s : R8} {B : List Int} {n : Nat} (h : SB w b s B n) : b < w.heap.size := lt_of_block h.blk
theorem SB.cell {w : World} {b : Nat} {s : R8} {B : List Int} {n : Nat} (h : SB w b s B n) (j : Nat) : w.cell? ⟨b, j, none⟩ = (rowSt s B n)[j]? := by
  rw [cell_of_row _ _ _ _ _ _ h.blk]; simp
theorem SB.free {w : World} {b : Nat} {s : R8} {B : List Int} {n : Nat} (h : SB w b s B n) (j : Nat) : w.frozen? ⟨b, j, none⟩ = false := frozen_of_row _ _ _ _ _ h.blk
theorem SB.word {w : World} {b : Nat} {s : R8} {B : List Int} {n : Nat} (h : SB w b s B n) :
    w.cell? ⟨b, 0, none⟩ = some (.int .u32 s.a) ∧ w.cell? ⟨b, 1, none⟩ = some (.int .u32 s.b) ∧ w.cell? ⟨b, 2, none⟩ = some (.int .u32 s.c) ∧ w.cell? ⟨b, 3, none⟩ = some (.int .u32 s.d) ∧
    w.cell? ⟨b, 4, none⟩ = some (.int .u32 s.e) ∧ w.cell? ⟨b, 5, none⟩ = some (.int .u32 s.f) ∧ w.cell? ⟨b, 6, none⟩ = some (.int .u32 s.g) ∧ w.cell? ⟨b, 7, none⟩ = some (.int .u32 s.h) :=
  ⟨h.cell 0, h.cell 1, h.cell 2, h.cell 3, h.cell 4, h.cell 5, h.cell 6, h.cell 7⟩
theorem SB.length {w : World} {b : Nat} {s : R8} {B : List Int} {n : Nat} (h : SB w b s B n) : w.cell? ⟨b, 72, none⟩ = some (.int .i64 n) := by
  rw [h.cell]
  have e : (rowSt s B n) = (s.vals.toList ++ bs B) ++ [.int .i64 n] := by simp [rowSt]
  have hl : (s.vals.toList ++ bs B).length = 72 := by simp [bs, R8.vals, h.len]
  rw [e, List.getElem?_append_right (by omega), hl]
  rfl
theorem SB.bytes {w : World} {b : Nat} {s : R8} {B : List Int} {n : Nat} (h : SB w b s B n) : Bytes64 w b 8 B := fun j hj => by
  have hj2 : j < B.length := by rw [h.len]; exact hj
  refine ⟨B[j], List.getElem?_eq_getElem hj2, (h.rng _ (List.getElem_mem hj2)).1, (h.rng _ (List.getElem_mem hj2)).2, ?_⟩
  rw [h.cell]
  have hl : s.vals.toList.length = 8 := by simp [R8.vals]
  unfold rowSt
  rw [List.getElem?_append_right (by omega), hl, show 8 + j - 8 = j by omega, List.getElem?_append_left (by rw [bs_length]; exact hj2)]
  simp [bs, hj2]
theorem SB.later {w w' : World} {b : Nat} {s : R8} {B : List Int} {n : Nat} (h : SB w b s B n) (hb : w'.heap[b]? = w.heap[b]?) : SB w' b s B n := ⟨h.len, h.rng, hb.trans h.blk⟩
theorem SB.setLen {w : World} {b : Nat} {s : R8} {B : List Int} {n : Nat} (h : SB w b s B n) (n' : Nat) : SB (w.setCell ⟨b, 72, none⟩ (.int .i64 n')) b s B n' := by
  refine ⟨h.len, h.rng, ?_⟩
  rw [heap_setCell_same _ _ _ _ _ _ h.blk]
  congr 2
  apply Array.ext'
  have hl : (s.vals.toList ++ bs B).length = 72 := by simp [bs, R8.vals, h.len]
  have e : ∀ n : Nat, (rowSt s B n) = (s.vals.toList ++ bs B) ++ [.int .i64 n] := fun n => by simp [rowSt]
  rw [e, e]
  simp only [Array.toList_setIfInBounds]
  rw [List.set_append_right _ _ (by omega), hl]
  rfl
theorem SB.setWords {w : World} {b : Nat} {s : R8} {B : List Int} {n : Nat} (h : SB w b s B n) (q : R8) :
    SB ((((((((w.setCell ⟨b, 0, none⟩ (.int .u32 q.a)).setCell ⟨b, 1, none⟩ (.int .u32 q.b)).setCell ⟨b, 2, none⟩ (.int .u32 q.c)).setCell ⟨b, 3, none⟩ (.int .u32 q.d)).setCell ⟨b, 4, none⟩ (.int .u32 q.e)).setCell ⟨b, 5, none⟩ (.int .u32 q.f)).setCell ⟨b, 6, none⟩ (.int .u32 q.g)).setCell ⟨b, 7, none⟩ (.int .u32 q.h)) b q B n := by
  refine ⟨h.len, h.rng, ?_⟩
  have h1 := heap_setCell_same _ _ 0 _ _ (.int .u32 q.a) h.blk
  have h2 := heap_setCell_same _ _ 1 _ _ (.int .u32 q.b) h1
  have h3 := heap_setCell_same _ _ 2 _ _ (.int .u32 q.c) h2
  have h4 := heap_setCell_same _ _ 3 _ _ (.int .u32 q.d) h3
  have h5 := heap_setCell_same _ _ 4 _ _ (.int .u32 q.e) h4
  have h6 := heap_setCell_same _ _ 5 _ _ (.int .u32 q.f) h5
  have h7 := heap_setCell_same _ _ 6 _ _ (.int .u32 q.g) h6
  have h8 := heap_setCell_same _ _ 7 _ _ (.int .u32 q.h) h7
  refine h8.trans (congrArg (fun x => some (Obj.cells x 75 (0, 0))) ?_)
  apply Array.ext'
  simp [rowSt, R8.vals]
theorem setWords_kept {w : World} {b : Nat} (q : R8) : Kept (fun k => k = b) w
    ((((((((w.setCell ⟨b, 0, none⟩ (.int .u32 q.a)).setCell ⟨b, 1, none⟩ (.int .u32 q.b)).setCell ⟨b, 2, none⟩ (.int .u32 q.c)).setCell ⟨b, 3, none⟩ (.int .u32 q.d)).setCell ⟨b, 4, none⟩ (.int .u32 q.e)).setCell ⟨b, 5, none⟩ (.int .u32 q.f)).setCell ⟨b, 6, none⟩ (.int .u32 q.g)).setCell ⟨b, 7, none⟩ (.int .u32 q.h)) := by
  have h0 := Kept.refl (fun k => k = b) w
  have h1 := Kept.set1 (b := b) (j := 0) h0 (.int .u32 q.a)
  have h2 := Kept.set1 (b := b) (j := 1) h1 (.int .u32 q.b)
  have h3 := Kept.set1 (b := b) (j := 2) h2 (.int .u32 q.c)
  have h4 := Kept.set1 (b := b) (j := 3) h3 (.int .u32 q.d)
  have h5 := Kept.set1 (b := b) (j := 4) h4 (.int .u32 q.e)
  have h6 := Kept.set1 (b := b) (j := 5) h5 (.int .u32 q.f)
  have h7 := Kept.set1 (b := b) (j := 6) h6 (.int .u32 q.g)
  have h8 := Kept.set1 (b := b) (j := 7) h7 (.int .u32 q.h)
  exact h8
theorem SB.copy {w : World} {b r : Nat} {s : R8} {B X : List Int} {n : Nat} (h : SB w b s B n) (hr : r + X.length ≤ 64) (hX : ∀ y ∈ X, 0 ≤ y ∧ y ≤ 255) :
    SB (w.setRow b ((rowSt s B n).toArray.toList.take (8 + r) ++ (bs X ++ (rowSt s B n).toArray.toList.drop (8 + r + (bs X).length))).toArray) b s (_root_.Go.Proofs.YtogfgcihhnblkaaDoor.blk B r X) n := by
  refine ⟨blk_length h.len hr, ?_, ?_⟩
  · intro y hy
    unfold _root_.Go.Proofs.YtogfgcihhnblkaaDoor.blk at hy
    simp only [List.mem_append] at hy
    rcases hy with hy | hy | hy
    · exact h.rng y (List.mem_of_mem_take hy)
    · exact hX y hy
    · exact h.rng y (List.mem_of_mem_drop hy)
  · rw [setRow_heap _ _ _ _ _ _ h.blk]
    congr 2
    apply Array.ext'
    have hl : s.vals.toList.length = 8 := by simp [R8.vals]
    have hb : (bs B).length = 64 := by rw [bs_length, h.len]
    simp only [rowSt, _root_.Go.Proofs.YtogfgcihhnblkaaDoor.blk, bs_append, bs_take, bs_drop]
    rw [List.take_append, hl, List.take_of_length_le (l := s.vals.toList) (by omega), show 8 + r - 8 = r by omega, List.take_append_of_le_length (by omega), bs_length,
      List.drop_append, hl, List.drop_of_length_le (l := s.vals.toList) (by omega), show 8 + r + X.length - 8 = r + X.length by omega, List.drop_append_of_le_length (by omega)]
    simp

/-- The State in block b has been written m. -/
def Sst (w : World) (b : Nat) (m : List Int) : Prop := ∃ B, SB w b (HB m) B m.length ∧ B.take (m.length % 64) = tailOf m
theorem Sst.later {w w' : World} {b : Nat} {m : List Int} (h : Sst w b m) (hb : w'.heap[b]? = w.heap[b]?) : Sst w' b m := by
  obtain ⟨B, h1, h2⟩ := h; exact ⟨B, h1.later hb, h2⟩
theorem Sst.lt {w : World} {b : Nat} {m : List Int} (h : Sst w b m) : b < w.heap.size := by
  obtain ⟨B, h1, _⟩ := h; exact h1.lt
theorem Sst.short {w : World} {b : Nat} {m X B : List Int} (hr : m.length % 64 + X.length < 64) (hB : B.length = 64) (ht : B.take (m.length % 64) = tailOf m)
    (h : SB w b (HB m) (blk B (m.length % 64) X) (m ++ X).length) : Sst w b (m ++ X) := by
  refine ⟨_, by rw [HB_short hr]; exact h, ?_⟩
  rw [tail_short hr, ← ht, ← blk_take hB (by omega)]
  congr 1
  rw [List.length_append]; omega
theorem Sst.full {w : World} {b : Nat} {m X B : List Int} (hr : m.length % 64 + X.length = 64) (hB : B.length = 64) (ht : B.take (m.length % 64) = tailOf m)
    (h : SB w b (mixF (HB m) (blk B (m.length % 64) X)) (blk B (m.length % 64) X) (m ++ X).length) : Sst w b (m ++ X) := by
  refine ⟨_, by rw [HB_full hr, ← ht, ← blk_full hB hr]; exact h, ?_⟩
  rw [tail_full hr]
  have e : (m ++ X).length % 64 = 0 := by rw [List.length_append]; omega
  rw [e]; rfl

end Go.Proofs.YtogfgcihhnblkaaDoor
