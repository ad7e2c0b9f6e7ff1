/- Texts in one: WireBase, WireWriter, WireWS, WireRdA, WireRdB, WireRdC, LatWmx, LatRmx, LatDmx, LatAwk, LatPrm. -/
import Derived.Test.YtgbadiajdhehpaaMgKB
import Derived.Test.YtgbadiajdhehpaaRows
import Derived.WalkKit
import Derived.WalkSpells
import Derived.WalkLawsBesides
import Derived.Laws.CopyOwn
import Derived.Deep.RegionHeld3
import Derived.Deep.AppendLies
import Derived.Deep.RegionLaw
import Derived.IntWalk
import Derived.Laws.BitsAllLaws
import Derived.Laws.Bits64
import Derived.Deep.QuietTactic
import Derived.BigQuiet
import Derived.Laws.BytesArg
import Derived.Laws.DeepNot64
set_option linter.unusedVariables false
set_option linter.unusedSimpArgs false
/- The contracts of clone and of the Writer of package wire: what each call does to the world. No condition but bounds on sizes. -/
namespace Go.Proofs.Ytgbadiajdhehpaa.Wr
open Go.RowKit

theorem Try.infoU8 : (Try.prog.info? 5).map (fun i => (i.zero, i.size, i.bytes)) = some (some (.int .u8 0), 1, 1) := by kernel_rfl
theorem Try.sizeU8 : (Try.prog.info? 5).map (·.size) = some 1 := by kernel_rfl

/-- The cells of a list of bytes. -/
def bs (l : List Int) : List Value := l.map (Value.int .u8)
theorem bs_length (l : List Int) : (bs l).length = l.length := by simp [bs]
theorem bs_one (l : List Int) : ∀ v ∈ bs l, v.oneCell' = true := by
  intro v hv; simp [bs] at hv; obtain ⟨x, _, rfl⟩ := hv; rfl
theorem bs_append (a b : List Int) : bs (a ++ b) = bs a ++ bs b := by simp [bs]

theorem hid_of {p : Prop} (h : p) : Hid p := h

/-- What make has laid, as a whole block. -/
theorem made_row {w : World} {B g e n : Nat} {z : Value} {xs : List Value} (h : w.ownsRow B e 1 (.slice (some ⟨g, 0, none⟩) n n) n xs) (hx : xs = (madeCells #[z] n).toList := by (first | rfl | simp)) :
    w.heap[g]? = some (.cells (List.replicate n z).toArray e (0, 0)) := by
  obtain ⟨hn0, hn1⟩ := h
  rcases hn1 with ⟨h, _⟩ | ⟨g, cap', cur, h, _, hg, _, _, hsz, ht⟩
  · cases h
  · cases h
    rw [hg]
    have e : cur.toList = (madeCells #[z] n).toList := by
      rw [← hx, ← ht, List.take_of_length_le (by simp [hsz])]
    rw [toList_madeCells_one] at e
    rw [← e]

set_option maxHeartbeats 400000 in
theorem clone_any (ao : Option Addr) (l : List Int) (cap : Nat) (w : World) (hl : l.length ≤ 140737488351232)
    (hpos : 0 < l.length → ∃ ad, ao = some ad ∧ ∀ j v, (bs l)[j]? = some v → w.cell? (ad.add j) = some v) :
    Calls Try.prog 57 #[.slice ao l.length cap] w fun e w' => e = .returned (.slice (some ⟨w.heap.size, 0, none⟩) l.length l.length) ∧
      w'.heap[w.heap.size]? = some (.cells (bs l).toArray 5 (0, 0)) ∧ Below w.heap.size w w' := by
  obtain ⟨i0, hi, hz0, hz1, hz2⟩ := info_parts Try.infoU8
  go_enter Try.func57, Try.ntmps57
  go_wp2_with (first | (at_make; refine wpList_make_full _ rfl _ _ 33 rfl w.heap.size 5 i0 (.int .u8 0) 1 Try.underlying33 hi hz0 hz1 .i64 .i64 l.length l.length l.length rfl rfl rfl rfl ?b2 ?b3 ?b4 ?_))
  case b2 => rw [hz2]; omega
  case b3 => unfold maxLen; omega
  case b4 => exact Nat.le_refl _
  intro w1 hown hgrow
  have hH := made_row hown
  have hb : Below w.heap.size w w1 := (Below.refl _ _).grown hgrow (Nat.le_refl _) (fun k h => by cases h)
  clear hown hgrow
  have hcells : Hid (0 < (bs l).length → ∃ ad, ao = some ad ∧ ∀ j v, (bs l)[j]? = some v → w1.cell? (ad.add j) = some v) := by
    intro h0
    obtain ⟨ad, ha, hc⟩ := hpos (by simpa [bs] using h0)
    refine ⟨ad, ha, fun j v hv => ?_⟩
    have h1 := hc j v hv
    rw [hb.cell (World.block_lt_of_cell? w _ h1)]
    exact h1
  go_wp2_with (with_reducible refine wpList_copy_splice rfl _ _ 33 33 rfl 5 Try.underlying33 Try.sizeU8 (some ⟨w.heap.size, 0, none⟩) ao l.length l.length l.length cap rfl rfl w.heap.size 0 (List.replicate l.length (Value.int .u8 0)) 5 hH (bs l) (by simp [bs]) ?hp ?hf ?h1 w.heap.size w hb (Nat.le_refl _) ?_)
  case hp => exact hcells.out
  case hf => simp [bs]
  case h1 => exact bs_one l
  intro w2 HG2 hB2
  go_wp2
  go_ret
  refine ⟨rfl, ?_, hB2⟩
  have := HG2.out
  rw [this]
  simp [splice, bs]

/-- The Writer in block b holds the bytes l, in the row of v. -/
structure Wst (B b : Nat) (w : World) (v : Value) (l : List Int) : Prop where
  blk : w.heap[b]? = some (.cells #[v] 53 (0, 0))
  own : w.ownsRow B 5 1 v l.length (bs l)

/-- Between w and w' nothing has turned but the blocks of S and new ones. -/
structure Kept (S : Nat → Prop) (w w' : World) : Prop where
  os : w'.os = w.os
  tape : w'.tape = w.tape
  output : w'.output = w.output
  size : w.heap.size ≤ w'.heap.size
  block : ∀ k, k < w.heap.size → ¬ S k → w'.heap[k]? = w.heap[k]?


theorem blk_setCell {w : World} {g k t : Nat} {cur : List Value} {u : Value} (h : w.heap[g]? = some (.cells cur.toArray t (0, 0))) :
    (w.setCell ⟨g, k, none⟩ u).heap[g]? = some (.cells (cur.set k u).toArray t (0, 0)) := by
  have hlt := lt_of_block h
  have h' : w.heap[g] = .cells cur.toArray t (0, 0) := by simpa [Array.getElem?_eq_getElem hlt] using h
  show (w.heap.modify g _)[g]? = _
  rw [Array.getElem?_eq_getElem (by simpa using hlt), Array.getElem_modify_self, h']
  simp

/-- What is owned stays owned where the row's block is as it was. -/
theorem own_same {w w' : World} {base e size n : Nat} {v : Value} {xs : List Value} (h : w.ownsRow base e size v n xs) (hs : ∀ k, v.ownBlock = some k → w'.heap[k]? = w.heap[k]?) : w'.ownsRow base e size v n xs := by
  obtain ⟨h1, h2⟩ := h
  refine ⟨h1, ?_⟩
  rcases h2 with h2 | ⟨g, cap, cur, hv, hb, hg, r⟩
  · exact .inl h2
  · exact .inr ⟨g, cap, cur, hv, hb, (hs g (by rw [hv]; rfl)).trans hg, r⟩

theorem Wst.ne {B b : Nat} {w : World} {v : Value} {l : List Int} (h : Wst B b w v l) : v.ownBlock ≠ some b := by
  intro e
  rcases h.own.2 with ⟨h2, _⟩ | ⟨g, cap, cur, hv, _, hg, _⟩
  · rw [h2] at e; cases e
  · rw [hv] at e
    have : g = b := by simpa [Value.ownBlock] using e
    subst this
    rw [h.blk] at hg; cases hg

theorem Kept.below {S : Nat → Prop} {w w' : World} {B : Nat} (h : Kept S w w') (hB : B ≤ w.heap.size) (hS : ∀ k, S k → B ≤ k) : Below B w w' :=
  ⟨h.os, h.tape, h.output, h.size, fun k hk => h.block k (by omega) (fun hs => by have := hS k hs; omega)⟩

theorem mask_or (m : Nat) (h : m < 18446744073709551616) : bits BinOp.or IntKind.u8 (bits BinOp.and IntKind.u64 (m : Int) 127 % 256) 128 = ((m % 128 + 128 : Nat) : Int) := by
  have h1 : bits BinOp.and IntKind.u64 (m : Int) 127 = ((m % 128 : Nat) : Int) := by
    have := u64_and_nat m 127 h (by omega)
    rw [nat_mask7] at this
    exact_mod_cast this
  rw [h1]
  have h2 : ((m % 128 : Nat) : Int) % 256 = ((m % 128 : Nat) : Int) := by omega
  rw [h2]
  have h3 := u8_or_nat (m % 128) 128 (by omega) (by omega)
  rw [show ((128 : Nat) : Int) = 128 from rfl] at h3
  rw [h3]
  have h4 : m % 128 ||| 128 = 128 + m % 128 := by rw [Nat.or_comm]; exact nat_join 7 128 (m % 128) (by decide) (by omega)
  rw [h4, Nat.add_comm]

theorem take_set {cur : List Value} {k : Nat} {xs : List Value} {u : Value} (hl : k < cur.length) (h : cur.take k = xs) : (cur.set k u).take (k + 1) = xs ++ [u] := by
  rw [List.take_add_one, List.take_set_of_le (Nat.le_refl k), h]
  simp [hl]

set_option maxHeartbeats 1000000 in
theorem uint_any (n : Nat) (b B : Nat) (v : Value) (l : List Int) (w : World) (hn : n < 18446744073709551616) (h : Wst B b w v l) (hl : l.length ≤ 140737488300000) (hB : B ≤ w.heap.size) :
    Calls Try.prog 53 #[.pointer (some ⟨b, 0, none⟩), .int .u64 n] w fun e w' => e = .returned (.tuple #[]) ∧
      ∃ v', Wst B b w' v' (l ++ enc n) ∧ Kept (fun k => k = b ∨ v.ownBlock = some k) w w' ∧ (v'.ownBlock = v.ownBlock ∨ ∀ g, v'.ownBlock = some g → w.heap.size ≤ g) := by
  obtain ⟨i0, hi, hz0, hz1, hz2⟩ := info_parts Try.infoU8
  have hbl := lt_of_block h.blk
  have hbH : b ≠ w.heap.size := by omega
  have hel := enc_length_10 n hn
  go_enter Try.func53, Try.ntmps53
  go_wp2
  go_loopw [1, 5] (fun nv kv wr => ∃ k : Nat, k ≤ 9 ∧ kv = .int .i64 k ∧ nv = .int .u64 ((n / 128 ^ k : Nat) : Int) ∧ Hid (∀ j, j < k → 128 ≤ n / 128 ^ j) ∧ Hid (wr.heap.size = w.heap.size + 1) ∧ Below w.heap.size w wr ∧
      ∃ cur : List Value, Hid (cur.length = 10 ∧ cur.take k = bs (encTake k n)) ∧ wr.heap[w.heap.size]? = some (.cells cur.toArray 92 (0, 0)))
    (fun _ i _ => 10 - (intOf i).toNat)
  case atStart =>
    refine ⟨0, by omega, rfl, by simp, fun j hj => by omega, by simp [Hid], (Below.refl _ _).alloc (Nat.le_refl _) _, List.replicate 10 (.int .u8 0), ⟨rfl, rfl⟩, ?_⟩
    rw [heap_alloc_new]; rfl
  case round =>
    obtain ⟨k, hk, rfl, rfl, hge, hsz, hbel, cur, hcur, hblk⟩ := hrel
    have hc0 : wr.cell? ⟨w.heap.size, k, none⟩ = some (cur.getD k (.int .u8 0)) := by
      have := hcur.out.1
      rw [cell_of_row _ _ _ _ _ _ hblk]
      simp [List.getD, show k < cur.length by omega]
    have hf0 : wr.frozen? ⟨w.heap.size, k, none⟩ = false := by simp [World.frozen?, hblk]
    obtain ⟨m, hm⟩ : ∃ m, m = n / 128 ^ k := ⟨_, rfl⟩
    rw [← hm]
    have hmn : m ≤ n := by rw [hm]; exact Nat.div_le_self _ _
    have HM : Hid (m = n / 128 ^ k) := hm
    have HB : Hid (wr.heap[w.heap.size]? = some (.cells cur.toArray 92 (0, 0))) := hblk
    clear hm hblk
    by_cases hlt : m < 128
    · have hd : decide ((127 : Int) < (m : Int)) = false := by simp; omega
      have hX0 : Hid ((wr.setCell ⟨w.heap.size, k, none⟩ (.int .u8 m)).heap[w.heap.size]? = some (.cells (cur.set k (.int .u8 m)).toArray 92 (0, 0))) := blk_setCell HB.out
      have hX1 : Below w.heap.size w (wr.setCell ⟨w.heap.size, k, none⟩ (.int .u8 m)) := hbel.setCell (Nat.le_refl _) _
      have hX2 : Hid ((wr.setCell ⟨w.heap.size, k, none⟩ (.int .u8 m)).heap.size = w.heap.size + 1) := hid_of (by have := hsz.out; show (wr.heap.modify _ _).size = _; rw [Array.size_modify]; exact this)
      go_wp2
      clear hc0 hf0
      generalize wr.setCell ⟨w.heap.size, k, none⟩ (.int .u8 m) = X at *
      have hXs := hX2.out
      have hXv : X.cell? ⟨b, 0, none⟩ = some v := (hX1.cell (p := ⟨b, 0, none⟩) hbl).trans (cell_of_one h.blk)
      have hXf : X.frozen? ⟨b, 0, none⟩ = false := (hX1.frozen (p := ⟨b, 0, none⟩) hbl).trans (free_of_one h.blk)
      have hXo : X.ownsRow B 5 1 v l.length (bs l) := own_same h.own fun k hk => hX1.block k (h.own.lt k hk).2
      have hnew : Hid (bs (enc n) = (cur.set k (.int .u8 m)).take (k + 1)) := hid_of (by
        obtain ⟨c1, c2⟩ := hcur.out
        rw [take_set (by omega) c2, enc_take k n hge.out, ← HM.out, enc_lt hlt]
        simp [bs])
      have hnl : Hid ((enc n).length = k + 1) := hid_of (by
        obtain ⟨c1, c2⟩ := hcur.out
        have := congrArg List.length hnew.out
        simp [bs, c1] at this
        omega)
      have hnw : ∀ j u, (bs (enc n))[j]? = some u → X.drew.cell? ((⟨w.heap.size, 0, none⟩ : Addr).add j) = some u := by
        intro j u hu
        refine World.news_of_block (cs := (cur.set k (.int .u8 m)).toArray) (t := 92) (fr := (0, 0)) hX0.out j u ?_
        rw [hnew.out, List.getElem?_take] at hu
        split at hu
        · simpa using hu
        · cases hu
      have HNW := hid_of hnw
      clear hnw
      have a1 : IntKind.i64.wrap ((k : Int) + 1) = (k : Int) + 1 := IntWalk.i64_in _ (by omega)
      have a2 : (0 : Int) ≤ (k : Int) + 1 := by omega
      have a3 : (k : Int) + 1 ≤ 10 := by omega
      have a4 : ((k : Int) + 1).toNat = k + 1 := by omega
      go_region_law
        ((refine step_append_lies _ (by rfl) _ _ _ (by rfl) B 5 i0 _ 1 1 Try.underlying33 hi hz0 hz1 hz2 rfl (by omega) v l.length (bs l) (by rfl) (hXo.drew)
            ⟨w.heap.size, 0, none⟩ (k + 1) 10 (bs (enc n)) (by rfl) (by rw [bs_length, hnl.out]; omega) HNW.out (bs_one _)
            (by omega) (by unfold maxLen; omega) (by omega) (by simp; omega) (w.heap.size + 1) (by simp; omega) ?_; intro gg cap w1 hown1 hgrow hat hlt; have k0 : w1.cell? ⟨b, 0, none⟩ = some v := (hgrow.cell_far ⟨b, 0, none⟩ (by simp; omega) (Ne.symm h.ne)).trans hXv; have k1 : w1.frozen? ⟨b, 0, none⟩ = false := (hgrow.frozen_far ⟨b, 0, none⟩ (by simp; omega) (Ne.symm h.ne)).trans hXf))
      go_end0
      refine ⟨rfl, .slice (some ⟨gg, 0, none⟩) (l.length + (k + 1)) cap, ⟨one_setCell (v := v) ?_, ?_⟩, ?_, ?_⟩
      · rw [hgrow.block b (by simp; omega) (Ne.symm h.ne)]
        exact (hX1.block b hbl).trans h.blk
      · have e1 : (l ++ enc n).length = l.length + (k + 1) := by rw [List.length_append, hnl.out]
        rw [e1, bs_append]
        refine ownsRow_setCell_other hown1 ?_ _
        intro e
        have e2 : gg = b := by simpa [Value.ownBlock] using e
        rcases hat with hat | hat
        · rw [e2] at hat; exact h.ne hat
        · omega
      · refine ⟨hgrow.os.trans hX1.os, hgrow.tape.trans hX1.tape, hgrow.output.trans hX1.output, ?_, ?_⟩
        · have e1 := hgrow.size
          have e2 : X.drew.heap.size = X.heap.size := rfl
          show w.heap.size ≤ (w1.heap.modify _ _).size
          rw [Array.size_modify]
          omega
        · intro q hq hS
          rw [Below.heap_setCell _ _ _ _ (fun e => hS (Or.inl e)), hgrow.block q (by simp; omega) (fun e => hS (Or.inr e.symm))]
          exact hX1.block q hq
      · rcases hat with hat | hat
        · exact Or.inl hat.symm
        · refine Or.inr fun g hg => ?_
          have : gg = g := by simpa [Value.ownBlock] using hg
          omega
    · have hk8 : k ≤ 8 := by
        have h1 := HM.out
        rcases Nat.lt_or_ge k 9 with h2 | h2
        · omega
        · obtain rfl : k = 9 := by omega
          have h3 : m = n / 9223372036854775808 := h1
          omega
      have hd : decide ((127 : Int) < (m : Int)) = true := by simp; omega
      have hbits := mask_or m (by omega)
      go_wp2
      go_roundw
      case rel =>
        refine ⟨k + 1, by omega, by go_num, ?_, ?_, ?_, hbel.setCell (Nat.le_refl _) _, cur.set k (.int .u8 ((m % 128 + 128 : Nat) : Int)), ?_, blk_setCell HB.out⟩
        · rw [HM.out, Nat.pow_succ, ← Nat.div_div_eq_div_mul]
          go_num
        · refine hid_of fun j hj => ?_
          rcases Nat.lt_or_ge j k with h1 | h1
          · exact hge.out j h1
          · obtain rfl : j = k := by omega
            rw [← HM.out]; omega
        · refine hid_of ?_
          have := hsz.out
          show (wr.heap.modify _ _).size = _
          rw [Array.size_modify]; exact this
        · obtain ⟨c1, c2⟩ := hcur.out
          refine hid_of ⟨by simpa using c1, ?_⟩
          rw [take_set (by omega) c2, encTake_snoc, HM.out]
          simp [bs]
      case measure => simp [intOf]; omega

end Go.Proofs.Ytgbadiajdhehpaa.Wr

/- The contracts of the Writer's other methods. No condition but bounds on sizes. -/
namespace Go.Proofs.Ytgbadiajdhehpaa.Wr
open Go.RowKit

theorem own_shape {w : World} {base e size n : Nat} {v : Value} {xs : List Value} (h : w.ownsRow base e size v n xs) : ∃ ao cap, v = .slice ao n cap := by
  rcases h.2 with ⟨h1, h2⟩ | ⟨g, cap, cur, h1, _⟩
  · exact ⟨none, 0, by rw [h1, h2]⟩
  · exact ⟨_, cap, h1⟩

/-- What is owned, as cells behind its address. -/
theorem own_src {w : World} {base e n cap : Nat} {ao : Option Addr} {xs : List Value} (h : w.ownsRow base e 1 (.slice ao n cap) n xs) : 0 < n → ∃ ad, ao = some ad ∧ ∀ j u, xs[j]? = some u → w.cell? (ad.add j) = some u := by
  intro h0
  rcases h.2 with ⟨h1, h2⟩ | ⟨g, cap', cur, h1, _⟩
  · omega
  · cases h1
    exact ⟨_, rfl, h.cells rfl⟩

theorem Wst.alloc {B b : Nat} {w : World} {v : Value} {l : List Int} (h : Wst B b w v l) (o : Obj) : Wst B b (w.alloc o) v l :=
  ⟨by rw [Below.heap_alloc _ _ _ (lt_of_block h.blk)]; exact h.blk, h.own.alloc o⟩

/-- What the last store of a Writer's method leaves. -/
theorem wst_store {B b n2 : Nat} {w1 w2 : World} {v1 v2 : Value} {l1 l2 : List Int} (h : Wst B b w1 v1 l1) (hown : w2.ownsRow B 5 1 v2 n2 (bs l2)) (hn : n2 = l2.length) (hg : w1.grownBy w2 v1.ownBlock)
    (hat : v2.ownBlock = v1.ownBlock ∨ v2.ownBlock = some w1.heap.size) :
    Wst B b (w2.setCell ⟨b, 0, none⟩ v2) v2 l2 ∧ Kept (fun k => k = b ∨ v1.ownBlock = some k) w1 (w2.setCell ⟨b, 0, none⟩ v2) ∧ (v2.ownBlock = v1.ownBlock ∨ ∀ g, v2.ownBlock = some g → w1.heap.size ≤ g) := by
  subst hn
  have hbl := lt_of_block h.blk
  have hblk2 : w2.heap[b]? = some (.cells #[v1] 53 (0, 0)) := (hg.block b hbl (Ne.symm h.ne)).trans h.blk
  refine ⟨⟨one_setCell (v := v1) hblk2, ownsRow_setCell_other hown ?_ _⟩, ⟨hg.os, hg.tape, hg.output, ?_, ?_⟩, ?_⟩
  · intro e
    rcases hat with hat | hat
    · rw [hat] at e; exact h.ne e
    · rw [hat] at e
      have : w1.heap.size = b := by simpa using e
      omega
  · show w1.heap.size ≤ (w2.heap.modify _ _).size
    rw [Array.size_modify]; exact hg.size
  · intro q hq hS
    rw [Below.heap_setCell _ _ _ _ (fun e => hS (Or.inl e)), hg.block q hq (fun e => hS (Or.inr e.symm))]
  · rcases hat with hat | hat
    · exact Or.inl hat
    · refine Or.inr fun g hgg => ?_
      rw [hat] at hgg
      have : w1.heap.size = g := by simpa using hgg
      omega

theorem Kept.trans {S T : Nat → Prop} {a b c : World} (h : Kept S a b) (k : Kept T b c) (hST : ∀ q, q < a.heap.size → T q → S q) : Kept S a c :=
  ⟨k.os.trans h.os, k.tape.trans h.tape, k.output.trans h.output, Nat.le_trans h.size k.size, fun q hq hS => (k.block q (by have := h.size; omega) (fun ht => hS (hST q hq ht))).trans (h.block q hq hS)⟩
theorem Kept.of_alloc {S : Nat → Prop} {a c : World} {o : Obj} (k : Kept S (a.alloc o) c) : Kept S a c :=
  ⟨k.os, k.tape, k.output, by have := k.size; simp at this; omega, fun q hq hS => (k.block q (by simp; omega) hS).trans (Below.heap_alloc _ _ _ hq)⟩

/-- The bytes of a string. -/
def strBytes (s : ByteArray) : List Int := s.data.toList.map fun b => (b.toNat : Int)
theorem strBytes_length (s : ByteArray) : (strBytes s).length = s.size := by simp [strBytes]
theorem byteCells_eq (s : ByteArray) : byteCells s = bs (strBytes s) := by simp [byteCells, bs, strBytes]

theorem src_str (s : ByteArray) (w : World) : Src Try.prog 1 9 (.string s) s.size (bs (strBytes s)) w := by
  have := Src.ofString (P := Try.prog) w Try.underlying9 s
  rwa [byteCells_eq] at this
theorem src_slice (ao : Option Addr) (m : List Int) (cap : Nat) (w : World) (h : 0 < m.length → ∃ ad, ao = some ad ∧ ∀ j v, (bs m)[j]? = some v → w.cell? (ad.add j) = some v) (hnil : ao = none → cap = 0) :
    Src Try.prog 1 33 (.slice ao m.length cap) m.length (bs m) w := by
  cases m with
  | nil =>
    cases ao with
    | none => exact Src.ofNil w Try.underlying33 cap
    | some ad => exact Src.ofSlice w Try.underlying33 ad 0 cap [] rfl (fun j u hu => absurd hu (by simp)) (fun u hu => absurd hu (by simp))
  | cons x r =>
    obtain ⟨ad, rfl, hc⟩ := h (by simp)
    exact Src.ofSlice w Try.underlying33 ad _ cap _ (by simp [bs]) hc (bs_one _)

theorem kept_two {b : Nat} {v v1 : Value} {w w1 w2 : World} (h1 : Kept (fun k => k = b ∨ v.ownBlock = some k) w w1) (h2 : Kept (fun k => k = b ∨ v1.ownBlock = some k) w1 w2)
    (ho : v1.ownBlock = v.ownBlock ∨ ∀ g, v1.ownBlock = some g → w.heap.size ≤ g) : Kept (fun k => k = b ∨ v.ownBlock = some k) w w2 :=
  h1.trans h2 fun q hq hT => by
    rcases hT with hT | hT
    · exact Or.inl hT
    · rcases ho with ho | ho
      · exact Or.inr (ho ▸ hT)
      · have := ho q hT; omega
theorem own_two {v v1 v2 : Value} {w w1 : World} (hs : w.heap.size ≤ w1.heap.size) (h1 : v1.ownBlock = v.ownBlock ∨ ∀ g, v1.ownBlock = some g → w.heap.size ≤ g) (h2 : v2.ownBlock = v1.ownBlock ∨ ∀ g, v2.ownBlock = some g → w1.heap.size ≤ g) :
    v2.ownBlock = v.ownBlock ∨ ∀ g, v2.ownBlock = some g → w.heap.size ≤ g := by
  rcases h2 with h2 | h2
  · rw [h2]; exact h1
  · exact Or.inr fun g hg => Nat.le_trans hs (h2 g hg)

set_option maxHeartbeats 400000 in
theorem text_any (s : ByteArray) (b B : Nat) (v : Value) (l : List Int) (w : World) (h : Wst B b w v l) (hs : s.size ≤ 70000000000000) (hl : l.length ≤ 70000000000000) (hB : B ≤ w.heap.size) :
    Calls Try.prog 56 #[.pointer (some ⟨b, 0, none⟩), .string s] w fun e w' => e = .returned (.tuple #[]) ∧
      ∃ v', Wst B b w' v' (l ++ enc s.size ++ strBytes s) ∧ Kept (fun k => k = b ∨ v.ownBlock = some k) w w' ∧ (v'.ownBlock = v.ownBlock ∨ ∀ g, v'.ownBlock = some g → w.heap.size ≤ g) := by
  obtain ⟨i0, hi, hz0, hz1, hz2⟩ := info_parts Try.infoU8
  have hbl := lt_of_block h.blk
  have hel := enc_length_10 s.size (by omega)
  go_enter Try.func56, Try.ntmps56
  go_wp2_with (first
    | (go_at_call 53; refine (uint_any s.size b B v l w (by omega) h (by omega) hB).mono ?_; rintro e w1 ⟨rfl, v1, h1, hk1, ho1⟩; have c0 := cell_of_one h1.blk; have c1 := free_of_one h1.blk; have H1 := hid_of h1; have HK1 := hid_of hk1; have HO1 := hid_of ho1; have hBw : B ≤ w1.heap.size := Nat.le_trans hB hk1.size; clear h1 hk1 ho1)
    | (at_builtin; with_reducible refine wpList_append_src _ rfl _ _ 33 9 rfl B 5 i0 (.int .u8 0) 1 1 Try.underlying33 hi hz0 hz1 hz2 rfl (by decide) v1 (l ++ enc s.size).length (bs (l ++ enc s.size)) rfl H1.out.own (.string s) s.size (bs (strBytes s)) rfl (src_str s _) (by rw [List.length_append]; unfold maxLen; omega) (by rw [List.length_append]; omega) hBw ?_
       intro v2 w2 hown2 hg2 _ hat2
       have k0 : w2.cell? ⟨b, 0, none⟩ = some v1 := (hg2.cell_far ⟨b, 0, none⟩ (lt_of_block H1.out.blk) (Ne.symm H1.out.ne)).trans c0
       have k1 : w2.frozen? ⟨b, 0, none⟩ = false := (hg2.frozen_far ⟨b, 0, none⟩ (lt_of_block H1.out.blk) (Ne.symm H1.out.ne)).trans c1
       have R := hid_of (wst_store (l2 := l ++ enc s.size ++ strBytes s) H1.out (by rw [bs_append _ (strBytes s)]; exact hown2) (by simp [strBytes_length, Nat.add_assoc]) hg2 hat2)
       obtain ⟨ao, cap, rfl⟩ := own_shape hown2
       clear hown2 hg2 hat2 c0 c1))
  go_end0
  obtain ⟨R1, R2, R3⟩ := R.out
  simp only [List.length_append] at R1 R2 R3
  have ho1 := HO1.out
  have hk1 := HK1.out
  exact ⟨rfl, _, R1, kept_two hk1 R2 ho1, own_two hk1.size ho1 R3⟩

/-- Zigzag. -/
def zig (n : Int) : Nat := if 0 ≤ n then (2 * n).toNat else (-2 * n - 1).toNat
theorem zig_lt (n : Int) (h0 : -9223372036854775808 ≤ n) (h1 : n ≤ 9223372036854775807) : zig n < 18446744073709551616 := by
  unfold zig; split <;> omega

theorem xor_ones (x : Nat) (h : x < 18446744073709551616) : 18446744073709551615 ^^^ x = 18446744073709551615 - x := by
  have h1 : (BitVec.allOnes 64 ^^^ BitVec.ofNat 64 x).toNat = (~~~ (BitVec.ofNat 64 x)).toNat := by rw [BitVec.allOnes_xor]
  rw [BitVec.toNat_xor, BitVec.toNat_not, BitVec.toNat_allOnes, BitVec.toNat_ofNat, Nat.mod_eq_of_lt (by omega)] at h1
  simpa using h1

theorem zig_neg (n : Int) (h0 : -9223372036854775808 ≤ n) (h1 : n < 0) : bits BinOp.xor IntKind.u64 (if IntKind.u64.signed = true then -1 else IntKind.u64.max) (IntKind.u64.wrap (IntKind.u64.wrap n * 2)) = (zig n : Int) := by
  have e1 : IntKind.u64.wrap (IntKind.u64.wrap n * 2) = ((2 * n + 18446744073709551616).toNat : Int) := by
    rw [IntKind.wrap_u64, IntKind.wrap_u64]; omega
  have e2 : (if IntKind.u64.signed = true then -1 else IntKind.u64.max) = ((18446744073709551615 : Nat) : Int) := by decide
  rw [e1, e2, bits_xor_u64_nat _ _ (by omega) (by omega), xor_ones _ (by omega)]
  unfold zig
  rw [if_neg (by omega)]
  omega

theorem zig_pos (n : Int) (h1 : ¬ n < 0) : n * 2 = (zig n : Int) := by
  unfold zig; rw [if_pos (by omega)]; omega

set_option maxHeartbeats 400000 in
theorem int_any (n : Int) (b B : Nat) (v : Value) (l : List Int) (w : World) (h0 : -9223372036854775808 ≤ n) (h1 : n ≤ 9223372036854775807) (h : Wst B b w v l) (hl : l.length ≤ 70000000000000) (hB : B ≤ w.heap.size) :
    Calls Try.prog 54 #[.pointer (some ⟨b, 0, none⟩), .int .i64 n] w fun e w' => e = .returned (.tuple #[]) ∧
      ∃ v', Wst B b w' v' (l ++ enc (zig n)) ∧ Kept (fun k => k = b ∨ v.ownBlock = some k) w w' ∧ (v'.ownBlock = v.ownBlock ∨ ∀ g, v'.ownBlock = some g → w.heap.size ≤ g) := by
  have hz := zig_lt n h0 h1
  by_cases hn : n < 0
  · have HZ := hid_of (zig_neg n h0 hn)
    go_enter Try.func54, Try.ntmps54
    go_wp2_with (go_at_call 53; rw [HZ.out]; refine (uint_any (zig n) b B v l w hz h (by omega) hB).mono ?_; rintro e w1 ⟨rfl, v1, h1, hk1, ho1⟩; have R := hid_of (And.intro h1 (And.intro hk1 ho1)); clear h1 hk1 ho1)
    go_end0
    exact ⟨rfl, v1, R.out⟩
  · have HZ := hid_of (zig_pos n hn)
    go_enter Try.func54, Try.ntmps54
    go_wp2_with (go_at_call 53; rw [HZ.out]; refine (uint_any (zig n) b B v l w hz h (by omega) hB).mono ?_; rintro e w1 ⟨rfl, v1, h1, hk1, ho1⟩; have R := hid_of (And.intro h1 (And.intro hk1 ho1)); clear h1 hk1 ho1)
    go_end0
    exact ⟨rfl, v1, R.out⟩

set_option maxHeartbeats 400000 in
theorem data_any (b B : Nat) (v : Value) (l : List Int) (w : World) (h : Wst B b w v l) (hl : l.length ≤ 140737488351232) :
    Calls Try.prog 38 #[.pointer (some ⟨b, 0, none⟩)] w fun e w' => e = .returned (.slice (some ⟨w.heap.size, 0, none⟩) l.length l.length) ∧
      w'.heap[w.heap.size]? = some (.cells (bs l).toArray 5 (0, 0)) ∧ Below w.heap.size w w' := by
  obtain ⟨ao, cap, rfl⟩ := own_shape h.own
  have c0 := cell_of_one h.blk
  have hsrc := hid_of (own_src h.own)
  go_enter Try.func38, Try.ntmps38
  go_wp2_with (go_at_call 57; refine (clone_any ao l cap w hl hsrc.out).mono ?_; rintro e w1 ⟨rfl, h1, h2⟩; have H1 := hid_of h1; clear h1)
  go_ret
  exact ⟨rfl, H1.out, h2⟩

end Go.Proofs.Ytgbadiajdhehpaa.Wr

/- The Writer as a whole. No condition but bounds on sizes. -/
namespace Go.Proofs.Ytgbadiajdhehpaa.Wr
open Go.RowKit

/-- The Writer in block b holds l; below B the world is as w0 was. -/
def WS (B b : Nat) (w0 w : World) (l : List Int) : Prop := B ≤ b ∧ B ≤ w0.heap.size ∧ Below B w0 w ∧ ∃ v, Wst B b w v l

theorem WS.size {B b : Nat} {w0 w : World} {l : List Int} (h : WS B b w0 w l) : B ≤ w.heap.size := Nat.le_trans h.2.1 h.2.2.1.size
theorem WS.step {B b : Nat} {w0 w w' : World} {v v' : Value} {l l' : List Int} (h1 : B ≤ b) (h2 : B ≤ w0.heap.size) (h3 : Below B w0 w) (hv : Wst B b w v l) (hv' : Wst B b w' v' l') (hk : Kept (fun k => k = b ∨ v.ownBlock = some k) w w') : WS B b w0 w' l' :=
  ⟨h1, h2, h3.trans (hk.below (Nat.le_trans h2 h3.size) (fun k hk => hk.elim (fun e => by omega) (fun e => (hv.own.lt k e).1))), v', hv'⟩

theorem uint_ws (n : Nat) (b B : Nat) (l : List Int) (w0 w : World) (hn : n < 18446744073709551616) (h : WS B b w0 w l) (hl : l.length ≤ 140737488300000) :
    Calls Try.prog 53 #[.pointer (some ⟨b, 0, none⟩), .int .u64 n] w fun e w' => e = .returned (.tuple #[]) ∧ WS B b w0 w' (l ++ enc n) := by
  have hB := h.size
  obtain ⟨h1, h2, h3, v, hv⟩ := h
  exact (uint_any n b B v l w hn hv hl hB).mono fun e w' ⟨he, v', hv', hk, _⟩ => ⟨he, WS.step h1 h2 h3 hv hv' hk⟩
theorem int_ws (n : Int) (b B : Nat) (l : List Int) (w0 w : World) (n0 : -9223372036854775808 ≤ n) (n1 : n ≤ 9223372036854775807) (h : WS B b w0 w l) (hl : l.length ≤ 70000000000000) :
    Calls Try.prog 54 #[.pointer (some ⟨b, 0, none⟩), .int .i64 n] w fun e w' => e = .returned (.tuple #[]) ∧ WS B b w0 w' (l ++ enc (zig n)) := by
  have hB := h.size
  obtain ⟨h1, h2, h3, v, hv⟩ := h
  exact (int_any n b B v l w n0 n1 hv hl hB).mono fun e w' ⟨he, v', hv', hk, _⟩ => ⟨he, WS.step h1 h2 h3 hv hv' hk⟩
theorem text_ws (s : ByteArray) (b B : Nat) (l : List Int) (w0 w : World) (hs : s.size ≤ 70000000000000) (h : WS B b w0 w l) (hl : l.length ≤ 70000000000000) :
    Calls Try.prog 56 #[.pointer (some ⟨b, 0, none⟩), .string s] w fun e w' => e = .returned (.tuple #[]) ∧ WS B b w0 w' (l ++ enc s.size ++ strBytes s) := by
  have hB := h.size
  obtain ⟨h1, h2, h3, v, hv⟩ := h
  exact (text_any s b B v l w hv hs hl hB).mono fun e w' ⟨he, v', hv', hk, _⟩ => ⟨he, WS.step h1 h2 h3 hv hv' hk⟩
theorem data_ws (b B : Nat) (l : List Int) (w0 w : World) (h : WS B b w0 w l) (hl : l.length ≤ 140737488351232) :
    Calls Try.prog 38 #[.pointer (some ⟨b, 0, none⟩)] w fun e w' => e = .returned (.slice (some ⟨w.heap.size, 0, none⟩) l.length l.length) ∧
      w'.heap[w.heap.size]? = some (.cells (bs l).toArray 5 (0, 0)) ∧ WS B b w0 w' l := by
  obtain ⟨h1, h2, h3, v, hv⟩ := h
  refine (data_any b B v l w hv hl).mono fun e w' ⟨he, hr, hb⟩ => ⟨he, hr, h1, h2, h3.trans (hb.mono (Nat.le_trans h2 h3.size)), v, ?_⟩
  exact ⟨(hb.block b (lt_of_block hv.blk)).trans hv.blk, own_same hv.own fun k hk => hb.block k (hv.own.lt k hk).2⟩

theorem ws_new (w : World) : WS w.heap.size w.heap.size w (w.alloc (.cells #[.slice none 0 0] 53)) [] :=
  ⟨Nat.le_refl _, Nat.le_refl _, (Below.refl _ _).alloc (Nat.le_refl _) _, .slice none 0 0, ⟨heap_alloc_new _ _, World.ownsRow_nil _ _ _ _⟩⟩

/-- A row, as cells behind its address. -/
theorem row_src {w : World} {g : Nat} {l : List Int} (h : w.heap[g]? = some (.cells (bs l).toArray 5 (0, 0))) : 0 < l.length → ∃ ad, (some (⟨g, 0, none⟩ : Addr)) = some ad ∧ ∀ j v, (bs l)[j]? = some v → w.cell? (ad.add j) = some v :=
  fun _ => ⟨_, rfl, fun j v hv => World.news_of_block h j v (by simpa using hv)⟩

end Go.Proofs.Ytgbadiajdhehpaa.Wr

/- The contracts of the Reader of package wire. No condition but bounds on sizes. -/
namespace Go.Proofs.Ytgbadiajdhehpaa.Wr
open Go.RowKit

/-- May a number end with the group g at place i? -/
def mayEnd (i : Nat) (g : Int) : Bool := decide (i = 0) || (decide (g ≠ 0) && (decide (i < 9) || decide (g = 1)))

/-- Reading a number from place i on: what was read so far is acc. -/
def decAt : Nat → Nat → Nat → List Int → Option (Nat × Nat)
  | 0, _, _, _ => none
  | _ + 1, _, _, [] => none
  | f + 1, i, acc, g :: r => if 128 ≤ g then decAt f (i + 1) (acc + (g - 128).toNat * 128 ^ i) r else if mayEnd i g then some (acc + g.toNat * 128 ^ i, i + 1) else none
def dec (l : List Int) : Option (Nat × Nat) := decAt 10 0 0 l

/-- The Reader in block b, its bytes in block g. -/
structure Rst (w : World) (b g : Nat) (d : List Int) (off last : Nat) (err : Int) : Prop where
  blk : w.heap[b]? = some (.cells #[.slice (some ⟨g, 0, none⟩) d.length d.length, .int .i64 off, .int .i64 last, .int .i64 err] 77 (0, 0))
  row : w.heap[g]? = some (.cells (bs d).toArray 5 (0, 0))
  rng : ∀ x ∈ d, 0 ≤ x ∧ x ≤ 255
  le : off ≤ d.length
  small : d.length ≤ 140737488351232

theorem Rst.c0 {w : World} {b g off last : Nat} {d : List Int} {err : Int} (h : Rst w b g d off last err) : w.cell? ⟨b, 0, none⟩ = some (.slice (some ⟨g, 0, none⟩) d.length d.length) := by rw [cell_of_row _ _ _ _ _ _ h.blk]; rfl
theorem Rst.c1 {w : World} {b g off last : Nat} {d : List Int} {err : Int} (h : Rst w b g d off last err) : w.cell? ⟨b, 1, none⟩ = some (.int .i64 off) := by rw [cell_of_row _ _ _ _ _ _ h.blk]; rfl
theorem Rst.c2 {w : World} {b g off last : Nat} {d : List Int} {err : Int} (h : Rst w b g d off last err) : w.cell? ⟨b, 2, none⟩ = some (.int .i64 last) := by rw [cell_of_row _ _ _ _ _ _ h.blk]; rfl
theorem Rst.c3 {w : World} {b g off last : Nat} {d : List Int} {err : Int} (h : Rst w b g d off last err) : w.cell? ⟨b, 3, none⟩ = some (.int .i64 err) := by rw [cell_of_row _ _ _ _ _ _ h.blk]; rfl
theorem Rst.free {w : World} {b g off last : Nat} {d : List Int} {err : Int} (h : Rst w b g d off last err) (j : Nat) : w.frozen? ⟨b, j, none⟩ = false := by simp [World.frozen?, h.blk]
theorem Rst.byte {w : World} {b g off last : Nat} {d : List Int} {err : Int} (h : Rst w b g d off last err) {j : Nat} (hj : j < d.length) : w.cell? ⟨g, j, none⟩ = some (.int .u8 d[j]) := by
  rw [cell_of_row _ _ _ _ _ _ h.row]; simp [bs, hj]
theorem Rst.drewN {w : World} {b g off last : Nat} {d : List Int} {err : Int} (h : Rst w b g d off last err) (m : Nat) : Rst (w.drewN m) b g d off last err := ⟨h.blk, h.row, h.rng, h.le, h.small⟩

set_option maxHeartbeats 400000 in
theorem mayEnd_any (i : Nat) (g : Int) (w : World) (hi : i < 10) (h0 : 0 ≤ g) (h1 : g ≤ 255) :
    Calls Try.prog 85 #[.int .i64 i, .int .u8 g] w fun e w' => e = .returned (.bool (mayEnd i g)) ∧ w = w' := by
  by_cases h2 : i = 0
  · subst h2
    go_enter Try.func85, Try.ntmps85
    go_wp2
    go_ret
    exact ⟨rfl, rfl⟩
  · have hb : ((i : Int) == 0) = false := by simp; omega
    by_cases h3 : g = 0
    · subst h3
      go_enter Try.func85, Try.ntmps85
      go_wp2
      go_ret
      exact ⟨by simp [mayEnd, h2], rfl⟩
    · have hb3 : (g != 0) = true := by simp; omega
      by_cases h4 : i < 9
      · have hb4 : decide ((i : Int) < 9) = true := by simp; omega
        go_enter Try.func85, Try.ntmps85
        go_wp2
        go_ret
        exact ⟨by simp [mayEnd, h2, h3, h4], rfl⟩
      · have hb4 : decide ((i : Int) < 9) = false := by simp; omega
        go_enter Try.func85, Try.ntmps85
        go_wp2
        go_ret
        exact ⟨by simp [mayEnd, h2, h3, h4]; rfl, rfl⟩

/-- What number returns. -/
def numRes (off : Nat) : Option (Nat × Nat) → Value
  | some (n, k) => .tuple #[.int .u64 n, .int .i64 ((off + k : Nat) : Int), .bool true]
  | none => .tuple #[.int .u64 0, .int .i64 0, .bool false]

theorem ret3_num {a b c d : Int} (h1 : a = b) (h2 : c = d) : Ending.returned (.tuple #[.int .u64 a, .int .i64 c, .bool true]) = Ending.returned (.tuple #[.int .u64 b, .int .i64 d, .bool true]) := by rw [h1, h2]

def Drew (w w' : World) : Prop := ∃ m, w' = w.drewN m

theorem or_form (x i : Nat) (y : Int) (h0 : 0 ≤ y) (h1 : y ≤ 255) (hx : x < 18446744073709551616) :
    bits BinOp.or IntKind.u64 (x : Int) (IntKind.u64.wrap (IntKind.u64.wrap (bits BinOp.and IntKind.u8 y 127) * 2 ^ (7 * i))) = ((x ||| (y.toNat % 128 * 2 ^ (7 * i) % 18446744073709551616) : Nat) : Int) := by
  have e1 : bits BinOp.and IntKind.u8 y 127 = ((y.toNat % 128 : Nat) : Int) := by
    have := u8_and y 127 h0 (by omega) (by omega) (by omega)
    rw [show (127 : Int).toNat = 127 from rfl, nat_mask7] at this
    exact this
  have e2 : IntKind.u64.wrap (IntKind.u64.wrap ((y.toNat % 128 : Nat) : Int) * 2 ^ (7 * i)) = ((y.toNat % 128 * 2 ^ (7 * i) % 18446744073709551616 : Nat) : Int) := by
    have hz : y.toNat % 128 < 128 := Nat.mod_lt _ (by decide)
    generalize y.toNat % 128 = z at hz
    rw [IntKind.wrap_u64, IntKind.wrap_u64]
    have e3 : (z : Int) % 18446744073709551616 = (z : Int) := by omega
    rw [e3]
    simp only [Int.natCast_emod, Int.natCast_mul, Int.natCast_pow]
    rfl
  rw [e1, e2]
  exact u64_or_nat _ _ hx (Nat.mod_lt _ (by decide))

theorem or_val (x z i : Nat) (hx : x < 128 ^ i) (hz : z * 128 ^ i < 18446744073709551616) : x ||| (z * 2 ^ (7 * i) % 18446744073709551616) = x + z * 128 ^ i := by
  have e : 2 ^ (7 * i) = 128 ^ i := by rw [Nat.pow_mul]
  rw [e, Nat.mod_eq_of_lt hz, Nat.or_comm, Nat.add_comm]
  rw [← e] at hx ⊢
  exact nat_join (7 * i) _ _ (Nat.mul_mod_left _ _) hx

theorem or_lt (x i : Nat) (z : Nat) (hx : x < 18446744073709551616) : x ||| (z * 2 ^ (7 * i) % 18446744073709551616) < 18446744073709551616 :=
  Nat.or_lt_two_pow (n := 64) hx (Nat.mod_lt _ (by decide))

theorem pow_le9 (i : Nat) (h : i ≤ 8) : 128 ^ (i + 1) ≤ 9223372036854775808 := by
  have : 128 ^ (i + 1) ≤ 128 ^ 9 := Nat.pow_le_pow_right (by decide) (by omega)
  exact this

theorem decAt_nil (i acc : Nat) (h : i < 10) : decAt (10 - i) i acc [] = none := by
  obtain ⟨f, hf⟩ : ∃ f, 10 - i = f + 1 := ⟨9 - i, by omega⟩
  rw [hf]; rfl
theorem decAt_cons (i acc : Nat) (y : Int) (r : List Int) (h : i < 10) :
    decAt (10 - i) i acc (y :: r) = if 128 ≤ y then decAt (10 - (i + 1)) (i + 1) (acc + (y - 128).toNat * 128 ^ i) r else if mayEnd i y then some (acc + y.toNat * 128 ^ i, i + 1) else none := by
  obtain ⟨f, hf⟩ : ∃ f, 10 - i = f + 1 := ⟨9 - i, by omega⟩
  have hf2 : 10 - (i + 1) = f := by omega
  rw [hf, hf2]; rfl
theorem drop_at {d : List Int} {k : Nat} {y : Int} (h : k < d.length) (hy : y = d[k]) : d.drop k = y :: d.drop (k + 1) := by
  rw [List.drop_eq_getElem_cons h, hy]

set_option maxHeartbeats 1000000 in
theorem number_any (b g off last : Nat) (d : List Int) (err : Int) (w : World) (h : Rst w b g d off last err) :
    Calls Try.prog 75 #[.pointer (some ⟨b, 0, none⟩)] w fun e w' => e = .returned (numRes off (dec (d.drop off))) ∧ Drew w w' := by
  have c0 := h.c0
  have c1 := h.c1
  have hsm := h.small
  have hle := h.le
  by_cases he : off = d.length
  · subst he
    go_enter Try.func75, Try.ntmps75
    go_wp2
    go_quiet (fail)
    go_wp2
    refine wp_loop_rounds 1 ?_
    rw [rounds_succ]
    go_wp2
    go_ret3
    refine ⟨?_, nq, rfl⟩
    rw [List.drop_length]; rfl
  · have b1 : (0 : Int) ≤ (off : Int) := by omega
    have b2 : (off : Int) ≤ (d.length : Int) := by omega
    have b3 : ¬ d.length = off := by omega
    go_enter Try.func75, Try.ntmps75
    go_wp2
    go_quiet (fail)
    go_wp2
    go_loop [6, 18] (fun nv iv => ∃ i acc x : Nat, i ≤ 10 ∧ iv = .int .i64 i ∧ nv = .int .u64 x ∧ Hid (dec (d.drop off) = decAt (10 - i) i acc (d.drop (off + i))) ∧ Hid (off + i ≤ d.length ∧ acc < 128 ^ i ∧ x < 18446744073709551616 ∧ (i ≤ 9 → x = acc)))
      (fun _ i => 10 - (intOf i).toNat)
    case atStart => exact ⟨0, 0, 0, by omega, rfl, rfl, hid_of rfl, hid_of ⟨by omega, by decide, by omega, fun _ => rfl⟩⟩
    case round =>
      obtain ⟨i, acc, x, hi, rfl, rfl, hdec, hinv⟩ := hrel
      have hinv1 := hinv.out.1
      by_cases hlt : i < 10
      · by_cases hend : off + i = d.length
        · have hee : ((i : Int) == ((d.length - off : Nat) : Int)) = true := by simp; omega
          go_wp2
          go_ret3
          refine ⟨?_, nq, rfl⟩
          rw [hdec.out, hend, List.drop_length, decAt_nil i acc hlt]; rfl
        · have hee : ((i : Int) == ((d.length - off : Nat) : Int)) = false := by simp; omega
          have hcell := h.byte (j := off + i) (by omega)
          obtain ⟨y, hy⟩ : ∃ y, y = d[off + i]'(by omega) := ⟨_, rfl⟩
          rw [← hy] at hcell
          have hy0 := h.rng y (by rw [hy]; exact List.getElem_mem _)
          have HY := hid_of hy
          clear hy
          by_cases h128 : 128 ≤ y
          · have hz : y.toNat % 128 = (y - 128).toNat := by omega
            go_wp2
            go_round
            case rel =>
              obtain ⟨i1, i2, i3, i4⟩ := hinv.out
              refine ⟨i + 1, acc + (y - 128).toNat * 128 ^ i, x ||| (y.toNat % 128 * 2 ^ (7 * i) % 18446744073709551616), by omega, by go_num, ?_, hid_of ?_, hid_of ⟨by omega, ?_, or_lt _ _ _ i3, fun h9 => ?_⟩⟩
              · rw [or_form x i y hy0.1 hy0.2 i3]
              · rw [hdec.out, drop_at (by omega) HY.out, decAt_cons i acc y _ hlt, if_pos h128]; rfl
              · rw [Nat.pow_succ]
                have : (y - 128).toNat * 128 ^ i ≤ 127 * 128 ^ i := Nat.mul_le_mul_right _ (by omega)
                omega
              · rw [i4 (by omega), hz]
                refine or_val _ _ _ i2 ?_
                have h1 := pow_le9 i (by omega)
                rw [Nat.pow_succ] at h1
                have : (y - 128).toNat * 128 ^ i ≤ 127 * 128 ^ i := Nat.mul_le_mul_right _ (by omega)
                omega
            case measure => simp [intOf]; omega
          · have hdec2 : Hid (dec (d.drop off) = if mayEnd i y then some (acc + y.toNat * 128 ^ i, i + 1) else none) := hid_of (by
              rw [hdec.out, drop_at (by omega) HY.out, decAt_cons i acc y _ hlt, if_neg h128])
            cases hm : mayEnd i y
            · have HM := hid_of hm
              clear hm
              go_wp2_with (go_at_call 85; refine (mayEnd_any i y _ hlt hy0.1 hy0.2).mono ?_; rintro e w' ⟨rfl, rfl⟩; rw [HM.out])
              go_ret3
              refine ⟨?_, nq, rfl⟩
              rw [hdec2.out, HM.out]; rfl
            · have HM := hid_of hm
              clear hm
              have a1 : IntKind.i64.wrap ((off : Int) + (i : Int)) = (off : Int) + (i : Int) := IntWalk.i64_in _ (by omega)
              have a2 : IntKind.i64.wrap ((off : Int) + (i : Int) + 1) = (off : Int) + (i : Int) + 1 := IntWalk.i64_in _ (by omega)
              go_wp2_with (go_at_call 85; refine (mayEnd_any i y _ hlt hy0.1 hy0.2).mono ?_; rintro e w' ⟨rfl, rfl⟩; rw [HM.out])
              go_quiet (fail)
              go_wp2
              go_ret3
              refine ⟨?_, _, (World.drewN_drewN _ _ _)⟩
              obtain ⟨i1, i2, i3, i4⟩ := hinv.out
              rw [hdec2.out, HM.out]
              have hz : y.toNat % 128 = y.toNat := by omega
              have hzl : y.toNat * 128 ^ i < 18446744073709551616 := by
                rcases Nat.lt_or_ge i 9 with h9 | h9
                · have h1 := pow_le9 i (by omega)
                  rw [Nat.pow_succ] at h1
                  have : y.toNat * 128 ^ i ≤ 127 * 128 ^ i := Nat.mul_le_mul_right _ (by omega)
                  omega
                · obtain rfl : i = 9 := by omega
                  have hm := HM.out
                  simp [mayEnd] at hm
                  obtain ⟨_, rfl⟩ := hm
                  decide
              refine ret3_num ?_ (by omega)
              rw [or_form x i y hy0.1 hy0.2 i3, i4 (by omega), hz, or_val _ _ _ i2 hzl]
      · go_wp2
        go_ret3
        refine ⟨?_, nq, rfl⟩
        obtain rfl : i = 10 := by omega
        rw [hdec.out]; rfl

theorem Kept.refl (S : Nat → Prop) (w : World) : Kept S w w := ⟨rfl, rfl, rfl, Nat.le_refl _, fun _ _ _ => rfl⟩
theorem Kept.drewN {S : Nat → Prop} {a b : World} (h : Kept S a b) (m : Nat) : Kept S a (b.drewN m) := ⟨h.os, h.tape, h.output, h.size, h.block⟩
theorem Kept.ofDrewN {S : Nat → Prop} {a b : World} {m : Nat} (h : Kept S (a.drewN m) b) : Kept S a b := ⟨h.os, h.tape, h.output, h.size, h.block⟩
theorem Kept.setCell {S : Nat → Prop} {a b : World} (h : Kept S a b) {p : Addr} (hp : S p.block) (u : Value) : Kept S a (b.setCell p u) :=
  ⟨h.os, h.tape, h.output, by show a.heap.size ≤ (b.heap.modify _ _).size; rw [Array.size_modify]; exact h.size, fun k hk hS => (Below.heap_setCell _ _ _ _ (fun e => hS (by rw [e]; exact hp))).trans (h.block k hk hS)⟩
theorem Kept.mono {S T : Nat → Prop} {a b : World} (h : Kept S a b) (hST : ∀ k, S k → T k) : Kept T a b := ⟨h.os, h.tape, h.output, h.size, fun k hk hT => h.block k hk (fun hs => hT (hST k hs))⟩

theorem Rst.gne {w : World} {b g off last : Nat} {d : List Int} {err : Int} (h : Rst w b g d off last err) : g ≠ b := by
  intro e
  have := h.row
  rw [e, h.blk] at this
  simp at this
theorem Rst.glt {w : World} {b g off last : Nat} {d : List Int} {err : Int} (h : Rst w b g d off last err) : g < w.heap.size := lt_of_block h.row
theorem Rst.blt {w : World} {b g off last : Nat} {d : List Int} {err : Int} (h : Rst w b g d off last err) : b < w.heap.size := lt_of_block h.blk

/-- A Reader whose own block and row are as they were. -/
theorem Rst.same {w w' : World} {b g off last : Nat} {d : List Int} {err : Int} (h : Rst w b g d off last err) (hb : w'.heap[b]? = w.heap[b]?) (hg : w'.heap[g]? = w.heap[g]?) : Rst w' b g d off last err :=
  ⟨hb.trans h.blk, hg.trans h.row, h.rng, h.le, h.small⟩

/-- What two stores into the Reader's block leave. -/
theorem Rst.set2 {w : World} {b g off last : Nat} {d : List Int} {err : Int} (h : Rst w b g d off last err) {j1 j2 : Nat} {u1 u2 : Value} {off' last' : Nat} {err' : Int}
    (he : (([.slice (some ⟨g, 0, none⟩) d.length d.length, .int .i64 off, .int .i64 last, .int .i64 err] : List Value).set j1 u1).set j2 u2 = [.slice (some ⟨g, 0, none⟩) d.length d.length, .int .i64 off', .int .i64 last', .int .i64 err'])
    (hle : off' ≤ d.length) : Rst ((w.setCell ⟨b, j1, none⟩ u1).setCell ⟨b, j2, none⟩ u2) b g d off' last' err' ∧ Kept (fun k => k = b) w ((w.setCell ⟨b, j1, none⟩ u1).setCell ⟨b, j2, none⟩ u2) ∧
      ((w.setCell ⟨b, j1, none⟩ u1).setCell ⟨b, j2, none⟩ u2).heap.size = w.heap.size := by
  have hb := blk_setCell (k := j2) (u := u2) (blk_setCell (k := j1) (u := u1) (g := b) (cur := [.slice (some ⟨g, 0, none⟩) d.length d.length, .int .i64 off, .int .i64 last, .int .i64 err]) h.blk)
  rw [he] at hb
  refine ⟨⟨hb, ?_, h.rng, hle, h.small⟩, (Kept.setCell (p := ⟨b, j1, none⟩) (Kept.refl (fun k => k = b) w) rfl u1).setCell (p := ⟨b, j2, none⟩) rfl u2, ?_⟩
  · rw [Below.heap_setCell _ _ _ _ h.gne, Below.heap_setCell _ _ _ _ h.gne]; exact h.row
  · simp [World.setCell]

/-- The Reader has gone from w to w'. -/
def RTo (w w' : World) (b g : Nat) (d : List Int) (off last : Nat) (err : Int) : Prop :=
  Rst w' b g d off last err ∧ Kept (fun k => k = b) w w' ∧ w'.heap.size = w.heap.size

theorem RTo.ofDrewN {w w' : World} {b g off last m : Nat} {d : List Int} {err : Int} (h : RTo (w.drewN m) w' b g d off last err) : RTo w w' b g d off last err := ⟨h.1, h.2.1.ofDrewN, h.2.2⟩
theorem RTo.drewN {w w' : World} {b g off last m : Nat} {d : List Int} {err : Int} (h : RTo w w' b g d off last err) : RTo w (w'.drewN m) b g d off last err := ⟨h.1.drewN m, h.2.1.drewN m, h.2.2⟩

set_option maxHeartbeats 400000 in
theorem settle_ok (b g off last en : Nat) (d : List Int) (w : World) (h : Rst w b g d off last 0) (hen : en ≤ d.length) :
    Calls Try.prog 76 #[.pointer (some ⟨b, 0, none⟩), .int .i64 en, .bool true] w fun e w' => e = .returned (.bool true) ∧ RTo w w' b g d en off 0 := by
  have c1 := h.c1
  have c2 := h.c2
  have c3 := h.c3
  have f1 := h.free 1
  have f2 := h.free 2
  have R := hid_of (h.set2 (j1 := 2) (j2 := 1) (u1 := .int .i64 off) (u2 := .int .i64 en) (off' := en) (last' := off) (err' := 0) rfl hen)
  go_enter Try.func76, Try.ntmps76
  go_wp2
  go_ret
  exact ⟨rfl, R.out⟩

set_option maxHeartbeats 400000 in
theorem settle_bad (b g off last : Nat) (en : Int) (d : List Int) (w : World) (h : Rst w b g d off last 0) :
    Calls Try.prog 76 #[.pointer (some ⟨b, 0, none⟩), .int .i64 en, .bool false] w fun e w' => e = .returned (.bool false) ∧ RTo w w' b g d off off 2 := by
  have c1 := h.c1
  have c2 := h.c2
  have c3 := h.c3
  have f2 := h.free 2
  have f3 := h.free 3
  have R := hid_of (h.set2 (j1 := 2) (j2 := 3) (u1 := .int .i64 off) (u2 := .int .i64 2) (off' := off) (last' := off) (err' := 2) rfl h.le)
  go_enter Try.func76, Try.ntmps76
  go_wp2
  go_ret
  exact ⟨rfl, R.out⟩

set_option maxHeartbeats 400000 in
theorem settle_dead (b g off last : Nat) (en : Int) (ok : Bool) (d : List Int) (w : World) (h : Rst w b g d off last 2) :
    Calls Try.prog 76 #[.pointer (some ⟨b, 0, none⟩), .int .i64 en, .bool ok] w fun e w' => e = .returned (.bool false) ∧ RTo w w' b g d off last 2 := by
  have c3 := h.c3
  have R := hid_of h
  go_enter Try.func76, Try.ntmps76
  go_wp2
  go_ret
  exact ⟨rfl, R.out, Kept.refl _ _, rfl⟩

/-! What a number that was read says. -/
theorem decAt_bound : ∀ (f i acc : Nat) (l : List Int) (n k : Nat), f + i = 10 → acc < 128 ^ i → (∀ x ∈ l, 0 ≤ x ∧ x ≤ 255) → decAt f i acc l = some (n, k) → i < k ∧ k ≤ i + l.length ∧ k ≤ 10 ∧ n < 18446744073709551616 := by
  intro f
  induction f with
  | zero => intro i acc l n k _ _ _ h; cases h
  | succ f ih =>
    intro i acc l n k hf ha hr h
    cases l with
    | nil => cases h
    | cons y r =>
      have hy := hr y (by simp)
      rw [decAt] at h
      split at h
      · have hl : acc + (y - 128).toNat * 128 ^ i < 128 ^ (i + 1) := by
          rw [Nat.pow_succ]
          have : (y - 128).toNat * 128 ^ i ≤ 127 * 128 ^ i := Nat.mul_le_mul_right _ (by omega)
          omega
        have := ih (i + 1) _ r n k (by omega) hl (fun x hx => hr x (by simp [hx])) h
        simp only [List.length_cons]
        omega
      · split at h
        · rename_i h1 h2
          simp only [Option.some.injEq, Prod.mk.injEq] at h
          obtain ⟨rfl, rfl⟩ := h
          refine ⟨by omega, by simp, by omega, ?_⟩
          rcases Nat.lt_or_ge i 9 with h9 | h9
          · have h3 := pow_le9 i (by omega)
            rw [Nat.pow_succ] at h3
            have : y.toNat * 128 ^ i ≤ 127 * 128 ^ i := Nat.mul_le_mul_right _ (by omega)
            omega
          · obtain rfl : i = 9 := by omega
            simp [mayEnd] at h2
            obtain ⟨_, rfl⟩ := h2
            have : (128 : Nat) ^ 9 = 9223372036854775808 := by decide
            simp
            omega
        · cases h

theorem dec_bound {l : List Int} {n k : Nat} (hr : ∀ x ∈ l, 0 ≤ x ∧ x ≤ 255) (h : dec l = some (n, k)) : 0 < k ∧ k ≤ l.length ∧ k ≤ 10 ∧ n < 18446744073709551616 := by
  have := decAt_bound 10 0 0 l n k (by omega) (by decide) hr h
  omega

theorem Rst.dec_bound {w : World} {b g off last n k : Nat} {d : List Int} {err : Int} (h : Rst w b g d off last err) (hd : dec (d.drop off) = some (n, k)) : 0 < k ∧ off + k ≤ d.length ∧ k ≤ 10 ∧ n < 18446744073709551616 := by
  have := _root_.Go.Proofs.Ytgbadiajdhehpaa.Wr.dec_bound (fun x hx => h.rng x (List.mem_of_mem_drop hx)) hd
  have h2 := h.le
  rw [List.length_drop] at this
  omega

theorem number_some (b g off last n k : Nat) (d : List Int) (err : Int) (w : World) (h : Rst w b g d off last err) (hd : dec (d.drop off) = some (n, k)) :
    Calls Try.prog 75 #[.pointer (some ⟨b, 0, none⟩)] w fun e w' => e = .returned (.tuple #[.int .u64 n, .int .i64 ((off + k : Nat) : Int), .bool true]) ∧ Drew w w' :=
  (number_any b g off last d err w h).mono fun e w' ⟨h1, h2⟩ => ⟨by rw [h1, hd]; rfl, h2⟩
theorem number_none (b g off last : Nat) (d : List Int) (err : Int) (w : World) (h : Rst w b g d off last err) (hd : dec (d.drop off) = none) :
    Calls Try.prog 75 #[.pointer (some ⟨b, 0, none⟩)] w fun e w' => e = .returned (.tuple #[.int .u64 0, .int .i64 0, .bool false]) ∧ Drew w w' :=
  (number_any b g off last d err w h).mono fun e w' ⟨h1, h2⟩ => ⟨by rw [h1, hd]; rfl, h2⟩

set_option maxHeartbeats 400000 in
theorem ruint_ok (b g off last n k : Nat) (d : List Int) (w : World) (h : Rst w b g d off last 0) (hd : dec (d.drop off) = some (n, k)) :
    Calls Try.prog 58 #[.pointer (some ⟨b, 0, none⟩)] w fun e w' => e = .returned (.int .u64 n) ∧ RTo w w' b g d (off + k) off 0 := by
  have hb := hid_of (h.dec_bound hd)
  have HD := hid_of hd
  have H := hid_of h
  clear hd h
  go_enter Try.func58, Try.ntmps58
  go_wp2_with (first
    | (go_at_call 75; refine (number_some b g off last n k d 0 w H.out HD.out).mono ?_; rintro e w1 ⟨rfl, m, rfl⟩)
    | (go_at_call 76; refine (settle_ok b g off last (off + k) d _ (H.out.drewN _) hb.out.2.1).mono ?_; rintro e w2 ⟨rfl, h2⟩; have R := hid_of h2.ofDrewN; clear h2))
  go_ret
  exact ⟨rfl, R.out⟩

set_option maxHeartbeats 400000 in
theorem ruint_bad (b g off last : Nat) (d : List Int) (w : World) (h : Rst w b g d off last 0) (hd : dec (d.drop off) = none) :
    Calls Try.prog 58 #[.pointer (some ⟨b, 0, none⟩)] w fun e w' => e = .returned (.int .u64 0) ∧ RTo w w' b g d off off 2 := by
  have HD := hid_of hd
  have H := hid_of h
  clear hd h
  go_enter Try.func58, Try.ntmps58
  go_wp2_with (first
    | (go_at_call 75; refine (number_none b g off last d 0 w H.out HD.out).mono ?_; rintro e w1 ⟨rfl, m, rfl⟩)
    | (go_at_call 76; refine (settle_bad b g off last 0 d _ (H.out.drewN _)).mono ?_; rintro e w2 ⟨rfl, h2⟩; have R := hid_of h2.ofDrewN; clear h2))
  go_ret
  exact ⟨rfl, R.out⟩

set_option maxHeartbeats 400000 in
theorem ruint_dead (b g off last : Nat) (d : List Int) (w : World) (h : Rst w b g d off last 2) :
    Calls Try.prog 58 #[.pointer (some ⟨b, 0, none⟩)] w fun e w' => e = .returned (.int .u64 0) ∧ RTo w w' b g d off last 2 := by
  have H := hid_of h
  clear h
  rcases hd : dec (d.drop off) with _ | ⟨n, k⟩
  all_goals
    have HD := hid_of hd
    clear hd
    go_enter Try.func58, Try.ntmps58
    go_wp2_with (first
      | (go_at_call 75; (first | (refine (number_none b g off last d 2 w H.out HD.out).mono ?_) | (refine (number_some b g off last _ _ d 2 w H.out HD.out).mono ?_)); rintro e w1 ⟨rfl, m, rfl⟩)
      | (go_at_call 76; refine (settle_dead b g off last _ _ d _ (H.out.drewN _)).mono ?_; rintro e w2 ⟨rfl, h2⟩; have R := hid_of h2.ofDrewN; clear h2))
    go_ret
    exact ⟨rfl, R.out⟩

end Go.Proofs.Ytgbadiajdhehpaa.Wr

/- More contracts of the Reader of package wire. No condition but bounds on sizes. -/
namespace Go.Proofs.Ytgbadiajdhehpaa.Wr
open Go.RowKit

section
variable {P : Program} (w : World)

theorem run_str (src dst e : TypeId) (hs : P.underlying src = some (.slice e)) (he : P.underlying e = some (.int .u8)) (hd : P.underlying dst = some .string) (ao : Option Addr) (l : List Int) (cap : Nat)
    (hpos : 0 < l.length → ∃ ad, ao = some ad ∧ ∀ j v, (bs l)[j]? = some v → w.cell? (ad.add j) = some v) :
    (convert src dst (.slice ao l.length cap)).run P w = .ok (.string (strOfNums l)) w := by
  cases ao with
  | none =>
    obtain rfl : l = [] := by
      cases l with
      | nil => rfl
      | cons x r => obtain ⟨ad, h, _⟩ := hpos (by simp); cases h
    exact run_convert_bytes_nil w src e hs he 0 cap dst hd
  | some ad =>
    have hl : (loadCells ad l.length).run P w = .ok (l.map (Value.int .u8)).toArray w := by
      have := run_loadCells_list (P := P) w ad (bs l) (fun j v hj => by
        have h0 : 0 < l.length := by
          have := (List.getElem?_eq_some_iff.1 hj).1
          simp [bs] at this; omega
        obtain ⟨ad', h1, h2⟩ := hpos h0
        cases h1
        exact h2 j v hj)
      simpa [bs] using this
    rw [run_convert_bytes_string w src dst e _ l.length cap hs he hd, run_bytesToString w _ l.length cap l hl, foldl_push_bytes]
    simp [strOfNums, ByteArray.empty, ByteArray.emptyWithCapacity]
    rfl

theorem wp_str {o : Oper} {a : Act} {K : Act → World → Prop} {Q : Exit → Act → World → Prop} (src dst : TypeId) (x : Operand) (ho : o.op = .convert src dst x) (e : TypeId)
    (hs : P.underlying src = some (.slice e)) (he : P.underlying e = some (.int .u8)) (hd : P.underlying dst = some .string) (ao : Option Addr) (l : List Int) (cap : Nat) (hx : a.eval x = .slice ao l.length cap)
    (hpos : 0 < l.length → ∃ ad, ao = some ad ∧ ∀ j v, (bs l)[j]? = some v → w.cell? (ad.add j) = some v) (h : K (a.put o.dst (.string (strOfNums l))) w) : Oper.wp P o a w K Q := by
  have hr := run_str (P := P) w src dst e hs he hd ao l cap hpos
  unfold Oper.wp execOp
  simp only [ho, hx, Sem.run_bind, hr, Result.andThen_ok, Sem.run_pure]
  exact h

theorem wpList_str {ops : Array Oper} {rest : List Oper} {o : Oper} {a : Act} {Q : Exit → Act → World → Prop} (hgd : o.guard = none) (src dst : TypeId) (x : Operand) (ho : o.op = .convert src dst x) (e : TypeId)
    (hs : P.underlying src = some (.slice e)) (he : P.underlying e = some (.int .u8)) (hd : P.underlying dst = some .string) (ao : Option Addr) (l : List Int) (cap : Nat) (hx : a.eval x = .slice ao l.length cap)
    (hpos : 0 < l.length → ∃ ad, ao = some ad ∧ ∀ j v, (bs l)[j]? = some v → w.cell? (ad.add j) = some v) (h : wpList P ops Q rest (a.put o.dst (.string (strOfNums l))) w) : wpList P ops Q (o :: rest) a w :=
  wpList_plain hgd fun _ hK => wp_str w src dst x ho e hs he hd ao l cap hx hpos (hK _ _ h)
theorem wpList_str_n {ops : Array Oper} {rest : List Oper} {o : Oper} {a : Act} {Q : Exit → Act → World → Prop} (hgd : o.guard = none) (src dst : TypeId) (x : Operand) (ho : o.op = .convert src dst x) (e : TypeId)
    (hs : P.underlying src = some (.slice e)) (he : P.underlying e = some (.int .u8)) (hd : P.underlying dst = some .string) (ao : Option Addr) (l : List Int) (n cap : Nat) (hn : l.length = n) (hx : a.eval x = .slice ao n cap)
    (hpos : 0 < l.length → ∃ ad, ao = some ad ∧ ∀ j v, (bs l)[j]? = some v → w.cell? (ad.add j) = some v) (h : wpList P ops Q rest (a.put o.dst (.string (strOfNums l))) w) : wpList P ops Q (o :: rest) a w :=
  wpList_str w hgd src dst x ho e hs he hd ao l cap (by rw [hn]; exact hx) hpos h
end

theorem ret_i64 {a b : Int} (h : a = b) : Ending.returned (.int .i64 a) = Ending.returned (.int .i64 b) := by rw [h]

/-- Back from zigzag. -/
def unzig (n : Nat) : Int := if n % 2 = 0 then ((n / 2 : Nat) : Int) else -((n / 2 : Nat) : Int) - 1
theorem unzig_zig (n : Int) : unzig (zig n) = n := by
  unfold unzig zig
  by_cases h : 0 ≤ n
  · rw [if_pos h, if_pos (by omega)]; omega
  · rw [if_neg h, if_neg (by omega)]; omega

set_option maxHeartbeats 400000 in
theorem rint_ok (b g off last n k : Nat) (d : List Int) (w : World) (h : Rst w b g d off last 0) (hd : dec (d.drop off) = some (n, k)) :
    Calls Try.prog 60 #[.pointer (some ⟨b, 0, none⟩)] w fun e w' => e = .returned (.int .i64 (unzig n)) ∧ RTo w w' b g d (off + k) off 0 := by
  have hb := h.dec_bound hd
  have hb4 := hb.2.2.2
  have HC := hid_of (ruint_ok b g off last n k d w h hd)
  have e1 := u64_and_nat n 1 hb4 (by omega)
  rw [nat_mask1, show ((1 : Nat) : Int) = 1 from rfl] at e1
  clear hb hd h
  have e2 : bits .xor .i64 (-1) ((n : Int) / 2) = -1 - ((n : Int) / 2) := by
    have := i64_not (n / 2) (by omega)
    rw [show ((n / 2 : Nat) : Int) = (n : Int) / 2 by omega] at this
    exact this
  by_cases h2 : n % 2 = 0
  · go_enter Try.func60, Try.ntmps60
    go_wp2_with (go_at_call 58; refine HC.out.mono ?_; rintro e w1 ⟨rfl, h1⟩; have R := hid_of h1; clear h1)
    go_ret
    exact ⟨ret_i64 (by unfold unzig; rw [if_pos h2]; omega), R.out⟩
  · go_enter Try.func60, Try.ntmps60
    go_wp2_with (go_at_call 58; refine HC.out.mono ?_; rintro e w1 ⟨rfl, h1⟩; have R := hid_of h1; clear h1)
    go_ret
    exact ⟨ret_i64 (by unfold unzig; rw [if_neg h2]; omega), R.out⟩

set_option maxHeartbeats 400000 in
theorem rint_zero (b g off off' last last' : Nat) (d : List Int) (w : World)
    (HC : Hid (Calls Try.prog 58 #[.pointer (some ⟨b, 0, none⟩)] w fun e w' => e = .returned (.int .u64 0) ∧ RTo w w' b g d off' last' 2)) :
    Calls Try.prog 60 #[.pointer (some ⟨b, 0, none⟩)] w fun e w' => e = .returned (.int .i64 0) ∧ RTo w w' b g d off' last' 2 := by
  have e1 : bits .and .u64 0 1 = 0 := by decide
  go_enter Try.func60, Try.ntmps60
  go_wp2_with (go_at_call 58; refine HC.out.mono ?_; rintro e w1 ⟨rfl, h1⟩; have R := hid_of h1; clear h1)
  go_ret
  exact ⟨rfl, R.out⟩
theorem rint_bad (b g off last : Nat) (d : List Int) (w : World) (h : Rst w b g d off last 0) (hd : dec (d.drop off) = none) :
    Calls Try.prog 60 #[.pointer (some ⟨b, 0, none⟩)] w fun e w' => e = .returned (.int .i64 0) ∧ RTo w w' b g d off off 2 :=
  rint_zero b g off off last off d w (hid_of (ruint_bad b g off last d w h hd))
theorem rint_dead (b g off last : Nat) (d : List Int) (w : World) (h : Rst w b g d off last 2) :
    Calls Try.prog 60 #[.pointer (some ⟨b, 0, none⟩)] w fun e w' => e = .returned (.int .i64 0) ∧ RTo w w' b g d off last 2 :=
  rint_zero b g off off last last d w (hid_of (ruint_dead b g off last d w h))

/-- A byte string: how many bytes its length takes, and its length. -/
def decRun (l : List Int) : Option (Nat × Nat) :=
  match dec l with
  | some (n, k) => if n ≤ l.length - k then some (k, n) else none
  | none => none

theorem decRun_some {l : List Int} {k n : Nat} (h : decRun l = some (k, n)) : dec l = some (n, k) ∧ n ≤ l.length - k := by
  unfold decRun at h
  split at h
  · split at h
    · rename_i n' k' he hn
      simp only [Option.some.injEq, Prod.mk.injEq] at h
      obtain ⟨rfl, rfl⟩ := h
      exact ⟨he, hn⟩
    · cases h
  · cases h

set_option maxHeartbeats 400000 in
theorem run_some (b g off last k n : Nat) (d : List Int) (err : Int) (w : World) (h : Rst w b g d off last err) (hd : decRun (d.drop off) = some (k, n)) :
    Calls Try.prog 78 #[.pointer (some ⟨b, 0, none⟩)] w fun e w' => e = .returned (.tuple #[.int .i64 ((off + k : Nat) : Int), .int .i64 ((off + k + n : Nat) : Int), .bool true]) ∧ Drew w w' := by
  obtain ⟨hd1, hd2⟩ := decRun_some hd
  have hb := h.dec_bound hd1
  rw [List.length_drop] at hd2
  have hsm := h.small
  have c0 := h.c0
  have HC := hid_of (number_some b g off last n k d err w h hd1)
  have hdd : decide ((d.length : Int) - ((off + k : Nat) : Int) < (n : Int)) = false := by simp; omega
  obtain ⟨hb0, hb1, hb2, hb3⟩ := hb
  clear hd hd1 h
  go_enter Try.func78, Try.ntmps78
  go_wp2_with (go_at_call 75; refine HC.out.mono ?_; rintro e w1 ⟨rfl, m, rfl⟩)
  go_ret3
  exact ⟨by simp, m, rfl⟩

set_option maxHeartbeats 400000 in
theorem run_none (b g off last : Nat) (d : List Int) (err : Int) (w : World) (h : Rst w b g d off last err) (hd : decRun (d.drop off) = none) :
    Calls Try.prog 78 #[.pointer (some ⟨b, 0, none⟩)] w fun e w' => e = .returned (.tuple #[.int .i64 0, .int .i64 0, .bool false]) ∧ Drew w w' := by
  have hsm := h.small
  have c0 := h.c0
  unfold decRun at hd
  rcases hq : dec (d.drop off) with _ | ⟨n, k⟩
  · have HC := hid_of (number_none b g off last d err w h hq)
    clear hd hq h
    go_enter Try.func78, Try.ntmps78
    go_wp2_with (go_at_call 75; refine HC.out.mono ?_; rintro e w1 ⟨rfl, m, rfl⟩)
    go_ret3
    exact ⟨rfl, m, rfl⟩
  · have HC := hid_of (number_some b g off last n k d err w h hq)
    have hb := h.dec_bound hq
    rw [hq] at hd
    simp only at hd
    split at hd
    · cases hd
    · rename_i hd2
      rw [List.length_drop] at hd2
      have hdd : decide ((d.length : Int) - ((off + k : Nat) : Int) < (n : Int)) = true := by simp; omega
      obtain ⟨hb0, hb1, hb2, hb3⟩ := hb
      clear hd hq h
      go_enter Try.func78, Try.ntmps78
      go_wp2_with (go_at_call 75; refine HC.out.mono ?_; rintro e w1 ⟨rfl, m, rfl⟩)
      go_ret3
      exact ⟨rfl, m, rfl⟩

end Go.Proofs.Ytgbadiajdhehpaa.Wr

/- The last contracts of the Reader of package wire. No condition but bounds on sizes. -/
namespace Go.Proofs.Ytgbadiajdhehpaa.Wr
open Go.RowKit

set_option maxHeartbeats 400000 in
theorem newReader_any (ao : Option Addr) (l : List Int) (cap : Nat) (w : World) (hr : ∀ x ∈ l, 0 ≤ x ∧ x ≤ 255) (hl : l.length ≤ 140737488351232)
    (hpos : 0 < l.length → ∃ ad, ao = some ad ∧ ∀ j v, (bs l)[j]? = some v → w.cell? (ad.add j) = some v) :
    Calls Try.prog 39 #[.slice ao l.length cap] w fun e w' => ∃ b g, e = .returned (.pointer (some ⟨b, 0, none⟩)) ∧ Rst w' b g l 0 0 0 ∧ Below w.heap.size w w' ∧ w.heap.size ≤ b ∧ w.heap.size ≤ g := by
  have HC := hid_of (clone_any ao l cap w hl hpos)
  clear hpos
  go_enter Try.func39, Try.ntmps39
  go_wp2_with (go_at_call 57; refine HC.out.mono ?_; rintro e w1 ⟨rfl, h1, h2⟩; have H1 := hid_of h1; clear h1)
  go_ret
  have hs := lt_of_block H1.out
  refine ⟨_, _, rfl, ⟨heap_alloc_new _ _, ?_, hr, by omega, hl⟩, h2.alloc h2.size _, h2.size, Nat.le_refl _⟩
  rw [Below.heap_alloc _ _ _ hs]
  exact H1.out

set_option maxHeartbeats 400000 in
theorem left_any (b g off last : Nat) (d : List Int) (err : Int) (w : World) (h : Rst w b g d off last err) :
    Calls Try.prog 64 #[.pointer (some ⟨b, 0, none⟩)] w fun e w' => e = .returned (.int .i64 ((d.length - off : Nat) : Int)) ∧ Drew w w' := by
  have c0 := h.c0
  have c1 := h.c1
  have hle := h.le
  have hsm := h.small
  go_enter Try.func64, Try.ntmps64
  have a1 : IntKind.i64.wrap ((d.length : Int) - (off : Int)) = (d.length : Int) - (off : Int) := IntWalk.i64_in _ (by omega)
  go_wp2
  go_quiet (fail)
  go_wp2
  go_ret
  exact ⟨ret_i64 (by omega), nq, rfl⟩
set_option maxHeartbeats 400000 in
theorem end_ok (b g off last : Nat) (d : List Int) (w : World) (h : Rst w b g d off last 0) (ho : off = d.length) :
    Calls Try.prog 41 #[.pointer (some ⟨b, 0, none⟩)] w fun e w' => e = .returned (.int .i64 0) ∧ Drew w w' := by
  have c3 := h.c3
  have HC := hid_of (left_any b g off last d 0 w h)
  have hb : (((d.length - off : Nat) : Int) != 0) = false := by simp; omega
  have H := hid_of h
  clear h ho
  go_enter Try.func41, Try.ntmps41
  go_wp2_with (go_at_call 64; refine HC.out.mono ?_; rintro e w1 ⟨rfl, m, rfl⟩)
  go_ret
  exact ⟨rfl, m, rfl⟩
set_option maxHeartbeats 400000 in
theorem end_bad (b g off last : Nat) (d : List Int) (err : Int) (w : World) (h : Rst w b g d off last err) (ho : err = 2 ∨ (err = 0 ∧ off ≠ d.length)) :
    Calls Try.prog 41 #[.pointer (some ⟨b, 0, none⟩)] w fun e w' => e = .returned (.int .i64 2) ∧ Drew w w' := by
  have c3 := h.c3
  have hle := h.le
  have HC := hid_of (left_any b g off last d err w h)
  rcases ho with rfl | ⟨rfl, ho⟩
  · clear h
    go_enter Try.func41, Try.ntmps41
    go_wp2_with (go_at_call 64; refine HC.out.mono ?_; rintro e w1 ⟨rfl, m, rfl⟩)
    go_ret
    exact ⟨rfl, 0, rfl⟩
  · have hb : (((d.length - off : Nat) : Int) != 0) = true := by simp; omega
    have H := hid_of h
    clear h ho
    go_enter Try.func41, Try.ntmps41
    go_wp2_with (go_at_call 64; refine HC.out.mono ?_; rintro e w1 ⟨rfl, m, rfl⟩)
    go_ret
    exact ⟨rfl, m, rfl⟩

theorem clone_n (ao : Option Addr) (l : List Int) (n cap : Nat) (w : World) (hn : l.length = n) (hl : l.length ≤ 140737488351232)
    (hpos : 0 < l.length → ∃ ad, ao = some ad ∧ ∀ j v, (bs l)[j]? = some v → w.cell? (ad.add j) = some v) :
    Calls Try.prog 57 #[.slice ao n cap] w fun e w' => e = .returned (.slice (some ⟨w.heap.size, 0, none⟩) n n) ∧
      w'.heap[w.heap.size]? = some (.cells (bs l).toArray 5 (0, 0)) ∧ Below w.heap.size w w' := by
  subst hn; exact clone_any ao l cap w hl hpos

/-- The cells of a part of the Reader's bytes. -/
theorem Rst.part {w : World} {b g off last : Nat} {d : List Int} {err : Int} (h : Rst w b g d off last err) (s n : Nat) (a : Nat) (ha : s < d.length → a = s) :
    0 < ((d.drop s).take n).length → ∃ ad, (some (⟨g, a, none⟩ : Addr)) = some ad ∧ ∀ j v, (bs ((d.drop s).take n))[j]? = some v → w.cell? (ad.add j) = some v := by
  intro h0
  have hs : s < d.length := by
    rcases Nat.lt_or_ge s d.length with h1 | h1
    · exact h1
    · rw [List.drop_eq_nil_of_le h1] at h0; simp at h0
  obtain rfl := ha hs
  refine ⟨_, rfl, fun j v hv => ?_⟩
  have hp : (⟨g, a, none⟩ : Addr).add j = ⟨g, a + j, none⟩ := by unfold Addr.add; split <;> simp_all
  rw [hp, cell_of_row _ _ _ _ _ _ h.row]
  simp only [bs, List.map_take, List.map_drop, List.getElem?_take, List.getElem?_drop] at hv
  split at hv
  · simpa [bs] using hv
  · cases hv

theorem ret_slice {a b n : Nat} (h : a = b) : Ending.returned (.slice (some ⟨a, 0, none⟩) n n) = Ending.returned (.slice (some ⟨b, 0, none⟩) n n) := by rw [h]

theorem rbytes_end {w w2 w3 : World} {b g off off' : Nat} {d l : List Int} (R : RTo w w2 b g d off' off 0) (R3 : w3.heap[w2.heap.size]? = some (.cells (bs l).toArray 5 (0, 0)) ∧ Below w2.heap.size w2 w3) :
    Rst w3 b g d off' off 0 ∧ w3.heap[w.heap.size]? = some (.cells (bs l).toArray 5 (0, 0)) ∧ Kept (fun k => k = b) w w3 := by
  obtain ⟨r1, r2, r3⟩ := R
  obtain ⟨q1, q2⟩ := R3
  have hg := r1.glt
  have hb := r1.blt
  rw [r3] at q1
  refine ⟨r1.same (q2.block b hb) (q2.block g hg), q1, ⟨q2.os.trans r2.os, q2.tape.trans r2.tape, q2.output.trans r2.output, Nat.le_trans r2.size q2.size, fun q hq hS => (q2.block q (by omega)).trans (r2.block q hq hS)⟩⟩

theorem RTo.st {w w' : World} {b g off last : Nat} {d : List Int} {err : Int} (h : RTo w w' b g d off last err) : Rst w' b g d off last err := h.1
theorem part_q {w : World} {b g off last s n : Nat} {d q : List Int} {err : Int} (hq : q = (d.drop s).take n) (h : Rst w b g d off last err) :
    0 < q.length → ∃ ad, (some (⟨g, s, none⟩ : Addr)) = some ad ∧ ∀ j v, (bs q)[j]? = some v → w.cell? (ad.add j) = some v := by
  rw [hq]; exact h.part s n s (fun _ => rfl)

set_option maxHeartbeats 400000 in
theorem rtext_ok (b g off last k n : Nat) (d : List Int) (w : World) (h : Rst w b g d off last 0) (hd : decRun (d.drop off) = some (k, n)) :
    Calls Try.prog 63 #[.pointer (some ⟨b, 0, none⟩)] w fun e w' => e = .returned (.string (strOfNums ((d.drop (off + k)).take n))) ∧ RTo w w' b g d (off + k + n) off 0 := by
  obtain ⟨hd1, hd2⟩ := decRun_some hd
  obtain ⟨hb0, hb1, hb2, hb3⟩ := h.dec_bound hd1
  rw [List.length_drop] at hd2
  have hsm := h.small
  have c0 := h.c0
  have HC := hid_of (run_some b g off last k n d 0 w h hd)
  have H := hid_of h
  have hen : off + k + n ≤ d.length := by omega
  clear hd hd1 h
  have hpl : ((d.drop (off + k)).take n).length = n := by rw [List.length_take, List.length_drop]; omega
  have HPL := hid_of hpl
  clear hpl
  by_cases hs : off + k = d.length
  · have hn0 : n = 0 := by omega
    subst hn0
    have HS := hid_of hs
    have hi1 : d.length ≤ off + k := by omega
    clear hs
    go_enter Try.func63, Try.ntmps63
    go_wp2_with (first
      | (go_at_call 78; refine HC.out.mono ?_; rintro e w1 ⟨rfl, m, rfl⟩)
      | (go_at_call 76; refine (settle_ok b g off last (off + k + 0) d _ (H.out.drewN _) hen).mono ?_; rintro e w2 ⟨rfl, h2⟩; have R := hid_of h2.ofDrewN; have c0' := h2.1.c0; clear h2)
      | (with_reducible refine wpList_str _ rfl 33 9 _ rfl 5 Try.underlying33 Try.underlying5 Try.underlying9 _ [] _ rfl (fun h0 => by simp at h0) ?_))
    go_ret
    refine ⟨?_, R.out⟩
    simp
  · have hs1 : off + k < d.length := by omega
    clear hs
    go_enter Try.func63, Try.ntmps63
    obtain ⟨q, hq⟩ : ∃ q, q = (d.drop (off + k)).take n := ⟨_, rfl⟩
    have HQ := hid_of hq
    rw [← hq]
    rw [← hq] at HPL
    have HPN : Hid (q.length = off + k + n - (off + k)) := hid_of (by have := HPL.out; omega)
    clear hq
    go_wp2_with (first
      | (go_at_call 78; refine HC.out.mono ?_; rintro e w1 ⟨rfl, m, rfl⟩)
      | (go_at_call 76; refine (settle_ok b g off last (off + k + n) d _ (H.out.drewN _) hen).mono ?_; rintro e w2 ⟨rfl, h2⟩; have R := hid_of h2.ofDrewN; have c0' := h2.1.c0; clear h2)
      | (with_reducible refine wpList_str_n _ rfl 33 9 _ rfl 5 Try.underlying33 Try.underlying5 Try.underlying9 (some ⟨g, off + k, none⟩) q (off + k + n - (off + k)) (d.length - (off + k)) HPN.out rfl (part_q HQ.out (RTo.st R.out)) ?_))
    go_ret
    exact ⟨rfl, R.out⟩

set_option maxHeartbeats 400000 in
theorem rtext_bad (b g off last : Nat) (d : List Int) (w : World) (h : Rst w b g d off last 0) (hd : decRun (d.drop off) = none) :
    Calls Try.prog 63 #[.pointer (some ⟨b, 0, none⟩)] w fun e w' => e = .returned (.string (strOfNums [])) ∧ RTo w w' b g d off off 2 := by
  have HC := hid_of (run_none b g off last d 0 w h hd)
  have H := hid_of h
  clear hd h
  go_enter Try.func63, Try.ntmps63
  go_wp2_with (first
    | (go_at_call 78; refine HC.out.mono ?_; rintro e w1 ⟨rfl, m, rfl⟩)
    | (go_at_call 76; refine (settle_bad b g off last 0 d _ (H.out.drewN _)).mono ?_; rintro e w2 ⟨rfl, h2⟩; have R := hid_of h2.ofDrewN; clear h2))
  go_ret
  exact ⟨rfl, R.out⟩

set_option maxHeartbeats 400000 in
theorem rtext_dead (b g off last : Nat) (d : List Int) (w : World) (h : Rst w b g d off last 2) :
    Calls Try.prog 63 #[.pointer (some ⟨b, 0, none⟩)] w fun e w' => e = .returned (.string (strOfNums [])) ∧ RTo w w' b g d off last 2 := by
  have H := hid_of h
  rcases hd : decRun (d.drop off) with _ | ⟨k, n⟩
  · have HC := hid_of (run_none b g off last d 2 w h hd)
    clear hd h
    go_enter Try.func63, Try.ntmps63
    go_wp2_with (first
      | (go_at_call 78; refine HC.out.mono ?_; rintro e w1 ⟨rfl, m, rfl⟩)
      | (go_at_call 76; refine (settle_dead b g off last _ _ d _ (H.out.drewN _)).mono ?_; rintro e w2 ⟨rfl, h2⟩; have R := hid_of h2.ofDrewN; clear h2))
    go_ret
    exact ⟨rfl, R.out⟩
  · have HC := hid_of (run_some b g off last k n d 2 w h hd)
    clear hd h
    go_enter Try.func63, Try.ntmps63
    go_wp2_with (first
      | (go_at_call 78; refine HC.out.mono ?_; rintro e w1 ⟨rfl, m, rfl⟩)
      | (go_at_call 76; refine (settle_dead b g off last _ _ d _ (H.out.drewN _)).mono ?_; rintro e w2 ⟨rfl, h2⟩; have R := hid_of h2.ofDrewN; clear h2))
    go_ret
    exact ⟨rfl, R.out⟩

set_option maxHeartbeats 400000 in
theorem rcount_ok (b g off last n k : Nat) (d : List Int) (w : World) (h : Rst w b g d off last 0) (hd : dec (d.drop off) = some (n, k)) (hn : off + k + n ≤ d.length) :
    Calls Try.prog 77 #[.pointer (some ⟨b, 0, none⟩)] w fun e w' => e = .returned (.int .i64 n) ∧ RTo w w' b g d (off + k) off 0 := by
  obtain ⟨hb0, hb1, hb2, hb3⟩ := h.dec_bound hd
  have hsm := h.small
  have c0 := h.c0
  have HC := hid_of (number_some b g off last n k d 0 w h hd)
  have H := hid_of h
  have hdd : decide ((n : Int) ≤ (d.length : Int) - ((off : Int) + (k : Int))) = true := by simp; omega
  have hok : off + k ≤ d.length := hb1
  clear hd h
  go_enter Try.func77, Try.ntmps77
  go_wp2_with (first
    | (go_at_call 75; refine HC.out.mono ?_; rintro e w1 ⟨rfl, m, rfl⟩)
    | (go_at_call 76; refine (settle_ok b g off last (off + k) d _ (H.out.drewN _) hok).mono ?_; rintro e w2 ⟨rfl, h2⟩; have R := hid_of h2.ofDrewN; clear h2))
  go_ret
  exact ⟨rfl, R.out⟩

end Go.Proofs.Ytgbadiajdhehpaa.Wr

/- write and Encode of package lattice, of a description of the kind Max. Bounds on sizes alone. -/
namespace Go.Proofs.Ytgbadiajdhehpaa
open Go.RowKit

def WS2 (b : Nat) (v : Value) (q : Nat) : Prop := q = b ∨ v.ownBlock = some q
set_option maxRecDepth 100000 in
set_option maxHeartbeats 3200000 in
theorem wmax_any (lo hi : Int) (b B : Nat) (v : Value) (l : List Int) (w : World) (rlo : R64 lo) (rhi : R64 hi) (h : Wr.Wst B b w v l) (hl : l.length ≤ 60000000000000) (hB : B ≤ w.heap.size) :
    Calls Try.prog 37 #[.pointer (some ⟨b, 0, none⟩), .agg #[.int .i64 2, .int .i64 lo, .int .i64 hi, .slice none 0 0, .slice none 0 0, .slice none 0 0]] w fun e w' => e = .returned (.tuple #[]) ∧ ∃ v', Wr.Wst B b w' v' (l ++ Wr.enc 2 ++ Wr.enc (Wr.zig lo) ++ Wr.enc (Wr.zig hi)) ∧ Wr.Kept (fun k => k = b ∨ v.ownBlock = some k) w w' := by
  have HW : Hid (Wr.Wst B b (w.alloc (.cells #[.int .i64 2, .int .i64 lo, .int .i64 hi, .slice none 0 0, .slice none 0 0, .slice none 0 0] 26)) v l) := hid_of (h.alloc _)
  have hb := lt_of_block h.blk
  have hbx : ∀ w', Wr.Kept (fun k => k = b ∨ v.ownBlock = some k) (w.alloc (.cells #[.int .i64 2, .int .i64 lo, .int .i64 hi, .slice none 0 0, .slice none 0 0, .slice none 0 0] 26)) w' → w'.cell? ⟨w.heap.size, 0, none⟩ = some (.int .i64 2) ∧ w'.cell? ⟨w.heap.size, 1, none⟩ = some (.int .i64 lo) ∧ w'.cell? ⟨w.heap.size, 2, none⟩ = some (.int .i64 hi) := fun w' hk => by
    have e := (hk.block w.heap.size (by simp) (fun hs => by
      rcases hs with hs | hs
      · omega
      · have := (h.own.lt _ hs).2; omega)).trans (heap_alloc_new w (.cells [.int .i64 2, .int .i64 lo, .int .i64 hi, .slice none 0 0, .slice none 0 0, .slice none 0 0].toArray 26 (0, 0)))
    exact ⟨cell_blk e rfl, cell_blk e rfl, cell_blk e rfl⟩
  have HBX := hid_of hbx
  have HB := hid_of hB
  have HL := hid_of hl
  have l1 : Hid ((Wr.enc 2).length ≤ 10) := hid_of (Wr.enc_length_10 2 (by omega))
  have l2 : Hid ((Wr.enc (Wr.zig lo)).length ≤ 10) := hid_of (Wr.enc_length_10 _ (Wr.zig_lt lo rlo.1 rlo.2))
  have C0 := hid_of (show Calls Try.prog 53 #[.pointer (some ⟨b, 0, none⟩), .int .u64 2] _ _ from Wr.uint_any 2 b B v l (w.alloc (.cells #[.int .i64 2, .int .i64 lo, .int .i64 hi, .slice none 0 0, .slice none 0 0, .slice none 0 0] 26)) (by omega) HW.out (by omega) (by simp; omega))
  clear hbx hb h hl hB
  go_enter Try.func37, Try.ntmps37
  go_wp2_with (first
    | (go_at_call 53; ((with_reducible refine (C0.out).mono ?_); (rintro e w1 ⟨rfl, v1, h1, k1, o1⟩); have W1 := hid_of h1; have K1 := hid_of k1; have O1 := hid_of o1; have C1 := hid_of (Wr.int_any lo b B v1 _ w1 rlo.1 rlo.2 h1 (by rw [List.length_append]; have := HL.out; have := l1.out; omega) (Nat.le_trans HB.out (Nat.le_trans (by simp) k1.size))); obtain ⟨p0, p1, p2⟩ := HBX.out w1 k1; clear h1 k1 o1))
    | (go_at_call 54; ((with_reducible refine (C1.out).mono ?_)); rintro e w2 ⟨rfl, v2, h1, k1, o1⟩; have W2 := hid_of h1; have K2 := hid_of (Wr.kept_two K1.out k1 O1.out); have O2 := hid_of (Wr.own_two K1.out.size O1.out o1); have C2 := hid_of (Wr.int_any hi b B v2 _ w2 rhi.1 rhi.2 h1 (by rw [List.length_append, List.length_append]; have := HL.out; have := l1.out; have := l2.out; omega) (Nat.le_trans HB.out (Nat.le_trans (by simp) K2.out.size))); obtain ⟨q0, q1, q2⟩ := HBX.out w2 K2.out; clear h1 k1 o1 p0 p1 p2)
    | (go_at_call 54; ((with_reducible refine (C2.out).mono ?_)); rintro e w3 ⟨rfl, v3, h1, k1, o1⟩; have W3 := hid_of h1; have K3 := hid_of (Wr.kept_two K2.out k1 O2.out); clear h1 k1 o1 q0 q1 q2))
  go_end0
  exact ⟨rfl, v3, W3.out, K3.out.of_alloc⟩
set_option maxRecDepth 100000 in
set_option maxHeartbeats 3200000 in
theorem encmax_any (lo hi : Int) (t : Lat) (ht : t = ⟨2, lo, hi, [], [], []⟩) (hok : chkL t = 0) (w : World) (rlo : R64 lo) (rhi : R64 hi) (M : List Int) (hM : M = Wr.enc 2 ++ Wr.enc (Wr.zig lo) ++ Wr.enc (Wr.zig hi)) :
    Calls Try.prog 22 #[.agg #[.int .i64 2, .int .i64 lo, .int .i64 hi, .slice none 0 0, .slice none 0 0, .slice none 0 0]] w fun e w' => ∃ g, e = .returned (.slice (some ⟨g, 0, none⟩) M.length M.length) ∧ w'.heap[g]? = some (.cells (Wr.bs M).toArray 5 (0, 0)) ∧ Below w.heap.size w w' ∧ w.heap.size ≤ g := by
  have HO : ∀ w, LO w 2 lo hi none 0 0 none 0 0 none 0 0 t := fun w => by
    subst ht
    exact ⟨rfl, rfl, rfl, ⟨by omega, by omega⟩, rlo, rhi, ⟨none, 0, rfl, Nat.le_refl _, by omega, fun h => by simp [ss, Lat.ns] at h⟩, by intro y hy; simp [Lat.ns] at hy, rfl, lds_nil w, rfl, rur_nil w, by intro y hy; simp [Lat.rs] at hy, rfl⟩
  have HBW := hid_of (bel_alloc w (.cells #[.int .i64 2, .int .i64 lo, .int .i64 hi, .slice none 0 0, .slice none 0 0, .slice none 0 0] 26))
  have CH := hid_of (check_any t 2 lo hi none 0 0 none 0 0 none 0 0 (w.alloc (.cells #[.int .i64 2, .int .i64 lo, .int .i64 hi, .slice none 0 0, .slice none 0 0, .slice none 0 0] 26)) (HO _))
  rw [hok] at CH
  have HC : Hid (∀ w', Below (w.alloc (.cells #[.int .i64 2, .int .i64 lo, .int .i64 hi, .slice none 0 0, .slice none 0 0, .slice none 0 0] 26)).heap.size (w.alloc (.cells #[.int .i64 2, .int .i64 lo, .int .i64 hi, .slice none 0 0, .slice none 0 0, .slice none 0 0] 26)) w' → _) := hid_of (fun w' h => box6 2 lo hi none 0 0 none 0 0 none 0 0 h)
  have l1 := Wr.enc_length_10 2 (by omega)
  have l2 := Wr.enc_length_10 _ (Wr.zig_lt lo rlo.1 rlo.2)
  have l3 := Wr.enc_length_10 _ (Wr.zig_lt hi rhi.1 rhi.2)
  have hML : M.length ≤ 30 := by rw [hM, List.length_append, List.length_append]; omega
  have HML := hid_of hML
  have WM : Hid (∀ w2 : World, Calls Try.prog 37 #[.pointer (some ⟨w2.heap.size, 0, none⟩), .agg #[.int .i64 2, .int .i64 lo, .int .i64 hi, .slice none 0 0, .slice none 0 0, .slice none 0 0]] (w2.alloc (.cells #[.slice none 0 0] 53)) fun e w' => e = .returned (.tuple #[]) ∧ ∃ v', Wr.Wst w2.heap.size w2.heap.size w' v' M ∧ Below w2.heap.size w2 w') := hid_of (fun w2 => by
    have hw : Wr.Wst w2.heap.size w2.heap.size (w2.alloc (.cells #[.slice none 0 0] 53)) (.slice none 0 0) [] := ⟨heap_alloc_new _ _, World.ownsRow_nil _ _ _ _⟩
    refine (wmax_any lo hi w2.heap.size w2.heap.size (.slice none 0 0) [] (w2.alloc (.cells #[.slice none 0 0] 53)) rlo rhi hw (by simp) (by simp)).mono ?_
    rintro e w' ⟨rfl, v', h1, h2⟩
    refine ⟨rfl, v', by rw [hM]; exact h1, (bel_alloc w2 (.cells #[.slice none 0 0] 53)).trans ?_⟩
    refine h2.below (by simp) (fun k hk => ?_)
    rcases hk with hk | hk
    · omega
    · cases hk)
  clear hM HO l1 l2 l3 hML
  go_enter Try.func22, Try.ntmps22
  go_wp2_with (first
    | (go_at_call 10; ((with_reducible refine (CH.out).mono ?_); (rintro e w2 ⟨rfl, h2⟩); (have H2 := hid_of h2); (obtain ⟨p0, p1, p2, p3, p4, p5⟩ := HC.out (w2.alloc (.cells #[.slice none 0 0] 53)) (h2.alloc h2.size _)); clear h2))
    | (go_at_call 37; ((with_reducible refine (WM.out w2).mono ?_); (rintro e w3 ⟨rfl, v3, h3, h4⟩); (have W3 := hid_of h3); (have H4 := hid_of h4); (have DT := hid_of (Wr.data_any w2.heap.size w2.heap.size v3 M w3 h3 (by have := HML.out; omega))); clear h3 h4))
    | (go_at_call 38; ((with_reducible refine (DT.out).mono ?_); (rintro e w4 ⟨rfl, h3, h4⟩); (have R4 := hid_of h3); (have H5 := hid_of h4); clear h3 h4)))
  go_ret
  have hx2 : Below w.heap.size w w2 := HBW.out.trans (H2.out.mono HBW.out.size)
  have hx3 : Below w.heap.size w w3 := hx2.trans (H4.out.mono hx2.size)
  exact ⟨_, rfl, R4.out, hx3.trans (H5.out.mono hx3.size), hx3.size⟩
end Go.Proofs.Ytgbadiajdhehpaa

/- read of package lattice, of a description of the kind Max. Bounds on sizes alone. -/
namespace Go.Proofs.Ytgbadiajdhehpaa
open Go.RowKit

theorem wk_blk {S : Nat → Prop} {w w' : World} (h : Wr.Kept S w w') (k : Nat) (hk : k < w.heap.size) (hs : ¬ S k) : w'.heap[k]? = w.heap[k]? := h.block k hk hs
theorem fr_blk {w : World} {b : Nat} {cs : List Value} {E : TypeId} (hb : w.heap[b]? = some (.cells cs.toArray E (0, 0))) (j : Nat) : w.frozen? ⟨b, j, none⟩ = false := by
  simp [World.frozen?, hb]
theorem set_blk {w : World} {b k a : Nat} {v : Value} (p : Nat) (hne : a ≠ b) : (w.setCell ⟨a, k, none⟩ v).heap[b]? = w.heap[b]? := Below.heap_setCell w ⟨a, k, none⟩ v b (fun h => hne h.symm)
set_option maxRecDepth 100000 in
set_option maxHeartbeats 3200000 in
theorem readmax_any (b g k1 k2 k3 n1 n2 : Nat) (d : List Int) (w : World) (h : Wr.Rst w b g d 0 0 0) (h1 : Wr.dec (d.drop 0) = some (2, k1)) (h2 : Wr.dec (d.drop (0 + k1)) = some (n1, k2)) (h3 : Wr.dec (d.drop (0 + k1 + k2)) = some (n2, k3)) :
    Calls Try.prog 40 #[.pointer (some ⟨b, 0, none⟩), .int .i64 1] w fun e w' => e = .returned (.agg #[.int .i64 2, .int .i64 (Wr.unzig n1), .int .i64 (Wr.unzig n2), .slice none 0 0, .slice none 0 0, .slice none 0 0]) ∧ Wr.Rst w' b g d (0 + k1 + k2 + k3) (0 + k1 + k2) 0 ∧ Wr.Kept (fun k => k = b) w w' := by
  have hgb := h.gne
  have hb := h.blt
  have hg := h.glt
  have HB := hid_of hb
  have HG := hid_of hg
  have R0 : Hid (Wr.Rst (w.alloc (.cells [.int .i64 0, .int .i64 0, .int .i64 0, .slice none 0 0, .slice none 0 0, .slice none 0 0].toArray 26 (0, 0))) b g d 0 0 0) := hid_of (h.same ((bel_alloc w _).block b hb) ((bel_alloc w _).block g hg))
  have C0 := hid_of (show Calls Try.prog 58 #[.pointer (some ⟨b, 0, none⟩)] (w.alloc (.cells #[.int .i64 0, .int .i64 0, .int .i64 0, .slice none 0 0, .slice none 0 0, .slice none 0 0] 26 (0, 0))) (fun e w' => e = .returned (.int .u64 2) ∧ Wr.RTo (w.alloc (.cells [.int .i64 0, .int .i64 0, .int .i64 0, .slice none 0 0, .slice none 0 0, .slice none 0 0].toArray 26 (0, 0))) w' b g d (0 + k1) 0 0) from Wr.ruint_ok b g 0 0 2 k1 d _ R0.out h1)
  -- what stands behind the first call
  have S1 : Hid (∀ w1 : World, Wr.RTo (w.alloc (.cells [.int .i64 0, .int .i64 0, .int .i64 0, .slice none 0 0, .slice none 0 0, .slice none 0 0].toArray 26 (0, 0))) w1 b g d (0 + k1) 0 0 → w1.heap.size = w.heap.size + 1 ∧ w1.heap[w.heap.size]? = some (.cells [.int .i64 0, .int .i64 0, .int .i64 0, .slice none 0 0, .slice none 0 0, .slice none 0 0].toArray 26 (0, 0)) ∧ Wr.Kept (fun k => k = b) w w1 ∧ Wr.Rst (w1.alloc (.cells [.int .i64 2, .int .i64 0, .int .i64 0, .slice none 0 0, .slice none 0 0, .slice none 0 0].toArray 26 (0, 0))) b g d (0 + k1) 0 0) := hid_of (fun w1 h => by
    obtain ⟨q1, q2, q3⟩ := h
    have hs : (w.alloc (.cells [.int .i64 0, .int .i64 0, .int .i64 0, .slice none 0 0, .slice none 0 0, .slice none 0 0].toArray 26 (0, 0))).heap.size = w.heap.size + 1 := by simp
    refine ⟨by rw [q3, hs], (q2.block w.heap.size (by rw [hs]; omega) (by omega)).trans (heap_alloc_new w _), q2.of_alloc, ?_⟩
    exact q1.same ((bel_alloc w1 _).block b q1.blt) ((bel_alloc w1 _).block g q1.glt))
  have S2 : Hid (∀ w1 w2 : World, w1.heap.size = w.heap.size + 1 → w1.heap[w.heap.size]? = some (.cells [.int .i64 0, .int .i64 0, .int .i64 0, .slice none 0 0, .slice none 0 0, .slice none 0 0].toArray 26 (0, 0)) → Wr.RTo (w1.alloc (.cells [.int .i64 2, .int .i64 0, .int .i64 0, .slice none 0 0, .slice none 0 0, .slice none 0 0].toArray 26 (0, 0))) w2 b g d (0 + k1 + k2) (0 + k1) 0 → w2.heap.size = w.heap.size + 2 ∧ w2.heap[w.heap.size]? = some (.cells [.int .i64 0, .int .i64 0, .int .i64 0, .slice none 0 0, .slice none 0 0, .slice none 0 0].toArray 26 (0, 0)) ∧ w2.heap[w1.heap.size]? = some (.cells [.int .i64 2, .int .i64 0, .int .i64 0, .slice none 0 0, .slice none 0 0, .slice none 0 0].toArray 26 (0, 0)) ∧ Wr.Kept (fun k => k = b) w1 w2 ∧
      Wr.Rst (w2.setCell ⟨w1.heap.size, 1, none⟩ (.int .i64 (Wr.unzig n1))) b g d (0 + k1 + k2) (0 + k1) 0 ∧ (w2.setCell ⟨w1.heap.size, 1, none⟩ (.int .i64 (Wr.unzig n1))).heap[w.heap.size]? = some (.cells [.int .i64 0, .int .i64 0, .int .i64 0, .slice none 0 0, .slice none 0 0, .slice none 0 0].toArray 26 (0, 0)) ∧ (w2.setCell ⟨w1.heap.size, 1, none⟩ (.int .i64 (Wr.unzig n1))).heap[w1.heap.size]? = some (.cells [.int .i64 2, .int .i64 (Wr.unzig n1), .int .i64 0, .slice none 0 0, .slice none 0 0, .slice none 0 0].toArray 26 (0, 0))) := hid_of (fun w1 w2 hs hz h => by
    obtain ⟨q1, q2, q3⟩ := h
    have hs2 : (w1.alloc (.cells [.int .i64 2, .int .i64 0, .int .i64 0, .slice none 0 0, .slice none 0 0, .slice none 0 0].toArray 26 (0, 0))).heap.size = w1.heap.size + 1 := by simp
    have e1 : w2.heap[w.heap.size]? = some (.cells [.int .i64 0, .int .i64 0, .int .i64 0, .slice none 0 0, .slice none 0 0, .slice none 0 0].toArray 26 (0, 0)) := (q2.block w.heap.size (by rw [hs2]; omega) (by omega)).trans (((bel_alloc w1 _).block _ (by omega)).trans hz)
    have e2 : w2.heap[w1.heap.size]? = some (.cells [.int .i64 2, .int .i64 0, .int .i64 0, .slice none 0 0, .slice none 0 0, .slice none 0 0].toArray 26 (0, 0)) := (q2.block w1.heap.size (by rw [hs2]; omega) (by omega)).trans (heap_alloc_new w1 _)
    refine ⟨by rw [q3, hs2, hs], e1, e2, q2.of_alloc, ?_, ?_, ?_⟩
    · exact q1.same (set_blk 0 (by omega)) (set_blk 0 (by omega))
    · exact (set_blk 0 (by omega)).trans e1
    · exact Go.Proofs.Ytgbadiajdhehpaa.blk_setCell (k := 1) e2)
  have S3 : Hid (∀ w1 w2 w3 : World, w1.heap.size = w.heap.size + 1 → w2.heap.size = w.heap.size + 2 → (w2.setCell ⟨w1.heap.size, 1, none⟩ (.int .i64 (Wr.unzig n1))).heap[w.heap.size]? = some (.cells [.int .i64 0, .int .i64 0, .int .i64 0, .slice none 0 0, .slice none 0 0, .slice none 0 0].toArray 26 (0, 0)) → (w2.setCell ⟨w1.heap.size, 1, none⟩ (.int .i64 (Wr.unzig n1))).heap[w1.heap.size]? = some (.cells [.int .i64 2, .int .i64 (Wr.unzig n1), .int .i64 0, .slice none 0 0, .slice none 0 0, .slice none 0 0].toArray 26 (0, 0)) → Wr.RTo (w2.setCell ⟨w1.heap.size, 1, none⟩ (.int .i64 (Wr.unzig n1))) w3 b g d (0 + k1 + k2 + k3) (0 + k1 + k2) 0 →
      w3.heap[w.heap.size]? = some (.cells [.int .i64 0, .int .i64 0, .int .i64 0, .slice none 0 0, .slice none 0 0, .slice none 0 0].toArray 26 (0, 0)) ∧ w3.heap[w1.heap.size]? = some (.cells [.int .i64 2, .int .i64 (Wr.unzig n1), .int .i64 0, .slice none 0 0, .slice none 0 0, .slice none 0 0].toArray 26 (0, 0)) ∧ Wr.Kept (fun k => k = b ∨ k = w1.heap.size) w2 w3 ∧
      Wr.Rst (w3.setCell ⟨w1.heap.size, 2, none⟩ (.int .i64 (Wr.unzig n2))) b g d (0 + k1 + k2 + k3) (0 + k1 + k2) 0 ∧ (w3.setCell ⟨w1.heap.size, 2, none⟩ (.int .i64 (Wr.unzig n2))).heap[w.heap.size]? = some (.cells [.int .i64 0, .int .i64 0, .int .i64 0, .slice none 0 0, .slice none 0 0, .slice none 0 0].toArray 26 (0, 0)) ∧ (w3.setCell ⟨w1.heap.size, 2, none⟩ (.int .i64 (Wr.unzig n2))).heap[w1.heap.size]? = some (.cells [.int .i64 2, .int .i64 (Wr.unzig n1), .int .i64 (Wr.unzig n2), .slice none 0 0, .slice none 0 0, .slice none 0 0].toArray 26 (0, 0))) := hid_of (fun w1 w2 w3 hs hs2 hz hl h => by
    obtain ⟨q1, q2, q3⟩ := h
    have hss : (w2.setCell ⟨w1.heap.size, 1, none⟩ (.int .i64 (Wr.unzig n1))).heap.size = w2.heap.size := by simp
    have e1 : w3.heap[w.heap.size]? = some (.cells [.int .i64 0, .int .i64 0, .int .i64 0, .slice none 0 0, .slice none 0 0, .slice none 0 0].toArray 26 (0, 0)) := (q2.block w.heap.size (by rw [hss]; omega) (by omega)).trans hz
    have e2 : w3.heap[w1.heap.size]? = some (.cells [.int .i64 2, .int .i64 (Wr.unzig n1), .int .i64 0, .slice none 0 0, .slice none 0 0, .slice none 0 0].toArray 26 (0, 0)) := (q2.block w1.heap.size (by rw [hss]; omega) (by omega)).trans hl
    refine ⟨e1, e2, ?_, ?_, ?_, ?_⟩
    · exact ⟨q2.os, q2.tape, q2.output, by rw [← hss]; exact q2.size, fun k hk hn => (q2.block k (by rw [hss]; exact hk) (fun e => hn (.inl e))).trans (set_blk 0 (fun e => hn (.inr e.symm)))⟩
    · exact q1.same (set_blk 0 (by omega)) (set_blk 0 (by omega))
    · exact (set_blk 0 (by omega)).trans e1
    · exact Go.Proofs.Ytgbadiajdhehpaa.blk_setCell (k := 2) e2)
  have LX1 : Hid ((#[.int .i64 2, .int .i64 (Wr.unzig n1), .int .i64 (Wr.unzig n2), .slice none 0 0, .slice none 0 0, .slice none 0 0] : Array Value).all (·.oneCell') = true) := hid_of (by simp [Value.oneCell'])
  have H2 := hid_of h2
  have H3 := hid_of h3
  clear h h1 h2 h3 hb hg hgb
  go_enter Try.func40, Try.ntmps40
  go_wp2_with (first
    | (go_at_call 58; ((with_reducible refine (C0.out).mono ?_); (rintro e w1 ⟨rfl, r1⟩); (have R1 := hid_of (S1.out w1 r1)); (have C1 := hid_of (Wr.rint_ok b g _ _ n1 k2 d _ R1.out.2.2.2 H2.out)); clear r1))
    | (go_at_call 60; ((with_reducible refine (C1.out).mono ?_); (rintro e w2 ⟨rfl, r1⟩); (have R2 := hid_of (S2.out w1 w2 R1.out.1 R1.out.2.1 r1)); (have s1 := cell_blk R2.out.2.2.1 (j := 1) rfl); (have s2 := fr_blk R2.out.2.2.1 1); (have C2 := hid_of (Wr.rint_ok b g _ _ n2 k3 d _ R2.out.2.2.2.2.1 H3.out)); clear r1))
    | (go_at_call 60; ((with_reducible refine (C2.out).mono ?_); (rintro e w3 ⟨rfl, r1⟩); (have R3 := hid_of (S3.out w1 w2 w3 R1.out.1 R2.out.1 R2.out.2.2.2.2.2.1 R2.out.2.2.2.2.2.2 r1)); (have t1 := cell_blk R3.out.2.1 (j := 2) rfl); (have t2 := fr_blk R3.out.2.1 2); (have y0 := cell_blk R3.out.2.2.2.2.2 (j := 0) rfl); (have y1 := cell_blk R3.out.2.2.2.2.2 (j := 1) rfl); (have y2 := cell_blk R3.out.2.2.2.2.2 (j := 2) rfl); (have y3 := cell_blk R3.out.2.2.2.2.2 (j := 3) rfl); (have y4 := cell_blk R3.out.2.2.2.2.2 (j := 4) rfl); (have y5 := cell_blk R3.out.2.2.2.2.2 (j := 5) rfl); clear r1 s1 s2))
    | (refine wpList_store_row rfl 26 (.tmp 4) (.tmp 108) rfl w.heap.size #[.int .i64 2, .int .i64 (Wr.unzig n1), .int .i64 (Wr.unzig n2), .slice none 0 0, .slice none 0 0, .slice none 0 0] rfl rfl 26 _ R3.out.2.2.2.2.1 infoLat rfl LX1.out ?_))
  refine bodyPost_ret (results_cell_row rfl _ _ w.heap.size 26 #[.int .i64 2, .int .i64 (Wr.unzig n1), .int .i64 (Wr.unzig n2), .slice none 0 0, .slice none 0 0, .slice none 0 0] (0, 0) _ rfl (setRow_heap _ _ _ _ _ _ R3.out.2.2.2.2.1) Try.underlying26 rfl infoLat) rfl ⟨rfl, ?_, ?_⟩
  · exact R3.out.2.2.2.1.same (setRow_other _ _ _ _ (by have := HB.out; omega)) (setRow_other _ _ _ _ (by have := HG.out; omega))
  · have a1 := R1.out.2.2.1
    have a2 := R2.out.2.2.2.1
    have a3 := R3.out.2.2.1
    have z1 := R1.out.1
    have z2 := R2.out.1
    refine ⟨a3.os.trans (a2.os.trans a1.os), a3.tape.trans (a2.tape.trans a1.tape), a3.output.trans (a2.output.trans a1.output), ?_, fun k hk hn => ?_⟩
    · have := a3.size
      simp [World.setRow]
      omega
    · rw [setRow_other _ _ _ _ (by omega)]
      exact (set_blk 0 (by omega)).trans ((a3.block k (by omega) (by omega)).trans ((a2.block k (by omega) hn).trans (a1.block k hk hn)))
end Go.Proofs.Ytgbadiajdhehpaa

/- Decode of package lattice, of a description of the kind Max. Bounds on sizes alone. -/
namespace Go.Proofs.Ytgbadiajdhehpaa
open Go.RowKit

theorem lo_leaf (k lo hi : Int) (rk : R64 k) (rlo : R64 lo) (rhi : R64 hi) (w : World) : LO w k lo hi none 0 0 none 0 0 none 0 0 ⟨k, lo, hi, [], [], []⟩ :=
  ⟨rfl, rfl, rfl, rk, rlo, rhi, ⟨none, 0, rfl, Nat.le_refl _, by omega, fun h => by simp [ss, Lat.ns] at h⟩, by intro y hy; simp [Lat.ns] at hy, rfl, lds_nil w, rfl, rur_nil w, by intro y hy; simp [Lat.rs] at hy, rfl⟩
set_option maxRecDepth 100000 in
set_option maxHeartbeats 3200000 in
theorem decmax_any (ao : Option Addr) (cap k1 k2 k3 n1 n2 : Nat) (d : List Int) (w : World) (hr : ∀ x ∈ d, 0 ≤ x ∧ x ≤ 255) (hl : d.length ≤ 140737488351232)
    (hpos : 0 < d.length → ∃ ad, ao = some ad ∧ ∀ w', Below w.heap.size w w' → ∀ j v, (Wr.bs d)[j]? = some v → w'.cell? (ad.add j) = some v)
    (h1 : Wr.dec (d.drop 0) = some (2, k1)) (h2 : Wr.dec (d.drop (0 + k1)) = some (n1, k2)) (h3 : Wr.dec (d.drop (0 + k1 + k2)) = some (n2, k3)) (hend : 0 + k1 + k2 + k3 = d.length)
    (r1 : R64 (Wr.unzig n1)) (r2 : R64 (Wr.unzig n2)) (hok : chkL ⟨2, Wr.unzig n1, Wr.unzig n2, [], [], []⟩ = 0) :
    Calls Try.prog 23 #[.slice ao d.length cap] w fun e w' => e = .returned (.tuple #[.agg #[.int .i64 2, .int .i64 (Wr.unzig n1), .int .i64 (Wr.unzig n2), .slice none 0 0, .slice none 0 0, .slice none 0 0], .int .i64 0]) ∧ Below w.heap.size w w' := by
  have HBW := hid_of (bel_alloc w (.cells #[.int .i64 0, .int .i64 0, .int .i64 0, .slice none 0 0, .slice none 0 0, .slice none 0 0] 26))
  have NR := hid_of (Wr.newReader_any ao d cap (w.alloc (.cells #[.int .i64 0, .int .i64 0, .int .i64 0, .slice none 0 0, .slice none 0 0, .slice none 0 0] 26)) hr hl (fun h0 => by obtain ⟨ad, e, hc⟩ := hpos h0; exact ⟨ad, e, hc _ HBW.out⟩))
  have RD : Hid (∀ b g w2, Wr.Rst w2 b g d 0 0 0 → Calls Try.prog 40 #[.pointer (some ⟨b, 0, none⟩), .int .i64 1] w2 fun e w' => e = .returned (.agg #[.int .i64 2, .int .i64 (Wr.unzig n1), .int .i64 (Wr.unzig n2), .slice none 0 0, .slice none 0 0, .slice none 0 0]) ∧ Wr.Rst w' b g d d.length (0 + k1 + k2) 0 ∧ Wr.Kept (fun k => k = b) w2 w') := hid_of (fun b g w2 h => by
    have := readmax_any b g k1 k2 k3 n1 n2 d w2 h h1 h2 h3
    rw [hend] at this
    exact this)
  have EN : Hid (∀ b g last w2, Wr.Rst w2 b g d d.length last 0 → Calls Try.prog 41 #[.pointer (some ⟨b, 0, none⟩)] w2 fun e w' => e = .returned (.int .i64 0) ∧ ∃ m, w' = w2.drewN m) := hid_of (fun b g last w2 h => Wr.end_ok b g d.length last d w2 h rfl)
  have CH : Hid (∀ w2, Calls Try.prog 10 #[.agg #[.int .i64 2, .int .i64 (Wr.unzig n1), .int .i64 (Wr.unzig n2), .slice none 0 0, .slice none 0 0, .slice none 0 0]] w2 (ErP 0 w2)) := hid_of (fun w2 => by
    have := check_any _ 2 (Wr.unzig n1) (Wr.unzig n2) none 0 0 none 0 0 none 0 0 w2 (lo_leaf 2 _ _ ⟨by omega, by omega⟩ r1 r2 w2)
    rwa [hok] at this)
  have LX1 : Hid ((#[.int .i64 2, .int .i64 (Wr.unzig n1), .int .i64 (Wr.unzig n2), .slice none 0 0, .slice none 0 0, .slice none 0 0] : Array Value).all (·.oneCell') = true) := hid_of (by simp [Value.oneCell'])
  clear hr hpos h1 h2 h3 hend r1 r2 hok
  go_enter Try.func23, Try.ntmps23
  go_wp2_with (first
    | (go_at_call 39; ((with_reducible refine (NR.out).mono ?_); (rintro e w1 ⟨b, g, rfl, q1, q2, q3, q4⟩); (have R1 := hid_of q1); (have B1 := hid_of q2); (have B3 := hid_of q3); (have Z1 : Hid (w1.heap[w.heap.size]? = some (.cells [.int .i64 0, .int .i64 0, .int .i64 0, .slice none 0 0, .slice none 0 0, .slice none 0 0].toArray 26 (0, 0))) := hid_of ((q2.block _ (by simp)).trans (heap_alloc_new w _))); clear q1 q2 q3 q4))
    | (go_at_call 40; ((with_reducible refine (RD.out b g w1 R1.out).mono ?_); (rintro e w2 ⟨rfl, q1, q2⟩); (have R2 := hid_of q1); (have K2 := hid_of q2); clear q1 q2))
    | (go_at_call 41; ((with_reducible refine (EN.out b g (0 + k1 + k2) (w2.alloc (.cells #[.int .i64 2, .int .i64 (Wr.unzig n1), .int .i64 (Wr.unzig n2), .slice none 0 0, .slice none 0 0, .slice none 0 0] 26)) (R2.out.same ((bel_alloc w2 _).block _ R2.out.blt) ((bel_alloc w2 _).block _ R2.out.glt))).mono ?_); (rintro e w3 ⟨rfl, m, rfl⟩)))
    | (go_at_call 10; ((with_reducible refine (CH.out _).mono ?_); (rintro e w4 ⟨rfl, q1⟩); (have B4 : Hid (Below (w2.alloc (.cells #[.int .i64 2, .int .i64 (Wr.unzig n1), .int .i64 (Wr.unzig n2), .slice none 0 0, .slice none 0 0, .slice none 0 0] 26)).heap.size (w2.alloc (.cells #[.int .i64 2, .int .i64 (Wr.unzig n1), .int .i64 (Wr.unzig n2), .slice none 0 0, .slice none 0 0, .slice none 0 0] 26)) w4) := hid_of ⟨q1.os, q1.tape, q1.output, q1.size, q1.block⟩); (have Z4 : Hid (w4.heap[w.heap.size]? = some (.cells [.int .i64 0, .int .i64 0, .int .i64 0, .slice none 0 0, .slice none 0 0, .slice none 0 0].toArray 26 (0, 0))) := hid_of ((B4.out.block _ (by have := K2.out.size; have := B1.out.size; simp at *; omega)).trans (((bel_alloc w2 _).block _ (by have := K2.out.size; have := B1.out.size; simp at *; omega)).trans ((K2.out.block _ (by have := B1.out.size; simp at *; omega) (by have := B3.out; simp at *; omega)).trans Z1.out)))); (obtain ⟨y0, y1, y2, y3, y4, y5⟩ := box6 2 (Wr.unzig n1) (Wr.unzig n2) none 0 0 none 0 0 none 0 0 B4.out); clear q1))
    | (refine wpList_store_row rfl 26 (.tmp 2) (.tmp 19) rfl w.heap.size #[.int .i64 2, .int .i64 (Wr.unzig n1), .int .i64 (Wr.unzig n2), .slice none 0 0, .slice none 0 0, .slice none 0 0] rfl rfl 26 _ Z4.out infoLat rfl LX1.out ?_))
  refine bodyPost_ret (res_ct rfl w.heap.size rfl (setRow_heap _ _ _ #[.int .i64 2, .int .i64 (Wr.unzig n1), .int .i64 (Wr.unzig n2), .slice none 0 0, .slice none 0 0, .slice none 0 0] _ _ Z4.out) Try.underlying26 rfl infoLat) rfl ⟨rfl, ?_⟩
  have x1 : Below w.heap.size w w1 := HBW.out.trans (B1.out.mono (by simp))
  have x2 : Below w.heap.size w w2 := x1.trans ⟨K2.out.os, K2.out.tape, K2.out.output, K2.out.size, fun k hk => K2.out.block k (by have := x1.size; omega) (by have := B3.out; simp at this; omega)⟩
  exact below_setRow ((x2.trans ((bel_alloc w2 _).mono x2.size)).trans (B4.out.mono (by have := x2.size; simp; omega))) (Nat.le_refl _) _
end Go.Proofs.Ytgbadiajdhehpaa

/- The examples of the chapter hold: awake. No condition. -/
namespace Go.Proofs.Ytgbadiajdhehpaa
open Go.RowKit

theorem pair_row {W : World} {g : Nat} (a b : LX) {ta tb : Lat} (hb : W.heap[g]? = some (.cells (a.q.cs ++ b.q.cs).toArray 26 (0, 0))) (ha : LD W a ta) (hb2 : LD W b tb) : LDs W (.slice (some ⟨g, 0, none⟩) 2 2) [ta, tb] := by
  refine ⟨[a, b], ⟨_, _, rfl, by simp, by simp, fun _ => ⟨g, 0, rfl, lt_of_block hb, fun i t ht => ?_⟩⟩, rfl, fun i y u hy hu => ?_⟩
  · match i, ht with
    | 0, ht =>
      simp only [List.map_cons, List.getElem?_cons_zero, Option.some.injEq] at ht
      subst ht
      exact ⟨cell_blk hb rfl, cell_blk hb rfl, cell_blk hb rfl, cell_blk hb rfl, cell_blk hb rfl, cell_blk hb rfl⟩
    | 1, ht =>
      simp only [List.map_cons, List.map_nil, List.getElem?_cons_succ, List.getElem?_cons_zero, Option.some.injEq] at ht
      subst ht
      exact ⟨cell_blk hb rfl, cell_blk hb rfl, cell_blk hb rfl, cell_blk hb rfl, cell_blk hb rfl, cell_blk hb rfl⟩
    | i + 2, ht => simp at ht
  · match i, hy, hu with
    | 0, hy, hu =>
      simp only [List.getElem?_cons_zero, Option.some.injEq] at hy hu
      subst hy hu
      exact ha
    | 1, hy, hu =>
      simp only [List.getElem?_cons_succ, List.getElem?_cons_zero, Option.some.injEq] at hy hu
      subst hy hu
      exact hb2
    | i + 2, hy, _ => simp at hy
theorem lex_row {W : World} {g : Nat} {t : Lat} {ts : List Lat} (hp : LDs W (.slice (some ⟨g, 0, none⟩) 2 2) ts) (ht : t = ⟨7, 0, 0, [], ts, []⟩) : LO W 7 0 0 none 0 0 (some ⟨g, 0, none⟩) 2 2 none 0 0 t := by
  subst ht
  exact ⟨rfl, rfl, rfl, ⟨by omega, by omega⟩, ⟨by omega, by omega⟩, ⟨by omega, by omega⟩, ⟨none, 0, rfl, Nat.le_refl _, by omega, fun h => by simp [ss, Lat.ns] at h⟩, by intro y hy; simp [Lat.ns] at hy, rfl, hp, hp.len.1, rur_nil W, by intro y hy; simp [Lat.rs] at hy, rfl⟩
def tn : Lat := ⟨2, 0, 9, [], [], []⟩
def ts : Lat := ⟨4, 0, 0, [], [], []⟩
def tx : Lat := ⟨7, 0, 0, [], [tn, ts], []⟩
def tl : Lat := ⟨7, 0, 0, [], [ts, tn], []⟩
theorem lo_n (w : World) : LO w 2 0 9 none 0 0 none 0 0 none 0 0 tn := lo_leaf 2 0 9 ⟨by omega, by omega⟩ ⟨by omega, by omega⟩ ⟨by omega, by omega⟩ w
theorem lo_s (w : World) : LO w 4 0 0 none 0 0 none 0 0 none 0 0 ts := lo_leaf 4 0 0 ⟨by omega, by omega⟩ ⟨by omega, by omega⟩ ⟨by omega, by omega⟩ w
theorem tn_ts : decide (tn = ts) = false := decide_eq_false (by intro h; cases h)
theorem seven_new (w : World) (o0 o1 o2 o3 o4 o5 o6 : Obj) : let W := (((((((w.alloc o0).alloc o1).alloc o2).alloc o3).alloc o4).alloc o5).alloc o6)
    W.heap.size = w.heap.size + 7 ∧ W.heap[w.heap.size]? = some o0 ∧ W.heap[w.heap.size + 1]? = some o1 ∧ W.heap[w.heap.size + 1 + 1]? = some o2 ∧ W.heap[w.heap.size + 1 + 1 + 1]? = some o3 ∧ W.heap[w.heap.size + 1 + 1 + 1 + 1]? = some o4 ∧ W.heap[w.heap.size + 1 + 1 + 1 + 1 + 1]? = some o5 ∧ W.heap[w.heap.size + 1 + 1 + 1 + 1 + 1 + 1]? = some o6 := by
  intro W
  have hs : W.heap.size = w.heap.size + 7 := by simp [W]
  obtain ⟨a0, a1, a2⟩ := three_new w o0 o1 o2
  obtain ⟨b0, b1, b2⟩ := three_new (((w.alloc o0).alloc o1).alloc o2) o3 o4 o5
  have hs3 : (((w.alloc o0).alloc o1).alloc o2).heap.size = w.heap.size + 1 + 1 + 1 := by simp
  have hs6 : ((((((w.alloc o0).alloc o1).alloc o2).alloc o3).alloc o4).alloc o5).heap.size = w.heap.size + 1 + 1 + 1 + 1 + 1 + 1 := by simp
  rw [hs3] at b0 b1 b2
  have c6 := heap_alloc_new ((((((w.alloc o0).alloc o1).alloc o2).alloc o3).alloc o4).alloc o5) o6
  rw [hs6] at c6
  have up : ∀ k, k < w.heap.size + 1 + 1 + 1 + 1 + 1 + 1 → W.heap[k]? = ((((((w.alloc o0).alloc o1).alloc o2).alloc o3).alloc o4).alloc o5).heap[k]? := fun k hk => (bel_alloc _ o6).block k (by rw [hs6]; exact hk)
  have up3 : ∀ k, k < w.heap.size + 1 + 1 + 1 → ((((((w.alloc o0).alloc o1).alloc o2).alloc o3).alloc o4).alloc o5).heap[k]? = (((w.alloc o0).alloc o1).alloc o2).heap[k]? := fun k hk =>
    ((bel_alloc _ o5).block k (by simp; omega)).trans (((bel_alloc _ o4).block k (by simp; omega)).trans ((bel_alloc _ o3).block k (by rw [hs3]; exact hk)))
  exact ⟨hs, (up _ (by omega)).trans ((up3 _ (by omega)).trans a0), (up _ (by omega)).trans ((up3 _ (by omega)).trans a1), (up _ (by omega)).trans ((up3 _ (by omega)).trans a2), (up _ (by omega)).trans b0, (up _ (by omega)).trans b1, (up _ (by omega)).trans b2, c6⟩
set_option maxRecDepth 100000 in
set_option maxHeartbeats 6400000 in
theorem awake_any (w : World) : Calls Try.prog 9 #[] w (BoP true w) := by
  have Z := seven_new w (.cells #[.int .i64 2, .int .i64 0, .int .i64 9, .slice none 0 0, .slice none 0 0, .slice none 0 0] 26) (.cells #[.int .i64 4, .int .i64 0, .int .i64 0, .slice none 0 0, .slice none 0 0, .slice none 0 0] 26) (.cells #[.int .i64 2, .int .i64 0, .int .i64 9, .slice none 0 0, .slice none 0 0, .slice none 0 0, .int .i64 4, .int .i64 0, .int .i64 0, .slice none 0 0, .slice none 0 0, .slice none 0 0] 26) (.cells #[.int .i64 7, .int .i64 0, .int .i64 0, .slice none 0 0, .slice (some ⟨w.heap.size + 1 + 1, 0, none⟩) 2 2, .slice none 0 0] 26) (.cells #[.string { data := #[98] }, .string { data := #[97] }] 9) (.cells #[.int .i64 1, .int .i64 0, .int .i64 0, .slice none 0 0, .slice none 0 0, .slice none 0 0, .int .i64 4, .int .i64 0, .int .i64 0, .slice none 0 0, .slice none 0 0, .slice none 0 0] 26) (.cells #[.int .i64 6, .int .i64 0, .int .i64 0, .slice (some ⟨w.heap.size + 1 + 1 + 1 + 1, 0, none⟩) 2 2, .slice (some ⟨w.heap.size + 1 + 1 + 1 + 1 + 1, 0, none⟩) 2 2, .slice none 0 0] 26)
  simp only at Z
  obtain ⟨zs, z0, z1, z2, z3, z4, z5, z6⟩ := Z
  have HBW : Hid (Below w.heap.size w (((((((w.alloc (.cells #[.int .i64 2, .int .i64 0, .int .i64 9, .slice none 0 0, .slice none 0 0, .slice none 0 0] 26)).alloc (.cells #[.int .i64 4, .int .i64 0, .int .i64 0, .slice none 0 0, .slice none 0 0, .slice none 0 0] 26)).alloc (.cells #[.int .i64 2, .int .i64 0, .int .i64 9, .slice none 0 0, .slice none 0 0, .slice none 0 0, .int .i64 4, .int .i64 0, .int .i64 0, .slice none 0 0, .slice none 0 0, .slice none 0 0] 26)).alloc (.cells #[.int .i64 7, .int .i64 0, .int .i64 0, .slice none 0 0, .slice (some ⟨w.heap.size + 1 + 1, 0, none⟩) 2 2, .slice none 0 0] 26)).alloc (.cells #[.string { data := #[98] }, .string { data := #[97] }] 9)).alloc (.cells #[.int .i64 1, .int .i64 0, .int .i64 0, .slice none 0 0, .slice none 0 0, .slice none 0 0, .int .i64 4, .int .i64 0, .int .i64 0, .slice none 0 0, .slice none 0 0, .slice none 0 0] 26)).alloc (.cells #[.int .i64 6, .int .i64 0, .int .i64 0, .slice (some ⟨w.heap.size + 1 + 1 + 1 + 1, 0, none⟩) 2 2, .slice (some ⟨w.heap.size + 1 + 1 + 1 + 1 + 1, 0, none⟩) 2 2, .slice none 0 0] 26))) := hid_of ⟨rfl, rfl, rfl, by rw [zs]; omega, fun k hk => by
    refine ((bel_alloc _ _).block k (by simp; omega)).trans (((bel_alloc _ _).block k (by simp; omega)).trans (((bel_alloc _ _).block k (by simp; omega)).trans (((bel_alloc _ _).block k (by simp; omega)).trans (((bel_alloc _ _).block k (by simp; omega)).trans (((bel_alloc _ _).block k (by simp; omega)).trans ((bel_alloc _ _).block k hk))))))⟩
  obtain ⟨W, hW⟩ : ∃ W, W = (((((((w.alloc (.cells #[.int .i64 2, .int .i64 0, .int .i64 9, .slice none 0 0, .slice none 0 0, .slice none 0 0] 26)).alloc (.cells #[.int .i64 4, .int .i64 0, .int .i64 0, .slice none 0 0, .slice none 0 0, .slice none 0 0] 26)).alloc (.cells #[.int .i64 2, .int .i64 0, .int .i64 9, .slice none 0 0, .slice none 0 0, .slice none 0 0, .int .i64 4, .int .i64 0, .int .i64 0, .slice none 0 0, .slice none 0 0, .slice none 0 0] 26)).alloc (.cells #[.int .i64 7, .int .i64 0, .int .i64 0, .slice none 0 0, .slice (some ⟨w.heap.size + 1 + 1, 0, none⟩) 2 2, .slice none 0 0] 26)).alloc (.cells #[.string { data := #[98] }, .string { data := #[97] }] 9)).alloc (.cells #[.int .i64 1, .int .i64 0, .int .i64 0, .slice none 0 0, .slice none 0 0, .slice none 0 0, .int .i64 4, .int .i64 0, .int .i64 0, .slice none 0 0, .slice none 0 0, .slice none 0 0] 26)).alloc (.cells #[.int .i64 6, .int .i64 0, .int .i64 0, .slice (some ⟨w.heap.size + 1 + 1 + 1 + 1, 0, none⟩) 2 2, .slice (some ⟨w.heap.size + 1 + 1 + 1 + 1 + 1, 0, none⟩) 2 2, .slice none 0 0] 26)) := ⟨_, rfl⟩
  have HW := hid_of hW
  rw [← hW] at zs z0 z1 z2 z3 z4 z5 z6 HBW
  have HN : Hid (∀ wz, Below W.heap.size W wz → wz.cell? ⟨w.heap.size, 0, none⟩ = some (.int .i64 2) ∧ wz.cell? ⟨w.heap.size, 1, none⟩ = some (.int .i64 0) ∧ wz.cell? ⟨w.heap.size, 2, none⟩ = some (.int .i64 9) ∧ wz.cell? ⟨w.heap.size, 3, none⟩ = some (.slice none 0 0) ∧ wz.cell? ⟨w.heap.size, 4, none⟩ = some (.slice none 0 0) ∧ wz.cell? ⟨w.heap.size, 5, none⟩ = some (.slice none 0 0)) := hid_of (fun wz hz => ⟨blk_kept (cs := [.int .i64 2, .int .i64 0, .int .i64 9, .slice none 0 0, .slice none 0 0, .slice none 0 0]) z0 hz rfl, blk_kept (cs := [.int .i64 2, .int .i64 0, .int .i64 9, .slice none 0 0, .slice none 0 0, .slice none 0 0]) z0 hz rfl, blk_kept (cs := [.int .i64 2, .int .i64 0, .int .i64 9, .slice none 0 0, .slice none 0 0, .slice none 0 0]) z0 hz rfl, blk_kept (cs := [.int .i64 2, .int .i64 0, .int .i64 9, .slice none 0 0, .slice none 0 0, .slice none 0 0]) z0 hz rfl, blk_kept (cs := [.int .i64 2, .int .i64 0, .int .i64 9, .slice none 0 0, .slice none 0 0, .slice none 0 0]) z0 hz rfl, blk_kept (cs := [.int .i64 2, .int .i64 0, .int .i64 9, .slice none 0 0, .slice none 0 0, .slice none 0 0]) z0 hz rfl⟩)
  have HS : Hid (∀ wz, Below W.heap.size W wz → wz.cell? ⟨w.heap.size + 1, 0, none⟩ = some (.int .i64 4) ∧ wz.cell? ⟨w.heap.size + 1, 1, none⟩ = some (.int .i64 0) ∧ wz.cell? ⟨w.heap.size + 1, 2, none⟩ = some (.int .i64 0) ∧ wz.cell? ⟨w.heap.size + 1, 3, none⟩ = some (.slice none 0 0) ∧ wz.cell? ⟨w.heap.size + 1, 4, none⟩ = some (.slice none 0 0) ∧ wz.cell? ⟨w.heap.size + 1, 5, none⟩ = some (.slice none 0 0)) := hid_of (fun wz hz => ⟨blk_kept (cs := [.int .i64 4, .int .i64 0, .int .i64 0, .slice none 0 0, .slice none 0 0, .slice none 0 0]) z1 hz rfl, blk_kept (cs := [.int .i64 4, .int .i64 0, .int .i64 0, .slice none 0 0, .slice none 0 0, .slice none 0 0]) z1 hz rfl, blk_kept (cs := [.int .i64 4, .int .i64 0, .int .i64 0, .slice none 0 0, .slice none 0 0, .slice none 0 0]) z1 hz rfl, blk_kept (cs := [.int .i64 4, .int .i64 0, .int .i64 0, .slice none 0 0, .slice none 0 0, .slice none 0 0]) z1 hz rfl, blk_kept (cs := [.int .i64 4, .int .i64 0, .int .i64 0, .slice none 0 0, .slice none 0 0, .slice none 0 0]) z1 hz rfl, blk_kept (cs := [.int .i64 4, .int .i64 0, .int .i64 0, .slice none 0 0, .slice none 0 0, .slice none 0 0]) z1 hz rfl⟩)
  have HX : Hid (∀ wz, Below W.heap.size W wz → wz.cell? ⟨w.heap.size + 1 + 1 + 1, 0, none⟩ = some (.int .i64 7) ∧ wz.cell? ⟨w.heap.size + 1 + 1 + 1, 1, none⟩ = some (.int .i64 0) ∧ wz.cell? ⟨w.heap.size + 1 + 1 + 1, 2, none⟩ = some (.int .i64 0) ∧ wz.cell? ⟨w.heap.size + 1 + 1 + 1, 3, none⟩ = some (.slice none 0 0) ∧ wz.cell? ⟨w.heap.size + 1 + 1 + 1, 4, none⟩ = some (.slice (some ⟨w.heap.size + 1 + 1, 0, none⟩) 2 2) ∧ wz.cell? ⟨w.heap.size + 1 + 1 + 1, 5, none⟩ = some (.slice none 0 0)) := hid_of (fun wz hz => ⟨blk_kept (cs := [.int .i64 7, .int .i64 0, .int .i64 0, .slice none 0 0, .slice (some ⟨w.heap.size + 1 + 1, 0, none⟩) 2 2, .slice none 0 0]) z3 hz rfl, blk_kept (cs := [.int .i64 7, .int .i64 0, .int .i64 0, .slice none 0 0, .slice (some ⟨w.heap.size + 1 + 1, 0, none⟩) 2 2, .slice none 0 0]) z3 hz rfl, blk_kept (cs := [.int .i64 7, .int .i64 0, .int .i64 0, .slice none 0 0, .slice (some ⟨w.heap.size + 1 + 1, 0, none⟩) 2 2, .slice none 0 0]) z3 hz rfl, blk_kept (cs := [.int .i64 7, .int .i64 0, .int .i64 0, .slice none 0 0, .slice (some ⟨w.heap.size + 1 + 1, 0, none⟩) 2 2, .slice none 0 0]) z3 hz rfl, blk_kept (cs := [.int .i64 7, .int .i64 0, .int .i64 0, .slice none 0 0, .slice (some ⟨w.heap.size + 1 + 1, 0, none⟩) 2 2, .slice none 0 0]) z3 hz rfl, blk_kept (cs := [.int .i64 7, .int .i64 0, .int .i64 0, .slice none 0 0, .slice (some ⟨w.heap.size + 1 + 1, 0, none⟩) 2 2, .slice none 0 0]) z3 hz rfl⟩)
  have LXW : Hid (LO W 7 0 0 none 0 0 (some ⟨w.heap.size + 1 + 1, 0, none⟩) 2 2 none 0 0 tx) := hid_of (lex_row (pair_row ⟨2, 0, 9, .slice none 0 0, .slice none 0 0, .slice none 0 0⟩ ⟨4, 0, 0, .slice none 0 0, .slice none 0 0, .slice none 0 0⟩ z2 (lo_n W).ld (lo_s W).ld) rfl)
  have RN : Rd W (.slice (some ⟨w.heap.size + 1 + 1 + 1 + 1, 0, none⟩) 2 2) (ss [[98], [97]]) := ⟨_, _, rfl, by simp [ss], by simp [ss], fun _ => ⟨_, _, rfl, lt_of_block z4, fun j u hu => by
    rw [Nat.zero_add]
    match j, hu with
    | 0, hu => simp only [ss, List.map_cons, List.getElem?_cons_zero, Option.some.injEq] at hu; subst hu; exact cell_blk (cs := [.string { data := #[98] }, .string { data := #[97] }]) z4 rfl
    | 1, hu => simp only [ss, List.map_cons, List.map_nil, List.getElem?_cons_succ, List.getElem?_cons_zero, Option.some.injEq] at hu; subst hu; exact cell_blk (cs := [.string { data := #[98] }, .string { data := #[97] }]) z4 rfl
    | j + 2, hu => simp [ss] at hu⟩⟩
  have FI := hid_of (field_yes 0 0 (some ⟨w.heap.size + 1 + 1 + 1 + 1, 0, none⟩) 2 2 (w.heap.size + 1 + 1 + 1 + 1 + 1) 0 2 2 none 0 0 4 0 0 none 0 0 none 0 0 none 0 0 [[98], [97]] [97] 1 W RN (.inl ⟨1, rfl, rfl, by intro j hj; match j, hj with | 0, _ => simp⟩) (by omega) (by omega)
    (fun w' h => ⟨blk_kept (cs := [.int .i64 1, .int .i64 0, .int .i64 0, .slice none 0 0, .slice none 0 0, .slice none 0 0, .int .i64 4, .int .i64 0, .int .i64 0, .slice none 0 0, .slice none 0 0, .slice none 0 0]) z5 h rfl, blk_kept (cs := [.int .i64 1, .int .i64 0, .int .i64 0, .slice none 0 0, .slice none 0 0, .slice none 0 0, .int .i64 4, .int .i64 0, .int .i64 0, .slice none 0 0, .slice none 0 0, .slice none 0 0]) z5 h rfl, blk_kept (cs := [.int .i64 1, .int .i64 0, .int .i64 0, .slice none 0 0, .slice none 0 0, .slice none 0 0, .int .i64 4, .int .i64 0, .int .i64 0, .slice none 0 0, .slice none 0 0, .slice none 0 0]) z5 h rfl, blk_kept (cs := [.int .i64 1, .int .i64 0, .int .i64 0, .slice none 0 0, .slice none 0 0, .slice none 0 0, .int .i64 4, .int .i64 0, .int .i64 0, .slice none 0 0, .slice none 0 0, .slice none 0 0]) z5 h rfl, blk_kept (cs := [.int .i64 1, .int .i64 0, .int .i64 0, .slice none 0 0, .slice none 0 0, .slice none 0 0, .int .i64 4, .int .i64 0, .int .i64 0, .slice none 0 0, .slice none 0 0, .slice none 0 0]) z5 h rfl, blk_kept (cs := [.int .i64 1, .int .i64 0, .int .i64 0, .slice none 0 0, .slice none 0 0, .slice none 0 0, .int .i64 4, .int .i64 0, .int .i64 0, .slice none 0 0, .slice none 0 0, .slice none 0 0]) z5 h rfl⟩) (fun cells _ => cells = #[.int .i64 4, .int .i64 0, .int .i64 0, .slice none 0 0, .slice none 0 0, .slice none 0 0]) (fun wz hz _ => (clone_leaf 4 0 0 wz).mono (by
      rintro e w' ⟨rfl, h2⟩
      exact ⟨_, rfl, rfl, by simp [Value.oneCell'], h2, rfl⟩)))
  clear z0 z1 z2 z3 z4 z5 z6 RN
  have HF : Hid (∀ w1 wz : World, Below (w1.alloc (.cells #[.int .i64 4, .int .i64 0, .int .i64 0, .slice none 0 0, .slice none 0 0, .slice none 0 0] 26)).heap.size (w1.alloc (.cells #[.int .i64 4, .int .i64 0, .int .i64 0, .slice none 0 0, .slice none 0 0, .slice none 0 0] 26)) wz → wz.cell? ⟨w1.heap.size, 0, none⟩ = some (.int .i64 4)) := hid_of (fun w1 wz hz => blk_kept (cs := [.int .i64 4, .int .i64 0, .int .i64 0, .slice none 0 0, .slice none 0 0, .slice none 0 0]) (heap_alloc_new w1 _) hz rfl)
  have HD : Hid (∀ w2 wz : World, Below (w2.alloc (.cells #[.int .i64 2, .int .i64 0, .int .i64 9, .slice none 0 0, .slice none 0 0, .slice none 0 0] 26)).heap.size (w2.alloc (.cells #[.int .i64 2, .int .i64 0, .int .i64 9, .slice none 0 0, .slice none 0 0, .slice none 0 0] 26)) wz → wz.cell? ⟨w2.heap.size, 0, none⟩ = some (.int .i64 2) ∧ wz.cell? ⟨w2.heap.size, 1, none⟩ = some (.int .i64 0) ∧ wz.cell? ⟨w2.heap.size, 2, none⟩ = some (.int .i64 9) ∧ wz.cell? ⟨w2.heap.size, 3, none⟩ = some (.slice none 0 0) ∧ wz.cell? ⟨w2.heap.size, 4, none⟩ = some (.slice none 0 0) ∧ wz.cell? ⟨w2.heap.size, 5, none⟩ = some (.slice none 0 0)) := hid_of (fun w2 wz hz => ⟨blk_kept (cs := [.int .i64 2, .int .i64 0, .int .i64 9, .slice none 0 0, .slice none 0 0, .slice none 0 0]) (heap_alloc_new w2 _) hz rfl, blk_kept (cs := [.int .i64 2, .int .i64 0, .int .i64 9, .slice none 0 0, .slice none 0 0, .slice none 0 0]) (heap_alloc_new w2 _) hz rfl, blk_kept (cs := [.int .i64 2, .int .i64 0, .int .i64 9, .slice none 0 0, .slice none 0 0, .slice none 0 0]) (heap_alloc_new w2 _) hz rfl, blk_kept (cs := [.int .i64 2, .int .i64 0, .int .i64 9, .slice none 0 0, .slice none 0 0, .slice none 0 0]) (heap_alloc_new w2 _) hz rfl, blk_kept (cs := [.int .i64 2, .int .i64 0, .int .i64 9, .slice none 0 0, .slice none 0 0, .slice none 0 0]) (heap_alloc_new w2 _) hz rfl, blk_kept (cs := [.int .i64 2, .int .i64 0, .int .i64 9, .slice none 0 0, .slice none 0 0, .slice none 0 0]) (heap_alloc_new w2 _) hz rfl⟩)
  have DC : Hid (∀ w1 : World, Calls Try.prog 23 #[.slice (some ⟨w1.heap.size + 1, 0, none⟩) 3 3] ((w1.alloc (.cells #[.int .i64 4, .int .i64 0, .int .i64 0, .slice none 0 0, .slice none 0 0, .slice none 0 0] 26)).alloc (.cells #[.int .u8 2, .int .u8 0, .int .u8 18] 5)) fun e w' => e = .returned (.tuple #[.agg #[.int .i64 2, .int .i64 0, .int .i64 9, .slice none 0 0, .slice none 0 0, .slice none 0 0], .int .i64 0]) ∧ Below ((w1.alloc (.cells #[.int .i64 4, .int .i64 0, .int .i64 0, .slice none 0 0, .slice none 0 0, .slice none 0 0] 26)).alloc (.cells #[.int .u8 2, .int .u8 0, .int .u8 18] 5)).heap.size ((w1.alloc (.cells #[.int .i64 4, .int .i64 0, .int .i64 0, .slice none 0 0, .slice none 0 0, .slice none 0 0] 26)).alloc (.cells #[.int .u8 2, .int .u8 0, .int .u8 18] 5)) w') := hid_of (fun w1 => by
    have q := (two_new w1 (.cells #[.int .i64 4, .int .i64 0, .int .i64 0, .slice none 0 0, .slice none 0 0, .slice none 0 0] 26) (.cells #[.int .u8 2, .int .u8 0, .int .u8 18] 5)).2
    have u0 : Wr.unzig 0 = 0 := by rfl
    have u1 : Wr.unzig 18 = 9 := by rfl
    have := decmax_any (some ⟨w1.heap.size + 1, 0, none⟩) 3 1 1 1 0 18 [2, 0, 18] ((w1.alloc (.cells #[.int .i64 4, .int .i64 0, .int .i64 0, .slice none 0 0, .slice none 0 0, .slice none 0 0] 26)).alloc (.cells #[.int .u8 2, .int .u8 0, .int .u8 18] 5)) (by intro x hx; simp at hx; omega) (by simp)
      (fun _ => ⟨_, rfl, fun w' hb j v hv => by rw [Addr.add_mid, Nat.zero_add]; exact blk_kept (cs := Wr.bs [2, 0, 18]) q hb hv⟩)
      (by rfl) (by rfl) (by rfl) (by rfl) (by rw [u0]; exact ⟨by omega, by omega⟩) (by rw [u1]; exact ⟨by omega, by omega⟩) (by rw [u0, u1]; kernel_rfl)
    rw [u0, u1] at this
    exact this)
  have EN : Hid (∀ wz : World, Calls Try.prog 22 #[.agg #[.int .i64 2, .int .i64 0, .int .i64 9, .slice none 0 0, .slice none 0 0, .slice none 0 0]] wz fun e w' => ∃ g, e = .returned (.slice (some ⟨g, 0, none⟩) 3 3) ∧ w'.heap[g]? = some (.cells (Wr.bs [2, 0, 18]).toArray 5 (0, 0)) ∧ Below wz.heap.size wz w' ∧ wz.heap.size ≤ g) := hid_of (fun wz =>
    encmax_any 0 9 tn rfl (by kernel_rfl) wz ⟨by omega, by omega⟩ ⟨by omega, by omega⟩ [2, 0, 18] (by
      rw [show Wr.zig 0 = 0 by rfl, show Wr.zig 9 = 18 by rfl, Wr.enc_lt (by omega), Wr.enc_lt (by omega), Wr.enc_lt (by omega)]; rfl))
  have CK1 : Hid (∀ wz : World, Calls Try.prog 10 #[.agg #[.int .i64 2, .int .i64 3, .int .i64 2, .slice none 0 0, .slice none 0 0, .slice none 0 0]] wz (ErP 5 wz)) := hid_of (fun wz => by
    have := check_any _ 2 3 2 none 0 0 none 0 0 none 0 0 wz (lo_leaf 2 3 2 ⟨by omega, by omega⟩ ⟨by omega, by omega⟩ ⟨by omega, by omega⟩ wz)
    rwa [show chkL ⟨2, 3, 2, [], [], []⟩ = 5 by kernel_rfl] at this)
  have CN : Hid (∀ wz : World, Calls Try.prog 14 #[.agg #[.int .i64 2, .int .i64 0, .int .i64 9, .slice none 0 0, .slice none 0 0, .slice none 0 0]] wz (BoP true wz)) := hid_of (fun wz => by
    have := chain_any tn 2 0 9 none 0 0 none 0 0 none 0 0 wz (lo_n wz)
    rwa [show chainL tn = true by kernel_rfl] at this)
  have CX : Hid (∀ wz : World, Below W.heap.size W wz → Calls Try.prog 14 #[.agg #[.int .i64 7, .int .i64 0, .int .i64 0, .slice none 0 0, .slice (some ⟨w.heap.size + 1 + 1, 0, none⟩) 2 2, .slice none 0 0]] wz (BoP false wz)) := hid_of (fun wz hz => by
    have := chain_any tx 7 0 0 none 0 0 _ 2 2 none 0 0 wz (LXW.out.at hz)
    rwa [show chainL tx = false by kernel_rfl] at this)
  have FN : Hid (∀ wz : World, Calls Try.prog 16 #[.agg #[.int .i64 2, .int .i64 0, .int .i64 9, .slice none 0 0, .slice none 0 0, .slice none 0 0]] wz (BoP true wz)) := hid_of (fun wz => by
    have := finite_any tn 2 0 9 none 0 0 none 0 0 none 0 0 wz (lo_n wz)
    rwa [show finL tn = true by kernel_rfl] at this)
  have FX : Hid (∀ wz : World, Below W.heap.size W wz → Calls Try.prog 16 #[.agg #[.int .i64 7, .int .i64 0, .int .i64 0, .slice none 0 0, .slice (some ⟨w.heap.size + 1 + 1, 0, none⟩) 2 2, .slice none 0 0]] wz (BoP false wz)) := hid_of (fun wz hz => by
    have := finite_any tx 7 0 0 none 0 0 _ 2 2 none 0 0 wz (LXW.out.at hz)
    rwa [show finL tx = false by kernel_rfl] at this)
  have DX : Hid (∀ wz : World, Below W.heap.size W wz → Calls Try.prog 18 #[.agg #[.int .i64 7, .int .i64 0, .int .i64 0, .slice none 0 0, .slice (some ⟨w.heap.size + 1 + 1, 0, none⟩) 2 2, .slice none 0 0]] wz (BoP true wz)) := hid_of (fun wz hz => by
    have := dist_any tx 7 0 0 none 0 0 _ 2 2 none 0 0 wz (LXW.out.at hz)
    rwa [show distL tx = true by kernel_rfl] at this)
  have PX : Hid (∀ wz : World, Below W.heap.size W wz → Calls Try.prog 20 #[.agg #[.int .i64 7, .int .i64 0, .int .i64 0, .slice none 0 0, .slice (some ⟨w.heap.size + 1 + 1, 0, none⟩) 2 2, .slice none 0 0]] wz fun e w' => e = .returned (.int .i64 2) ∧ Below wz.heap.size wz w') := hid_of (fun wz hz => by
    have hd : depthL tx = 2 := by kernel_rfl
    have := depth_any tx 7 0 0 none 0 0 _ 2 2 none 0 0 wz (LXW.out.at hz) (by rw [hd]; omega)
    unfold DepP at this
    rwa [hd] at this)
  have EQ1 : Hid (∀ wz : World, Calls Try.prog 12 #[.agg #[.int .i64 2, .int .i64 0, .int .i64 9, .slice none 0 0, .slice none 0 0, .slice none 0 0], .agg #[.int .i64 2, .int .i64 0, .int .i64 9, .slice none 0 0, .slice none 0 0, .slice none 0 0]] wz (BoP true wz)) := hid_of (fun wz => by
    have := equal_any tn tn 2 0 9 none 0 0 none 0 0 none 0 0 2 0 9 none 0 0 none 0 0 none 0 0 wz (lo_n wz) (lo_n wz)
    rwa [show decide (tn = tn) = true by simp] at this)
  have EQ2 : Hid (∀ wz : World, Calls Try.prog 12 #[.agg #[.int .i64 2, .int .i64 0, .int .i64 9, .slice none 0 0, .slice none 0 0, .slice none 0 0], .agg #[.int .i64 4, .int .i64 0, .int .i64 0, .slice none 0 0, .slice none 0 0, .slice none 0 0]] wz (BoP false wz)) := hid_of (fun wz => by
    have := equal_any tn ts 2 0 9 none 0 0 none 0 0 none 0 0 4 0 0 none 0 0 none 0 0 none 0 0 wz (lo_n wz) (lo_s wz)
    rwa [tn_ts] at this)
  have CK2 : Hid (∀ wz : World, Calls Try.prog 10 #[.agg #[.int .i64 7, .int .i64 0, .int .i64 0, .slice none 0 0, .slice (some ⟨wz.heap.size, 0, none⟩) 2 2, .slice none 0 0]] (wz.alloc (.cells #[.int .i64 4, .int .i64 0, .int .i64 0, .slice none 0 0, .slice none 0 0, .slice none 0 0, .int .i64 2, .int .i64 0, .int .i64 9, .slice none 0 0, .slice none 0 0, .slice none 0 0] 26)) (ErP 4 (wz.alloc (.cells #[.int .i64 4, .int .i64 0, .int .i64 0, .slice none 0 0, .slice none 0 0, .slice none 0 0, .int .i64 2, .int .i64 0, .int .i64 9, .slice none 0 0, .slice none 0 0, .slice none 0 0] 26)))) := hid_of (fun wz => by
    have := check_any tl 7 0 0 none 0 0 _ 2 2 none 0 0 (wz.alloc (.cells #[.int .i64 4, .int .i64 0, .int .i64 0, .slice none 0 0, .slice none 0 0, .slice none 0 0, .int .i64 2, .int .i64 0, .int .i64 9, .slice none 0 0, .slice none 0 0, .slice none 0 0] 26)) (lex_row (pair_row ⟨4, 0, 0, .slice none 0 0, .slice none 0 0, .slice none 0 0⟩ ⟨2, 0, 9, .slice none 0 0, .slice none 0 0, .slice none 0 0⟩ (heap_alloc_new wz _) (lo_s _).ld (lo_n _).ld) rfl)
    rwa [show chkL tl = 4 by kernel_rfl] at this)
  have HSTR : Hid (strOfNums [2, 0, 18] = { data := #[2, 0, 18] }) := hid_of (by rfl)
  have FI2 : Hid (Calls Try.prog 25 #[.agg #[.int .i64 6, .int .i64 0, .int .i64 0, .slice (some ⟨w.heap.size + 1 + 1 + 1 + 1, 0, none⟩) 2 2, .slice (some ⟨w.heap.size + 1 + 1 + 1 + 1 + 1, 0, none⟩) 2 2, .slice none 0 0], .string { data := #[97] }] W fun e w' => e = .returned (.tuple #[.agg #[.int .i64 4, .int .i64 0, .int .i64 0, .slice none 0 0, .slice none 0 0, .slice none 0 0], .bool true]) ∧ Below W.heap.size W w') := hid_of (FI.out.mono (by
    rintro e w' ⟨cells, w3, rfl, rfl, _, h⟩
    exact ⟨rfl, h⟩))
  clear FI
  go_enter Try.func9, Try.ntmps9
  clear hW
  go_wp2_with (first
    | (go_at_call 25; ((rw [← HW.out]); (refine (FI2.out).mono ?_); (rintro e w1 ⟨rfl, h1⟩); (have B1 := hid_of h1); clear h1))
    | (go_at_call 23; ((with_reducible refine (DC.out w1).mono ?_); (rintro e w2 ⟨rfl, h2⟩); (have XF0 : Hid (Below (w1.alloc (.cells #[.int .i64 4, .int .i64 0, .int .i64 0, .slice none 0 0, .slice none 0 0, .slice none 0 0] 26)).heap.size (w1.alloc (.cells #[.int .i64 4, .int .i64 0, .int .i64 0, .slice none 0 0, .slice none 0 0, .slice none 0 0] 26)) w2) := hid_of ((bel_alloc _ _).trans (h2.mono (by simp)))); (have XF : Hid (Below (w1.alloc (.cells #[.int .i64 4, .int .i64 0, .int .i64 0, .slice none 0 0, .slice none 0 0, .slice none 0 0] 26)).heap.size (w1.alloc (.cells #[.int .i64 4, .int .i64 0, .int .i64 0, .slice none 0 0, .slice none 0 0, .slice none 0 0] 26)) (w2.alloc (.cells #[.int .i64 2, .int .i64 0, .int .i64 9, .slice none 0 0, .slice none 0 0, .slice none 0 0] 26))) := hid_of (XF0.out.trans ((bel_alloc w2 _).mono XF0.out.size))); (have XW : Hid (Below W.heap.size W (w2.alloc (.cells #[.int .i64 2, .int .i64 0, .int .i64 9, .slice none 0 0, .slice none 0 0, .slice none 0 0] 26))) := hid_of (((B1.out.trans ((bel_alloc w1 _).mono B1.out.size))).trans (XF.out.mono (by have := B1.out.size; simp; omega)))); (have E2 : Hid (Below (w2.alloc (.cells #[.int .i64 2, .int .i64 0, .int .i64 9, .slice none 0 0, .slice none 0 0, .slice none 0 0] 26)).heap.size (w2.alloc (.cells #[.int .i64 2, .int .i64 0, .int .i64 9, .slice none 0 0, .slice none 0 0, .slice none 0 0] 26)) (w2.alloc (.cells #[.int .i64 2, .int .i64 0, .int .i64 9, .slice none 0 0, .slice none 0 0, .slice none 0 0] 26))) := hid_of (Below.refl _ _)); (obtain ⟨n20, n21, n22, n23, n24, n25⟩ := HN.out (w2.alloc (.cells #[.int .i64 2, .int .i64 0, .int .i64 9, .slice none 0 0, .slice none 0 0, .slice none 0 0] 26)) XW.out); clear h2))
    | (go_at_call 22; ((with_reducible refine (EN.out _).mono ?_); (rintro e w3 ⟨g3, rfl, hg3, h3, _⟩); (have E3 := hid_of h3); (have G3 := hid_of hg3); (have cv := Wr.run_str w3 33 9 5 Try.underlying33 Try.underlying5 Try.underlying9 (some ⟨g3, 0, none⟩) [2, 0, 18] 3 (Wr.row_src G3.out)); (rw [HSTR.out] at cv); (simp only [List.length_cons, List.length_nil, Nat.zero_add, Nat.reduceAdd] at cv); clear h3 hg3 n20 n21 n22 n23 n24 n25))
    | (go_at_call 10; ((with_reducible refine (CK1.out _).mono ?_); (rintro e w4 ⟨rfl, h4⟩); (have E4 := hid_of (E3.out.trans (h4.mono E3.out.size))); (obtain ⟨n40, n41, n42, n43, n44, n45⟩ := HN.out w4 (XW.out.trans (E4.out.mono XW.out.size))); clear h4))
    | (go_at_call 14; ((with_reducible refine (CN.out _).mono ?_); (rintro e w5 ⟨rfl, h5⟩); (have E5 := hid_of (E4.out.trans (h5.mono E4.out.size))); (obtain ⟨x50, x51, x52, x53, x54, x55⟩ := HX.out w5 (XW.out.trans (E5.out.mono XW.out.size))); clear n40 n41 n42 n43 n44 n45; clear h5))
    | (go_at_call 14; ((with_reducible refine (CX.out _ (XW.out.trans (E5.out.mono XW.out.size))).mono ?_); (rintro e w6 ⟨rfl, h6⟩); (have E6 := hid_of (E5.out.trans (h6.mono E5.out.size))); (obtain ⟨n60, n61, n62, n63, n64, n65⟩ := HN.out w6 (XW.out.trans (E6.out.mono XW.out.size))); clear x50 x51 x52 x53 x54 x55; clear h6))
    | (go_at_call 16; ((with_reducible refine (FN.out _).mono ?_); (rintro e w7 ⟨rfl, h7⟩); (have E7 := hid_of (E6.out.trans (h7.mono E6.out.size))); (obtain ⟨x70, x71, x72, x73, x74, x75⟩ := HX.out w7 (XW.out.trans (E7.out.mono XW.out.size))); clear n60 n61 n62 n63 n64 n65; clear h7))
    | (go_at_call 16; ((with_reducible refine (FX.out _ (XW.out.trans (E7.out.mono XW.out.size))).mono ?_); (rintro e w8 ⟨rfl, h8⟩); (have E8 := hid_of (E7.out.trans (h8.mono E7.out.size))); (obtain ⟨x80, x81, x82, x83, x84, x85⟩ := HX.out w8 (XW.out.trans (E8.out.mono XW.out.size))); clear x70 x71 x72 x73 x74 x75; clear h8))
    | (go_at_call 18; ((with_reducible refine (DX.out _ (XW.out.trans (E8.out.mono XW.out.size))).mono ?_); (rintro e w9 ⟨rfl, h9⟩); (have E9 := hid_of (E8.out.trans (h9.mono E8.out.size))); (obtain ⟨x90, x91, x92, x93, x94, x95⟩ := HX.out w9 (XW.out.trans (E9.out.mono XW.out.size))); clear x80 x81 x82 x83 x84 x85; clear h9))
    | (go_at_call 20; ((with_reducible refine (PX.out _ (XW.out.trans (E9.out.mono XW.out.size))).mono ?_); (rintro e w10 ⟨rfl, h10⟩); (have E10 := hid_of (E9.out.trans (h10.mono E9.out.size))); (obtain ⟨n100, n101, n102, n103, n104, n105⟩ := HN.out w10 (XW.out.trans (E10.out.mono XW.out.size))); (obtain ⟨d100, d101, d102, d103, d104, d105⟩ := HD.out w2 w10 E10.out); (have f10 := HF.out w1 w10 (XF.out.trans (E10.out.mono XF.out.size))); clear x90 x91 x92 x93 x94 x95; clear h10))
    | (go_at_call 12; ((with_reducible refine (EQ1.out _).mono ?_); (rintro e w11 ⟨rfl, h11⟩); (have E11 := hid_of (E10.out.trans (h11.mono E10.out.size))); (obtain ⟨s110, s111, s112, s113, s114, s115⟩ := HS.out w11 (XW.out.trans (E11.out.mono XW.out.size))); (obtain ⟨d110, d111, d112, d113, d114, d115⟩ := HD.out w2 w11 E11.out); clear f10 d100 d101 d102 d103 d104 d105 n100 n101 n102 n103 n104 n105; clear h11))
    | (go_at_call 12; ((with_reducible refine (EQ2.out _).mono ?_); (rintro e w12 ⟨rfl, h12⟩); (have E12 := hid_of (E11.out.trans (h12.mono E11.out.size))); (obtain ⟨n120, n121, n122, n123, n124, n125⟩ := HN.out w12 (XW.out.trans (E12.out.mono XW.out.size))); (obtain ⟨s120, s121, s122, s123, s124, s125⟩ := HS.out w12 (XW.out.trans (E12.out.mono XW.out.size))); clear d110 d111 d112 d113 d114 d115 s110 s111 s112 s113 s114 s115; clear h12))
    | (go_at_call 10; ((with_reducible refine (CK2.out w12).mono ?_); (rintro e w13 ⟨rfl, h13⟩); (have E13 := hid_of (E12.out.trans (((bel_alloc w12 _).trans (h13.mono (by simp))).mono E12.out.size))); clear h13)))
  go_ret
  exact ⟨rfl, HBW.out.trans ((XW.out.trans (E13.out.mono XW.out.size)).mono HBW.out.size)⟩
end Go.Proofs.Ytgbadiajdhehpaa

/- What is asked of the parts of a description. Plain mathematics. -/
namespace Go.Proofs.Ytgbadiajdhehpaa
open Go.RowKit

mutual
theorem chkT_mono : ∀ (t : Lat) (d c d' c' : Nat), d' ≤ d → c' ≤ c → (chkT t d c).2 = 0 → (chkT t d' c').2 = 0 ∧ (chkT t d' c').1 + c = (chkT t d c).1 + c'
  | ⟨k, lo, hi, ns, ps, rs⟩, d, c, d', c', hd, hc, h => by
    rw [chkT] at h ⊢
    split at h
    · cases h
    · rename_i h1
      split at h
      · rename_i h2; exact absurd h h2
      · rename_i h2
        have := chkTs_mono ps (d + 1) (c + 1) (d' + 1) (c' + 1) (by omega) (by omega) h
        rw [if_neg (by omega), if_neg h2, chkT, if_neg h1, if_neg h2]
        exact ⟨this.1, by omega⟩
theorem chkTs_mono : ∀ (l : List Lat) (d c d' c' : Nat), d' ≤ d → c' ≤ c → (chkTs l d c).2 = 0 → (chkTs l d' c').2 = 0 ∧ (chkTs l d' c').1 + c = (chkTs l d c).1 + c'
  | [], d, c, d', c', hd, hc, h => by rw [chkTs, chkTs]; exact ⟨rfl, by simp only; omega⟩
  | p :: ps, d, c, d', c', hd, hc, h => by
    rw [chkTs] at h
    split at h
    · rename_i h2; exact absurd h h2
    · rename_i h2
      have h2 := Classical.not_not.1 h2
      have a := chkT_mono p d c d' c' hd hc h2
      have b := chkTs_mono ps d (chkT p d c).1 d' (chkT p d' c').1 hd (by omega) h
      rw [chkTs, if_neg (by rw [a.1]; simp), chkTs, if_neg (by rw [h2]; simp)]
      exact ⟨b.1, by omega⟩
end
mutual
theorem chkT_depth : ∀ (t : Lat) (d c : Nat), (chkT t d c).2 = 0 → depthL t + d ≤ 7
  | ⟨k, lo, hi, ns, ps, rs⟩, d, c, h => by
    rw [chkT] at h
    split at h
    · cases h
    · rename_i h1
      split at h
      · rename_i h2; exact absurd h h2
      · rw [depthL]
        have := chkTs_depth ps (d + 1) (c + 1) h
        omega
theorem chkTs_depth : ∀ (l : List Lat) (d c : Nat), (chkTs l d c).2 = 0 → depthsL l = 0 ∨ depthsL l + d ≤ 7
  | [], d, c, h => .inl (by rw [depthsL])
  | p :: ps, d, c, h => by
    rw [chkTs] at h
    split at h
    · rename_i h2; exact absurd h h2
    · rename_i h2
      have h2 := Classical.not_not.1 h2
      have a := chkT_depth p d c h2
      have b := chkTs_depth ps d _ h
      rw [depthsL]
      omega
end
/-- What is asked of the parts of a description without an error. -/
theorem parts_ok {t : Lat} (h : chkL t = 0) : depthL t ≤ 6 ∧ ∀ p ∈ t.ps, chkL p = 0 ∧ (distL t = true → distL p = true) ∧ (finL t = true → finL p = true) := by
  have hd := chkT_depth t 1 0 h
  have ho := okay_of t 1 0 h
  refine ⟨by omega, fun p hp => ?_⟩
  have h1 := h
  unfold chkL at h1
  rw [chkT_eq] at h1
  split at h1
  · cases h1
  · split at h1
    · rename_i h2; exact absurd h1 h2
    · obtain ⟨c', h3⟩ := chkTs_mem _ _ _ h1 p hp
      refine ⟨?_, fun hq => ?_, fun hq => ?_⟩
      · -- at any place: the place 1, 0
        have : ∀ (l : List Lat) (d c : Nat), (chkTs l d c).2 = 0 → 1 ≤ d → p ∈ l → chkL p = 0 := by
          intro l
          induction l with
          | nil => intro d c _ _ hp; cases hp
          | cons q l ih =>
            intro d c h hd hp
            rw [chkTs] at h
            split at h
            · rename_i h2; exact absurd h h2
            · rename_i h2
              rcases List.mem_cons.1 hp with rfl | hp
              · exact (chkT_mono p d c 1 0 hd (Nat.zero_le _) (Classical.not_not.1 h2)).1
              · exact ih _ _ h hd hp
        exact this t.ps _ _ h1 (by omega) hp
      · obtain ⟨k, lo, hi, ns, ps, rs⟩ := t
        rw [distL] at hq
        split at hq
        · cases hq
        · rw [distsL_all, List.all_eq_true] at hq
          exact hq p hp
      · cases ho with
        | mk h0 _ =>
          have hl := shape_leaf (node_shape h0)
          obtain ⟨k, lo, hi, ns, ps, rs⟩ := t
          simp only [Lat.k, Lat.ps] at hl hp
          rw [finL] at hq
          have hno : ps ≠ [] := fun e => by rw [e] at hp; cases hp
          have hk : ¬(k = 1 ∨ k = 2 ∨ k = 3 ∨ k = 10) := fun e => hno (hl (by omega))
          have hk2 : ¬(k = 4 ∨ k = 8) := fun e => hno (hl (by omega))
          rw [if_neg hk, if_neg hk2] at hq
          split at hq
          · rw [Bool.and_eq_true, finsL_all, List.all_eq_true] at hq
            exact hq.2 p hp
          · split at hq
            · rw [finsL_all, List.all_eq_true] at hq
              exact hq p hp
            · cases hq
end Go.Proofs.Ytgbadiajdhehpaa
