/- Texts in one: WireBase, WireWriter, WireWS, WireRdA, WireRdB, WireRdC, LatWmx, LatRmx, LatGe, HldT, LatCq, LatCr. -/
import Derived.Test.YtdmonbcinlmljaaMgFB
import Derived.Test.YtdmonbcinlmljaaRows
import Derived.WalkKit
import Derived.WalkSpells
import Derived.WalkLawsBesides
import Derived.Laws.CopyOwn
import Derived.Deep.RegionHeld3
import Derived.Deep.AppendLies
import Derived.Deep.RegionLaw
import Derived.IntWalk
import Derived.Laws.BitsAllLaws
import Derived.Laws.Bits64
import Derived.Deep.QuietTactic
import Derived.BigQuiet
import Derived.Laws.BytesArg
import Derived.Laws.DeepNot64
import Derived.Deep.RegionHeld
set_option linter.unusedVariables false
set_option linter.unusedSimpArgs false
/- The contracts of clone and of the Writer of package wire: what each call does to the world. No condition but bounds on sizes. -/
namespace Go.Proofs.Ytdmonbcinlmljaa.Wr
open Go.RowKit

theorem Try.infoU8 : (Try.prog.info? 5).map (fun i => (i.zero, i.size, i.bytes)) = some (some (.int .u8 0), 1, 1) := by kernel_rfl
theorem Try.sizeU8 : (Try.prog.info? 5).map (·.size) = some 1 := by kernel_rfl

/-- The cells of a list of bytes. -/
def bs (l : List Int) : List Value := l.map (Value.int .u8)
theorem bs_length (l : List Int) : (bs l).length = l.length := by simp [bs]
theorem bs_one (l : List Int) : ∀ v ∈ bs l, v.oneCell' = true := by
  intro v hv; simp [bs] at hv; obtain ⟨x, _, rfl⟩ := hv; rfl
theorem bs_append (a b : List Int) : bs (a ++ b) = bs a ++ bs b := by simp [bs]

theorem hid_of {p : Prop} (h : p) : Hid p := h

/-- What make has laid, as a whole block. -/
theorem made_row {w : World} {B g e n : Nat} {z : Value} {xs : List Value} (h : w.ownsRow B e 1 (.slice (some ⟨g, 0, none⟩) n n) n xs) (hx : xs = (madeCells #[z] n).toList := by (first | rfl | simp)) :
    w.heap[g]? = some (.cells (List.replicate n z).toArray e (0, 0)) := by
  obtain ⟨hn0, hn1⟩ := h
  rcases hn1 with ⟨h, _⟩ | ⟨g, cap', cur, h, _, hg, _, _, hsz, ht⟩
  · cases h
  · cases h
    rw [hg]
    have e : cur.toList = (madeCells #[z] n).toList := by
      rw [← hx, ← ht, List.take_of_length_le (by simp [hsz])]
    rw [toList_madeCells_one] at e
    rw [← e]

set_option maxHeartbeats 400000 in
theorem clone_any (ao : Option Addr) (l : List Int) (cap : Nat) (w : World) (hl : l.length ≤ 140737488351232)
    (hpos : 0 < l.length → ∃ ad, ao = some ad ∧ ∀ j v, (bs l)[j]? = some v → w.cell? (ad.add j) = some v) :
    Calls Try.prog 53 #[.slice ao l.length cap] w fun e w' => e = .returned (.slice (some ⟨w.heap.size, 0, none⟩) l.length l.length) ∧
      w'.heap[w.heap.size]? = some (.cells (bs l).toArray 5 (0, 0)) ∧ Below w.heap.size w w' := by
  obtain ⟨i0, hi, hz0, hz1, hz2⟩ := info_parts Try.infoU8
  go_enter Try.func53, Try.ntmps53
  go_wp2_with (first | (at_make; refine wpList_make_full _ rfl _ _ 34 rfl w.heap.size 5 i0 (.int .u8 0) 1 Try.underlying34 hi hz0 hz1 .i64 .i64 l.length l.length l.length rfl rfl rfl rfl ?b2 ?b3 ?b4 ?_))
  case b2 => rw [hz2]; omega
  case b3 => unfold maxLen; omega
  case b4 => exact Nat.le_refl _
  intro w1 hown hgrow
  have hH := made_row hown
  have hb : Below w.heap.size w w1 := (Below.refl _ _).grown hgrow (Nat.le_refl _) (fun k h => by cases h)
  clear hown hgrow
  have hcells : Hid (0 < (bs l).length → ∃ ad, ao = some ad ∧ ∀ j v, (bs l)[j]? = some v → w1.cell? (ad.add j) = some v) := by
    intro h0
    obtain ⟨ad, ha, hc⟩ := hpos (by simpa [bs] using h0)
    refine ⟨ad, ha, fun j v hv => ?_⟩
    have h1 := hc j v hv
    rw [hb.cell (World.block_lt_of_cell? w _ h1)]
    exact h1
  go_wp2_with (with_reducible refine wpList_copy_splice rfl _ _ 34 34 rfl 5 Try.underlying34 Try.sizeU8 (some ⟨w.heap.size, 0, none⟩) ao l.length l.length l.length cap rfl rfl w.heap.size 0 (List.replicate l.length (Value.int .u8 0)) 5 hH (bs l) (by simp [bs]) ?hp ?hf ?h1 w.heap.size w hb (Nat.le_refl _) ?_)
  case hp => exact hcells.out
  case hf => simp [bs]
  case h1 => exact bs_one l
  intro w2 HG2 hB2
  go_wp2
  go_ret
  refine ⟨rfl, ?_, hB2⟩
  have := HG2.out
  rw [this]
  simp [splice, bs]

/-- The Writer in block b holds the bytes l, in the row of v. -/
structure Wst (B b : Nat) (w : World) (v : Value) (l : List Int) : Prop where
  blk : w.heap[b]? = some (.cells #[v] 52 (0, 0))
  own : w.ownsRow B 5 1 v l.length (bs l)

/-- Between w and w' nothing has turned but the blocks of S and new ones. -/
structure Kept (S : Nat → Prop) (w w' : World) : Prop where
  os : w'.os = w.os
  tape : w'.tape = w.tape
  output : w'.output = w.output
  size : w.heap.size ≤ w'.heap.size
  block : ∀ k, k < w.heap.size → ¬ S k → w'.heap[k]? = w.heap[k]?


theorem blk_setCell {w : World} {g k t : Nat} {cur : List Value} {u : Value} (h : w.heap[g]? = some (.cells cur.toArray t (0, 0))) :
    (w.setCell ⟨g, k, none⟩ u).heap[g]? = some (.cells (cur.set k u).toArray t (0, 0)) := by
  have hlt := lt_of_block h
  have h' : w.heap[g] = .cells cur.toArray t (0, 0) := by simpa [Array.getElem?_eq_getElem hlt] using h
  show (w.heap.modify g _)[g]? = _
  rw [Array.getElem?_eq_getElem (by simpa using hlt), Array.getElem_modify_self, h']
  simp

/-- What is owned stays owned where the row's block is as it was. -/
theorem own_same {w w' : World} {base e size n : Nat} {v : Value} {xs : List Value} (h : w.ownsRow base e size v n xs) (hs : ∀ k, v.ownBlock = some k → w'.heap[k]? = w.heap[k]?) : w'.ownsRow base e size v n xs := by
  obtain ⟨h1, h2⟩ := h
  refine ⟨h1, ?_⟩
  rcases h2 with h2 | ⟨g, cap, cur, hv, hb, hg, r⟩
  · exact .inl h2
  · exact .inr ⟨g, cap, cur, hv, hb, (hs g (by rw [hv]; rfl)).trans hg, r⟩

theorem Wst.ne {B b : Nat} {w : World} {v : Value} {l : List Int} (h : Wst B b w v l) : v.ownBlock ≠ some b := by
  intro e
  rcases h.own.2 with ⟨h2, _⟩ | ⟨g, cap, cur, hv, _, hg, _⟩
  · rw [h2] at e; cases e
  · rw [hv] at e
    have : g = b := by simpa [Value.ownBlock] using e
    subst this
    rw [h.blk] at hg; cases hg

theorem Kept.below {S : Nat → Prop} {w w' : World} {B : Nat} (h : Kept S w w') (hB : B ≤ w.heap.size) (hS : ∀ k, S k → B ≤ k) : Below B w w' :=
  ⟨h.os, h.tape, h.output, h.size, fun k hk => h.block k (by omega) (fun hs => by have := hS k hs; omega)⟩

theorem mask_or (m : Nat) (h : m < 18446744073709551616) : bits BinOp.or IntKind.u8 (bits BinOp.and IntKind.u64 (m : Int) 127 % 256) 128 = ((m % 128 + 128 : Nat) : Int) := by
  have h1 : bits BinOp.and IntKind.u64 (m : Int) 127 = ((m % 128 : Nat) : Int) := by
    have := u64_and_nat m 127 h (by omega)
    rw [nat_mask7] at this
    exact_mod_cast this
  rw [h1]
  have h2 : ((m % 128 : Nat) : Int) % 256 = ((m % 128 : Nat) : Int) := by omega
  rw [h2]
  have h3 := u8_or_nat (m % 128) 128 (by omega) (by omega)
  rw [show ((128 : Nat) : Int) = 128 from rfl] at h3
  rw [h3]
  have h4 : m % 128 ||| 128 = 128 + m % 128 := by rw [Nat.or_comm]; exact nat_join 7 128 (m % 128) (by decide) (by omega)
  rw [h4, Nat.add_comm]

theorem take_set {cur : List Value} {k : Nat} {xs : List Value} {u : Value} (hl : k < cur.length) (h : cur.take k = xs) : (cur.set k u).take (k + 1) = xs ++ [u] := by
  rw [List.take_add_one, List.take_set_of_le (Nat.le_refl k), h]
  simp [hl]

set_option maxHeartbeats 1000000 in
theorem uint_any (n : Nat) (b B : Nat) (v : Value) (l : List Int) (w : World) (hn : n < 18446744073709551616) (h : Wst B b w v l) (hl : l.length ≤ 140737488300000) (hB : B ≤ w.heap.size) :
    Calls Try.prog 49 #[.pointer (some ⟨b, 0, none⟩), .int .u64 n] w fun e w' => e = .returned (.tuple #[]) ∧
      ∃ v', Wst B b w' v' (l ++ enc n) ∧ Kept (fun k => k = b ∨ v.ownBlock = some k) w w' ∧ (v'.ownBlock = v.ownBlock ∨ ∀ g, v'.ownBlock = some g → w.heap.size ≤ g) := by
  obtain ⟨i0, hi, hz0, hz1, hz2⟩ := info_parts Try.infoU8
  have hbl := lt_of_block h.blk
  have hbH : b ≠ w.heap.size := by omega
  have hel := enc_length_10 n hn
  go_enter Try.func49, Try.ntmps49
  go_wp2
  go_loopw [1, 5] (fun nv kv wr => ∃ k : Nat, k ≤ 9 ∧ kv = .int .i64 k ∧ nv = .int .u64 ((n / 128 ^ k : Nat) : Int) ∧ Hid (∀ j, j < k → 128 ≤ n / 128 ^ j) ∧ Hid (wr.heap.size = w.heap.size + 1) ∧ Below w.heap.size w wr ∧
      ∃ cur : List Value, Hid (cur.length = 10 ∧ cur.take k = bs (encTake k n)) ∧ wr.heap[w.heap.size]? = some (.cells cur.toArray 93 (0, 0)))
    (fun _ i _ => 10 - (intOf i).toNat)
  case atStart =>
    refine ⟨0, by omega, rfl, by simp, fun j hj => by omega, by simp [Hid], (Below.refl _ _).alloc (Nat.le_refl _) _, List.replicate 10 (.int .u8 0), ⟨rfl, rfl⟩, ?_⟩
    rw [heap_alloc_new]; rfl
  case round =>
    obtain ⟨k, hk, rfl, rfl, hge, hsz, hbel, cur, hcur, hblk⟩ := hrel
    have hc0 : wr.cell? ⟨w.heap.size, k, none⟩ = some (cur.getD k (.int .u8 0)) := by
      have := hcur.out.1
      rw [cell_of_row _ _ _ _ _ _ hblk]
      simp [List.getD, show k < cur.length by omega]
    have hf0 : wr.frozen? ⟨w.heap.size, k, none⟩ = false := by simp [World.frozen?, hblk]
    obtain ⟨m, hm⟩ : ∃ m, m = n / 128 ^ k := ⟨_, rfl⟩
    rw [← hm]
    have hmn : m ≤ n := by rw [hm]; exact Nat.div_le_self _ _
    have HM : Hid (m = n / 128 ^ k) := hm
    have HB : Hid (wr.heap[w.heap.size]? = some (.cells cur.toArray 93 (0, 0))) := hblk
    clear hm hblk
    by_cases hlt : m < 128
    · have hd : decide ((127 : Int) < (m : Int)) = false := by simp; omega
      have hX0 : Hid ((wr.setCell ⟨w.heap.size, k, none⟩ (.int .u8 m)).heap[w.heap.size]? = some (.cells (cur.set k (.int .u8 m)).toArray 93 (0, 0))) := blk_setCell HB.out
      have hX1 : Below w.heap.size w (wr.setCell ⟨w.heap.size, k, none⟩ (.int .u8 m)) := hbel.setCell (Nat.le_refl _) _
      have hX2 : Hid ((wr.setCell ⟨w.heap.size, k, none⟩ (.int .u8 m)).heap.size = w.heap.size + 1) := hid_of (by have := hsz.out; show (wr.heap.modify _ _).size = _; rw [Array.size_modify]; exact this)
      go_wp2
      clear hc0 hf0
      generalize wr.setCell ⟨w.heap.size, k, none⟩ (.int .u8 m) = X at *
      have hXs := hX2.out
      have hXv : X.cell? ⟨b, 0, none⟩ = some v := (hX1.cell (p := ⟨b, 0, none⟩) hbl).trans (cell_of_one h.blk)
      have hXf : X.frozen? ⟨b, 0, none⟩ = false := (hX1.frozen (p := ⟨b, 0, none⟩) hbl).trans (free_of_one h.blk)
      have hXo : X.ownsRow B 5 1 v l.length (bs l) := own_same h.own fun k hk => hX1.block k (h.own.lt k hk).2
      have hnew : Hid (bs (enc n) = (cur.set k (.int .u8 m)).take (k + 1)) := hid_of (by
        obtain ⟨c1, c2⟩ := hcur.out
        rw [take_set (by omega) c2, enc_take k n hge.out, ← HM.out, enc_lt hlt]
        simp [bs])
      have hnl : Hid ((enc n).length = k + 1) := hid_of (by
        obtain ⟨c1, c2⟩ := hcur.out
        have := congrArg List.length hnew.out
        simp [bs, c1] at this
        omega)
      have hnw : ∀ j u, (bs (enc n))[j]? = some u → X.drew.cell? ((⟨w.heap.size, 0, none⟩ : Addr).add j) = some u := by
        intro j u hu
        refine World.news_of_block (cs := (cur.set k (.int .u8 m)).toArray) (t := 93) (fr := (0, 0)) hX0.out j u ?_
        rw [hnew.out, List.getElem?_take] at hu
        split at hu
        · simpa using hu
        · cases hu
      have HNW := hid_of hnw
      clear hnw
      have a1 : IntKind.i64.wrap ((k : Int) + 1) = (k : Int) + 1 := IntWalk.i64_in _ (by omega)
      have a2 : (0 : Int) ≤ (k : Int) + 1 := by omega
      have a3 : (k : Int) + 1 ≤ 10 := by omega
      have a4 : ((k : Int) + 1).toNat = k + 1 := by omega
      go_region_law
        ((refine step_append_lies _ (by rfl) _ _ _ (by rfl) B 5 i0 _ 1 1 Try.underlying34 hi hz0 hz1 hz2 rfl (by omega) v l.length (bs l) (by rfl) (hXo.drew)
            ⟨w.heap.size, 0, none⟩ (k + 1) 10 (bs (enc n)) (by rfl) (by rw [bs_length, hnl.out]; omega) HNW.out (bs_one _)
            (by omega) (by unfold maxLen; omega) (by omega) (by simp; omega) (w.heap.size + 1) (by simp; omega) ?_; intro gg cap w1 hown1 hgrow hat hlt; have k0 : w1.cell? ⟨b, 0, none⟩ = some v := (hgrow.cell_far ⟨b, 0, none⟩ (by simp; omega) (Ne.symm h.ne)).trans hXv; have k1 : w1.frozen? ⟨b, 0, none⟩ = false := (hgrow.frozen_far ⟨b, 0, none⟩ (by simp; omega) (Ne.symm h.ne)).trans hXf))
      go_end0
      refine ⟨rfl, .slice (some ⟨gg, 0, none⟩) (l.length + (k + 1)) cap, ⟨one_setCell (v := v) ?_, ?_⟩, ?_, ?_⟩
      · rw [hgrow.block b (by simp; omega) (Ne.symm h.ne)]
        exact (hX1.block b hbl).trans h.blk
      · have e1 : (l ++ enc n).length = l.length + (k + 1) := by rw [List.length_append, hnl.out]
        rw [e1, bs_append]
        refine ownsRow_setCell_other hown1 ?_ _
        intro e
        have e2 : gg = b := by simpa [Value.ownBlock] using e
        rcases hat with hat | hat
        · rw [e2] at hat; exact h.ne hat
        · omega
      · refine ⟨hgrow.os.trans hX1.os, hgrow.tape.trans hX1.tape, hgrow.output.trans hX1.output, ?_, ?_⟩
        · have e1 := hgrow.size
          have e2 : X.drew.heap.size = X.heap.size := rfl
          show w.heap.size ≤ (w1.heap.modify _ _).size
          rw [Array.size_modify]
          omega
        · intro q hq hS
          rw [Below.heap_setCell _ _ _ _ (fun e => hS (Or.inl e)), hgrow.block q (by simp; omega) (fun e => hS (Or.inr e.symm))]
          exact hX1.block q hq
      · rcases hat with hat | hat
        · exact Or.inl hat.symm
        · refine Or.inr fun g hg => ?_
          have : gg = g := by simpa [Value.ownBlock] using hg
          omega
    · have hk8 : k ≤ 8 := by
        have h1 := HM.out
        rcases Nat.lt_or_ge k 9 with h2 | h2
        · omega
        · obtain rfl : k = 9 := by omega
          have h3 : m = n / 9223372036854775808 := h1
          omega
      have hd : decide ((127 : Int) < (m : Int)) = true := by simp; omega
      have hbits := mask_or m (by omega)
      go_wp2
      go_roundw
      case rel =>
        refine ⟨k + 1, by omega, by go_num, ?_, ?_, ?_, hbel.setCell (Nat.le_refl _) _, cur.set k (.int .u8 ((m % 128 + 128 : Nat) : Int)), ?_, blk_setCell HB.out⟩
        · rw [HM.out, Nat.pow_succ, ← Nat.div_div_eq_div_mul]
          go_num
        · refine hid_of fun j hj => ?_
          rcases Nat.lt_or_ge j k with h1 | h1
          · exact hge.out j h1
          · obtain rfl : j = k := by omega
            rw [← HM.out]; omega
        · refine hid_of ?_
          have := hsz.out
          show (wr.heap.modify _ _).size = _
          rw [Array.size_modify]; exact this
        · obtain ⟨c1, c2⟩ := hcur.out
          refine hid_of ⟨by simpa using c1, ?_⟩
          rw [take_set (by omega) c2, encTake_snoc, HM.out]
          simp [bs]
      case measure => simp [intOf]; omega

end Go.Proofs.Ytdmonbcinlmljaa.Wr

/- The contracts of the Writer's other methods. No condition but bounds on sizes. -/
namespace Go.Proofs.Ytdmonbcinlmljaa.Wr
open Go.RowKit

theorem own_shape {w : World} {base e size n : Nat} {v : Value} {xs : List Value} (h : w.ownsRow base e size v n xs) : ∃ ao cap, v = .slice ao n cap := by
  rcases h.2 with ⟨h1, h2⟩ | ⟨g, cap, cur, h1, _⟩
  · exact ⟨none, 0, by rw [h1, h2]⟩
  · exact ⟨_, cap, h1⟩

/-- What is owned, as cells behind its address. -/
theorem own_src {w : World} {base e n cap : Nat} {ao : Option Addr} {xs : List Value} (h : w.ownsRow base e 1 (.slice ao n cap) n xs) : 0 < n → ∃ ad, ao = some ad ∧ ∀ j u, xs[j]? = some u → w.cell? (ad.add j) = some u := by
  intro h0
  rcases h.2 with ⟨h1, h2⟩ | ⟨g, cap', cur, h1, _⟩
  · omega
  · cases h1
    exact ⟨_, rfl, h.cells rfl⟩

theorem Wst.alloc {B b : Nat} {w : World} {v : Value} {l : List Int} (h : Wst B b w v l) (o : Obj) : Wst B b (w.alloc o) v l :=
  ⟨by rw [Below.heap_alloc _ _ _ (lt_of_block h.blk)]; exact h.blk, h.own.alloc o⟩

/-- What the last store of a Writer's method leaves. -/
theorem wst_store {B b n2 : Nat} {w1 w2 : World} {v1 v2 : Value} {l1 l2 : List Int} (h : Wst B b w1 v1 l1) (hown : w2.ownsRow B 5 1 v2 n2 (bs l2)) (hn : n2 = l2.length) (hg : w1.grownBy w2 v1.ownBlock)
    (hat : v2.ownBlock = v1.ownBlock ∨ v2.ownBlock = some w1.heap.size) :
    Wst B b (w2.setCell ⟨b, 0, none⟩ v2) v2 l2 ∧ Kept (fun k => k = b ∨ v1.ownBlock = some k) w1 (w2.setCell ⟨b, 0, none⟩ v2) ∧ (v2.ownBlock = v1.ownBlock ∨ ∀ g, v2.ownBlock = some g → w1.heap.size ≤ g) := by
  subst hn
  have hbl := lt_of_block h.blk
  have hblk2 : w2.heap[b]? = some (.cells #[v1] 52 (0, 0)) := (hg.block b hbl (Ne.symm h.ne)).trans h.blk
  refine ⟨⟨one_setCell (v := v1) hblk2, ownsRow_setCell_other hown ?_ _⟩, ⟨hg.os, hg.tape, hg.output, ?_, ?_⟩, ?_⟩
  · intro e
    rcases hat with hat | hat
    · rw [hat] at e; exact h.ne e
    · rw [hat] at e
      have : w1.heap.size = b := by simpa using e
      omega
  · show w1.heap.size ≤ (w2.heap.modify _ _).size
    rw [Array.size_modify]; exact hg.size
  · intro q hq hS
    rw [Below.heap_setCell _ _ _ _ (fun e => hS (Or.inl e)), hg.block q hq (fun e => hS (Or.inr e.symm))]
  · rcases hat with hat | hat
    · exact Or.inl hat
    · refine Or.inr fun g hgg => ?_
      rw [hat] at hgg
      have : w1.heap.size = g := by simpa using hgg
      omega

theorem Kept.trans {S T : Nat → Prop} {a b c : World} (h : Kept S a b) (k : Kept T b c) (hST : ∀ q, q < a.heap.size → T q → S q) : Kept S a c :=
  ⟨k.os.trans h.os, k.tape.trans h.tape, k.output.trans h.output, Nat.le_trans h.size k.size, fun q hq hS => (k.block q (by have := h.size; omega) (fun ht => hS (hST q hq ht))).trans (h.block q hq hS)⟩
theorem Kept.of_alloc {S : Nat → Prop} {a c : World} {o : Obj} (k : Kept S (a.alloc o) c) : Kept S a c :=
  ⟨k.os, k.tape, k.output, by have := k.size; simp at this; omega, fun q hq hS => (k.block q (by simp; omega) hS).trans (Below.heap_alloc _ _ _ hq)⟩

/-- The bytes of a string. -/
def strBytes (s : ByteArray) : List Int := s.data.toList.map fun b => (b.toNat : Int)
theorem strBytes_length (s : ByteArray) : (strBytes s).length = s.size := by simp [strBytes]
theorem byteCells_eq (s : ByteArray) : byteCells s = bs (strBytes s) := by simp [byteCells, bs, strBytes]

theorem src_str (s : ByteArray) (w : World) : Src Try.prog 1 9 (.string s) s.size (bs (strBytes s)) w := by
  have := Src.ofString (P := Try.prog) w Try.underlying9 s
  rwa [byteCells_eq] at this
theorem src_slice (ao : Option Addr) (m : List Int) (cap : Nat) (w : World) (h : 0 < m.length → ∃ ad, ao = some ad ∧ ∀ j v, (bs m)[j]? = some v → w.cell? (ad.add j) = some v) (hnil : ao = none → cap = 0) :
    Src Try.prog 1 34 (.slice ao m.length cap) m.length (bs m) w := by
  cases m with
  | nil =>
    cases ao with
    | none => exact Src.ofNil w Try.underlying34 cap
    | some ad => exact Src.ofSlice w Try.underlying34 ad 0 cap [] rfl (fun j u hu => absurd hu (by simp)) (fun u hu => absurd hu (by simp))
  | cons x r =>
    obtain ⟨ad, rfl, hc⟩ := h (by simp)
    exact Src.ofSlice w Try.underlying34 ad _ cap _ (by simp [bs]) hc (bs_one _)

theorem kept_two {b : Nat} {v v1 : Value} {w w1 w2 : World} (h1 : Kept (fun k => k = b ∨ v.ownBlock = some k) w w1) (h2 : Kept (fun k => k = b ∨ v1.ownBlock = some k) w1 w2)
    (ho : v1.ownBlock = v.ownBlock ∨ ∀ g, v1.ownBlock = some g → w.heap.size ≤ g) : Kept (fun k => k = b ∨ v.ownBlock = some k) w w2 :=
  h1.trans h2 fun q hq hT => by
    rcases hT with hT | hT
    · exact Or.inl hT
    · rcases ho with ho | ho
      · exact Or.inr (ho ▸ hT)
      · have := ho q hT; omega
theorem own_two {v v1 v2 : Value} {w w1 : World} (hs : w.heap.size ≤ w1.heap.size) (h1 : v1.ownBlock = v.ownBlock ∨ ∀ g, v1.ownBlock = some g → w.heap.size ≤ g) (h2 : v2.ownBlock = v1.ownBlock ∨ ∀ g, v2.ownBlock = some g → w1.heap.size ≤ g) :
    v2.ownBlock = v.ownBlock ∨ ∀ g, v2.ownBlock = some g → w.heap.size ≤ g := by
  rcases h2 with h2 | h2
  · rw [h2]; exact h1
  · exact Or.inr fun g hg => Nat.le_trans hs (h2 g hg)

set_option maxHeartbeats 400000 in
theorem text_any (s : ByteArray) (b B : Nat) (v : Value) (l : List Int) (w : World) (h : Wst B b w v l) (hs : s.size ≤ 70000000000000) (hl : l.length ≤ 70000000000000) (hB : B ≤ w.heap.size) :
    Calls Try.prog 52 #[.pointer (some ⟨b, 0, none⟩), .string s] w fun e w' => e = .returned (.tuple #[]) ∧
      ∃ v', Wst B b w' v' (l ++ enc s.size ++ strBytes s) ∧ Kept (fun k => k = b ∨ v.ownBlock = some k) w w' ∧ (v'.ownBlock = v.ownBlock ∨ ∀ g, v'.ownBlock = some g → w.heap.size ≤ g) := by
  obtain ⟨i0, hi, hz0, hz1, hz2⟩ := info_parts Try.infoU8
  have hbl := lt_of_block h.blk
  have hel := enc_length_10 s.size (by omega)
  go_enter Try.func52, Try.ntmps52
  go_wp2_with (first
    | (go_at_call 49; refine (uint_any s.size b B v l w (by omega) h (by omega) hB).mono ?_; rintro e w1 ⟨rfl, v1, h1, hk1, ho1⟩; have c0 := cell_of_one h1.blk; have c1 := free_of_one h1.blk; have H1 := hid_of h1; have HK1 := hid_of hk1; have HO1 := hid_of ho1; have hBw : B ≤ w1.heap.size := Nat.le_trans hB hk1.size; clear h1 hk1 ho1)
    | (at_builtin; with_reducible refine wpList_append_src _ rfl _ _ 34 9 rfl B 5 i0 (.int .u8 0) 1 1 Try.underlying34 hi hz0 hz1 hz2 rfl (by decide) v1 (l ++ enc s.size).length (bs (l ++ enc s.size)) rfl H1.out.own (.string s) s.size (bs (strBytes s)) rfl (src_str s _) (by rw [List.length_append]; unfold maxLen; omega) (by rw [List.length_append]; omega) hBw ?_
       intro v2 w2 hown2 hg2 _ hat2
       have k0 : w2.cell? ⟨b, 0, none⟩ = some v1 := (hg2.cell_far ⟨b, 0, none⟩ (lt_of_block H1.out.blk) (Ne.symm H1.out.ne)).trans c0
       have k1 : w2.frozen? ⟨b, 0, none⟩ = false := (hg2.frozen_far ⟨b, 0, none⟩ (lt_of_block H1.out.blk) (Ne.symm H1.out.ne)).trans c1
       have R := hid_of (wst_store (l2 := l ++ enc s.size ++ strBytes s) H1.out (by rw [bs_append _ (strBytes s)]; exact hown2) (by simp [strBytes_length, Nat.add_assoc]) hg2 hat2)
       obtain ⟨ao, cap, rfl⟩ := own_shape hown2
       clear hown2 hg2 hat2 c0 c1))
  go_end0
  obtain ⟨R1, R2, R3⟩ := R.out
  simp only [List.length_append] at R1 R2 R3
  have ho1 := HO1.out
  have hk1 := HK1.out
  exact ⟨rfl, _, R1, kept_two hk1 R2 ho1, own_two hk1.size ho1 R3⟩

/-- Zigzag. -/
def zig (n : Int) : Nat := if 0 ≤ n then (2 * n).toNat else (-2 * n - 1).toNat
theorem zig_lt (n : Int) (h0 : -9223372036854775808 ≤ n) (h1 : n ≤ 9223372036854775807) : zig n < 18446744073709551616 := by
  unfold zig; split <;> omega

theorem xor_ones (x : Nat) (h : x < 18446744073709551616) : 18446744073709551615 ^^^ x = 18446744073709551615 - x := by
  have h1 : (BitVec.allOnes 64 ^^^ BitVec.ofNat 64 x).toNat = (~~~ (BitVec.ofNat 64 x)).toNat := by rw [BitVec.allOnes_xor]
  rw [BitVec.toNat_xor, BitVec.toNat_not, BitVec.toNat_allOnes, BitVec.toNat_ofNat, Nat.mod_eq_of_lt (by omega)] at h1
  simpa using h1

theorem zig_neg (n : Int) (h0 : -9223372036854775808 ≤ n) (h1 : n < 0) : bits BinOp.xor IntKind.u64 (if IntKind.u64.signed = true then -1 else IntKind.u64.max) (IntKind.u64.wrap (IntKind.u64.wrap n * 2)) = (zig n : Int) := by
  have e1 : IntKind.u64.wrap (IntKind.u64.wrap n * 2) = ((2 * n + 18446744073709551616).toNat : Int) := by
    rw [IntKind.wrap_u64, IntKind.wrap_u64]; omega
  have e2 : (if IntKind.u64.signed = true then -1 else IntKind.u64.max) = ((18446744073709551615 : Nat) : Int) := by decide
  rw [e1, e2, bits_xor_u64_nat _ _ (by omega) (by omega), xor_ones _ (by omega)]
  unfold zig
  rw [if_neg (by omega)]
  omega

theorem zig_pos (n : Int) (h1 : ¬ n < 0) : n * 2 = (zig n : Int) := by
  unfold zig; rw [if_pos (by omega)]; omega

set_option maxHeartbeats 400000 in
theorem int_any (n : Int) (b B : Nat) (v : Value) (l : List Int) (w : World) (h0 : -9223372036854775808 ≤ n) (h1 : n ≤ 9223372036854775807) (h : Wst B b w v l) (hl : l.length ≤ 70000000000000) (hB : B ≤ w.heap.size) :
    Calls Try.prog 50 #[.pointer (some ⟨b, 0, none⟩), .int .i64 n] w fun e w' => e = .returned (.tuple #[]) ∧
      ∃ v', Wst B b w' v' (l ++ enc (zig n)) ∧ Kept (fun k => k = b ∨ v.ownBlock = some k) w w' ∧ (v'.ownBlock = v.ownBlock ∨ ∀ g, v'.ownBlock = some g → w.heap.size ≤ g) := by
  have hz := zig_lt n h0 h1
  by_cases hn : n < 0
  · have HZ := hid_of (zig_neg n h0 hn)
    go_enter Try.func50, Try.ntmps50
    go_wp2_with (go_at_call 49; rw [HZ.out]; refine (uint_any (zig n) b B v l w hz h (by omega) hB).mono ?_; rintro e w1 ⟨rfl, v1, h1, hk1, ho1⟩; have R := hid_of (And.intro h1 (And.intro hk1 ho1)); clear h1 hk1 ho1)
    go_end0
    exact ⟨rfl, v1, R.out⟩
  · have HZ := hid_of (zig_pos n hn)
    go_enter Try.func50, Try.ntmps50
    go_wp2_with (go_at_call 49; rw [HZ.out]; refine (uint_any (zig n) b B v l w hz h (by omega) hB).mono ?_; rintro e w1 ⟨rfl, v1, h1, hk1, ho1⟩; have R := hid_of (And.intro h1 (And.intro hk1 ho1)); clear h1 hk1 ho1)
    go_end0
    exact ⟨rfl, v1, R.out⟩

set_option maxHeartbeats 400000 in
theorem data_any (b B : Nat) (v : Value) (l : List Int) (w : World) (h : Wst B b w v l) (hl : l.length ≤ 140737488351232) :
    Calls Try.prog 28 #[.pointer (some ⟨b, 0, none⟩)] w fun e w' => e = .returned (.slice (some ⟨w.heap.size, 0, none⟩) l.length l.length) ∧
      w'.heap[w.heap.size]? = some (.cells (bs l).toArray 5 (0, 0)) ∧ Below w.heap.size w w' := by
  obtain ⟨ao, cap, rfl⟩ := own_shape h.own
  have c0 := cell_of_one h.blk
  have hsrc := hid_of (own_src h.own)
  go_enter Try.func28, Try.ntmps28
  go_wp2_with (go_at_call 53; refine (clone_any ao l cap w hl hsrc.out).mono ?_; rintro e w1 ⟨rfl, h1, h2⟩; have H1 := hid_of h1; clear h1)
  go_ret
  exact ⟨rfl, H1.out, h2⟩

end Go.Proofs.Ytdmonbcinlmljaa.Wr

/- The Writer as a whole. No condition but bounds on sizes. -/
namespace Go.Proofs.Ytdmonbcinlmljaa.Wr
open Go.RowKit

/-- The Writer in block b holds l; below B the world is as w0 was. -/
def WS (B b : Nat) (w0 w : World) (l : List Int) : Prop := B ≤ b ∧ B ≤ w0.heap.size ∧ Below B w0 w ∧ ∃ v, Wst B b w v l

theorem WS.size {B b : Nat} {w0 w : World} {l : List Int} (h : WS B b w0 w l) : B ≤ w.heap.size := Nat.le_trans h.2.1 h.2.2.1.size
theorem WS.step {B b : Nat} {w0 w w' : World} {v v' : Value} {l l' : List Int} (h1 : B ≤ b) (h2 : B ≤ w0.heap.size) (h3 : Below B w0 w) (hv : Wst B b w v l) (hv' : Wst B b w' v' l') (hk : Kept (fun k => k = b ∨ v.ownBlock = some k) w w') : WS B b w0 w' l' :=
  ⟨h1, h2, h3.trans (hk.below (Nat.le_trans h2 h3.size) (fun k hk => hk.elim (fun e => by omega) (fun e => (hv.own.lt k e).1))), v', hv'⟩

theorem uint_ws (n : Nat) (b B : Nat) (l : List Int) (w0 w : World) (hn : n < 18446744073709551616) (h : WS B b w0 w l) (hl : l.length ≤ 140737488300000) :
    Calls Try.prog 49 #[.pointer (some ⟨b, 0, none⟩), .int .u64 n] w fun e w' => e = .returned (.tuple #[]) ∧ WS B b w0 w' (l ++ enc n) := by
  have hB := h.size
  obtain ⟨h1, h2, h3, v, hv⟩ := h
  exact (uint_any n b B v l w hn hv hl hB).mono fun e w' ⟨he, v', hv', hk, _⟩ => ⟨he, WS.step h1 h2 h3 hv hv' hk⟩
theorem int_ws (n : Int) (b B : Nat) (l : List Int) (w0 w : World) (n0 : -9223372036854775808 ≤ n) (n1 : n ≤ 9223372036854775807) (h : WS B b w0 w l) (hl : l.length ≤ 70000000000000) :
    Calls Try.prog 50 #[.pointer (some ⟨b, 0, none⟩), .int .i64 n] w fun e w' => e = .returned (.tuple #[]) ∧ WS B b w0 w' (l ++ enc (zig n)) := by
  have hB := h.size
  obtain ⟨h1, h2, h3, v, hv⟩ := h
  exact (int_any n b B v l w n0 n1 hv hl hB).mono fun e w' ⟨he, v', hv', hk, _⟩ => ⟨he, WS.step h1 h2 h3 hv hv' hk⟩
theorem text_ws (s : ByteArray) (b B : Nat) (l : List Int) (w0 w : World) (hs : s.size ≤ 70000000000000) (h : WS B b w0 w l) (hl : l.length ≤ 70000000000000) :
    Calls Try.prog 52 #[.pointer (some ⟨b, 0, none⟩), .string s] w fun e w' => e = .returned (.tuple #[]) ∧ WS B b w0 w' (l ++ enc s.size ++ strBytes s) := by
  have hB := h.size
  obtain ⟨h1, h2, h3, v, hv⟩ := h
  exact (text_any s b B v l w hv hs hl hB).mono fun e w' ⟨he, v', hv', hk, _⟩ => ⟨he, WS.step h1 h2 h3 hv hv' hk⟩
theorem data_ws (b B : Nat) (l : List Int) (w0 w : World) (h : WS B b w0 w l) (hl : l.length ≤ 140737488351232) :
    Calls Try.prog 28 #[.pointer (some ⟨b, 0, none⟩)] w fun e w' => e = .returned (.slice (some ⟨w.heap.size, 0, none⟩) l.length l.length) ∧
      w'.heap[w.heap.size]? = some (.cells (bs l).toArray 5 (0, 0)) ∧ WS B b w0 w' l := by
  obtain ⟨h1, h2, h3, v, hv⟩ := h
  refine (data_any b B v l w hv hl).mono fun e w' ⟨he, hr, hb⟩ => ⟨he, hr, h1, h2, h3.trans (hb.mono (Nat.le_trans h2 h3.size)), v, ?_⟩
  exact ⟨(hb.block b (lt_of_block hv.blk)).trans hv.blk, own_same hv.own fun k hk => hb.block k (hv.own.lt k hk).2⟩

theorem ws_new (w : World) : WS w.heap.size w.heap.size w (w.alloc (.cells #[.slice none 0 0] 52)) [] :=
  ⟨Nat.le_refl _, Nat.le_refl _, (Below.refl _ _).alloc (Nat.le_refl _) _, .slice none 0 0, ⟨heap_alloc_new _ _, World.ownsRow_nil _ _ _ _⟩⟩

/-- A row, as cells behind its address. -/
theorem row_src {w : World} {g : Nat} {l : List Int} (h : w.heap[g]? = some (.cells (bs l).toArray 5 (0, 0))) : 0 < l.length → ∃ ad, (some (⟨g, 0, none⟩ : Addr)) = some ad ∧ ∀ j v, (bs l)[j]? = some v → w.cell? (ad.add j) = some v :=
  fun _ => ⟨_, rfl, fun j v hv => World.news_of_block h j v (by simpa using hv)⟩

end Go.Proofs.Ytdmonbcinlmljaa.Wr

/- The contracts of the Reader of package wire. No condition but bounds on sizes. -/
namespace Go.Proofs.Ytdmonbcinlmljaa.Wr
open Go.RowKit

/-- May a number end with the group g at place i? -/
def mayEnd (i : Nat) (g : Int) : Bool := decide (i = 0) || (decide (g ≠ 0) && (decide (i < 9) || decide (g = 1)))

/-- Reading a number from place i on: what was read so far is acc. -/
def decAt : Nat → Nat → Nat → List Int → Option (Nat × Nat)
  | 0, _, _, _ => none
  | _ + 1, _, _, [] => none
  | f + 1, i, acc, g :: r => if 128 ≤ g then decAt f (i + 1) (acc + (g - 128).toNat * 128 ^ i) r else if mayEnd i g then some (acc + g.toNat * 128 ^ i, i + 1) else none
def dec (l : List Int) : Option (Nat × Nat) := decAt 10 0 0 l

/-- The Reader in block b, its bytes in block g. -/
structure Rst (w : World) (b g : Nat) (d : List Int) (off last : Nat) (err : Int) : Prop where
  blk : w.heap[b]? = some (.cells #[.slice (some ⟨g, 0, none⟩) d.length d.length, .int .i64 off, .int .i64 last, .int .i64 err] 82 (0, 0))
  row : w.heap[g]? = some (.cells (bs d).toArray 5 (0, 0))
  rng : ∀ x ∈ d, 0 ≤ x ∧ x ≤ 255
  le : off ≤ d.length
  small : d.length ≤ 140737488351232

theorem Rst.c0 {w : World} {b g off last : Nat} {d : List Int} {err : Int} (h : Rst w b g d off last err) : w.cell? ⟨b, 0, none⟩ = some (.slice (some ⟨g, 0, none⟩) d.length d.length) := by rw [cell_of_row _ _ _ _ _ _ h.blk]; rfl
theorem Rst.c1 {w : World} {b g off last : Nat} {d : List Int} {err : Int} (h : Rst w b g d off last err) : w.cell? ⟨b, 1, none⟩ = some (.int .i64 off) := by rw [cell_of_row _ _ _ _ _ _ h.blk]; rfl
theorem Rst.c2 {w : World} {b g off last : Nat} {d : List Int} {err : Int} (h : Rst w b g d off last err) : w.cell? ⟨b, 2, none⟩ = some (.int .i64 last) := by rw [cell_of_row _ _ _ _ _ _ h.blk]; rfl
theorem Rst.c3 {w : World} {b g off last : Nat} {d : List Int} {err : Int} (h : Rst w b g d off last err) : w.cell? ⟨b, 3, none⟩ = some (.int .i64 err) := by rw [cell_of_row _ _ _ _ _ _ h.blk]; rfl
theorem Rst.free {w : World} {b g off last : Nat} {d : List Int} {err : Int} (h : Rst w b g d off last err) (j : Nat) : w.frozen? ⟨b, j, none⟩ = false := by simp [World.frozen?, h.blk]
theorem Rst.byte {w : World} {b g off last : Nat} {d : List Int} {err : Int} (h : Rst w b g d off last err) {j : Nat} (hj : j < d.length) : w.cell? ⟨g, j, none⟩ = some (.int .u8 d[j]) := by
  rw [cell_of_row _ _ _ _ _ _ h.row]; simp [bs, hj]
theorem Rst.drewN {w : World} {b g off last : Nat} {d : List Int} {err : Int} (h : Rst w b g d off last err) (m : Nat) : Rst (w.drewN m) b g d off last err := ⟨h.blk, h.row, h.rng, h.le, h.small⟩

set_option maxHeartbeats 400000 in
theorem mayEnd_any (i : Nat) (g : Int) (w : World) (hi : i < 10) (h0 : 0 ≤ g) (h1 : g ≤ 255) :
    Calls Try.prog 78 #[.int .i64 i, .int .u8 g] w fun e w' => e = .returned (.bool (mayEnd i g)) ∧ w = w' := by
  by_cases h2 : i = 0
  · subst h2
    go_enter Try.func78, Try.ntmps78
    go_wp2
    go_ret
    exact ⟨rfl, rfl⟩
  · have hb : ((i : Int) == 0) = false := by simp; omega
    by_cases h3 : g = 0
    · subst h3
      go_enter Try.func78, Try.ntmps78
      go_wp2
      go_ret
      exact ⟨by simp [mayEnd, h2], rfl⟩
    · have hb3 : (g != 0) = true := by simp; omega
      by_cases h4 : i < 9
      · have hb4 : decide ((i : Int) < 9) = true := by simp; omega
        go_enter Try.func78, Try.ntmps78
        go_wp2
        go_ret
        exact ⟨by simp [mayEnd, h2, h3, h4], rfl⟩
      · have hb4 : decide ((i : Int) < 9) = false := by simp; omega
        go_enter Try.func78, Try.ntmps78
        go_wp2
        go_ret
        exact ⟨by simp [mayEnd, h2, h3, h4]; rfl, rfl⟩

/-- What number returns. -/
def numRes (off : Nat) : Option (Nat × Nat) → Value
  | some (n, k) => .tuple #[.int .u64 n, .int .i64 ((off + k : Nat) : Int), .bool true]
  | none => .tuple #[.int .u64 0, .int .i64 0, .bool false]

theorem ret3_num {a b c d : Int} (h1 : a = b) (h2 : c = d) : Ending.returned (.tuple #[.int .u64 a, .int .i64 c, .bool true]) = Ending.returned (.tuple #[.int .u64 b, .int .i64 d, .bool true]) := by rw [h1, h2]

def Drew (w w' : World) : Prop := ∃ m, w' = w.drewN m

theorem or_form (x i : Nat) (y : Int) (h0 : 0 ≤ y) (h1 : y ≤ 255) (hx : x < 18446744073709551616) :
    bits BinOp.or IntKind.u64 (x : Int) (IntKind.u64.wrap (IntKind.u64.wrap (bits BinOp.and IntKind.u8 y 127) * 2 ^ (7 * i))) = ((x ||| (y.toNat % 128 * 2 ^ (7 * i) % 18446744073709551616) : Nat) : Int) := by
  have e1 : bits BinOp.and IntKind.u8 y 127 = ((y.toNat % 128 : Nat) : Int) := by
    have := u8_and y 127 h0 (by omega) (by omega) (by omega)
    rw [show (127 : Int).toNat = 127 from rfl, nat_mask7] at this
    exact this
  have e2 : IntKind.u64.wrap (IntKind.u64.wrap ((y.toNat % 128 : Nat) : Int) * 2 ^ (7 * i)) = ((y.toNat % 128 * 2 ^ (7 * i) % 18446744073709551616 : Nat) : Int) := by
    have hz : y.toNat % 128 < 128 := Nat.mod_lt _ (by decide)
    generalize y.toNat % 128 = z at hz
    rw [IntKind.wrap_u64, IntKind.wrap_u64]
    have e3 : (z : Int) % 18446744073709551616 = (z : Int) := by omega
    rw [e3]
    simp only [Int.natCast_emod, Int.natCast_mul, Int.natCast_pow]
    rfl
  rw [e1, e2]
  exact u64_or_nat _ _ hx (Nat.mod_lt _ (by decide))

theorem or_val (x z i : Nat) (hx : x < 128 ^ i) (hz : z * 128 ^ i < 18446744073709551616) : x ||| (z * 2 ^ (7 * i) % 18446744073709551616) = x + z * 128 ^ i := by
  have e : 2 ^ (7 * i) = 128 ^ i := by rw [Nat.pow_mul]
  rw [e, Nat.mod_eq_of_lt hz, Nat.or_comm, Nat.add_comm]
  rw [← e] at hx ⊢
  exact nat_join (7 * i) _ _ (Nat.mul_mod_left _ _) hx

theorem or_lt (x i : Nat) (z : Nat) (hx : x < 18446744073709551616) : x ||| (z * 2 ^ (7 * i) % 18446744073709551616) < 18446744073709551616 :=
  Nat.or_lt_two_pow (n := 64) hx (Nat.mod_lt _ (by decide))

theorem pow_le9 (i : Nat) (h : i ≤ 8) : 128 ^ (i + 1) ≤ 9223372036854775808 := by
  have : 128 ^ (i + 1) ≤ 128 ^ 9 := Nat.pow_le_pow_right (by decide) (by omega)
  exact this

theorem decAt_nil (i acc : Nat) (h : i < 10) : decAt (10 - i) i acc [] = none := by
  obtain ⟨f, hf⟩ : ∃ f, 10 - i = f + 1 := ⟨9 - i, by omega⟩
  rw [hf]; rfl
theorem decAt_cons (i acc : Nat) (y : Int) (r : List Int) (h : i < 10) :
    decAt (10 - i) i acc (y :: r) = if 128 ≤ y then decAt (10 - (i + 1)) (i + 1) (acc + (y - 128).toNat * 128 ^ i) r else if mayEnd i y then some (acc + y.toNat * 128 ^ i, i + 1) else none := by
  obtain ⟨f, hf⟩ : ∃ f, 10 - i = f + 1 := ⟨9 - i, by omega⟩
  have hf2 : 10 - (i + 1) = f := by omega
  rw [hf, hf2]; rfl
theorem drop_at {d : List Int} {k : Nat} {y : Int} (h : k < d.length) (hy : y = d[k]) : d.drop k = y :: d.drop (k + 1) := by
  rw [List.drop_eq_getElem_cons h, hy]

set_option maxHeartbeats 1000000 in
theorem number_any (b g off last : Nat) (d : List Int) (err : Int) (w : World) (h : Rst w b g d off last err) :
    Calls Try.prog 68 #[.pointer (some ⟨b, 0, none⟩)] w fun e w' => e = .returned (numRes off (dec (d.drop off))) ∧ Drew w w' := by
  have c0 := h.c0
  have c1 := h.c1
  have hsm := h.small
  have hle := h.le
  by_cases he : off = d.length
  · subst he
    go_enter Try.func68, Try.ntmps68
    go_wp2
    go_quiet (fail)
    go_wp2
    refine wp_loop_rounds 1 ?_
    rw [rounds_succ]
    go_wp2
    go_ret3
    refine ⟨?_, nq, rfl⟩
    rw [List.drop_length]; rfl
  · have b1 : (0 : Int) ≤ (off : Int) := by omega
    have b2 : (off : Int) ≤ (d.length : Int) := by omega
    have b3 : ¬ d.length = off := by omega
    go_enter Try.func68, Try.ntmps68
    go_wp2
    go_quiet (fail)
    go_wp2
    go_loop [6, 18] (fun nv iv => ∃ i acc x : Nat, i ≤ 10 ∧ iv = .int .i64 i ∧ nv = .int .u64 x ∧ Hid (dec (d.drop off) = decAt (10 - i) i acc (d.drop (off + i))) ∧ Hid (off + i ≤ d.length ∧ acc < 128 ^ i ∧ x < 18446744073709551616 ∧ (i ≤ 9 → x = acc)))
      (fun _ i => 10 - (intOf i).toNat)
    case atStart => exact ⟨0, 0, 0, by omega, rfl, rfl, hid_of rfl, hid_of ⟨by omega, by decide, by omega, fun _ => rfl⟩⟩
    case round =>
      obtain ⟨i, acc, x, hi, rfl, rfl, hdec, hinv⟩ := hrel
      have hinv1 := hinv.out.1
      by_cases hlt : i < 10
      · by_cases hend : off + i = d.length
        · have hee : ((i : Int) == ((d.length - off : Nat) : Int)) = true := by simp; omega
          go_wp2
          go_ret3
          refine ⟨?_, nq, rfl⟩
          rw [hdec.out, hend, List.drop_length, decAt_nil i acc hlt]; rfl
        · have hee : ((i : Int) == ((d.length - off : Nat) : Int)) = false := by simp; omega
          have hcell := h.byte (j := off + i) (by omega)
          obtain ⟨y, hy⟩ : ∃ y, y = d[off + i]'(by omega) := ⟨_, rfl⟩
          rw [← hy] at hcell
          have hy0 := h.rng y (by rw [hy]; exact List.getElem_mem _)
          have HY := hid_of hy
          clear hy
          by_cases h128 : 128 ≤ y
          · have hz : y.toNat % 128 = (y - 128).toNat := by omega
            go_wp2
            go_round
            case rel =>
              obtain ⟨i1, i2, i3, i4⟩ := hinv.out
              refine ⟨i + 1, acc + (y - 128).toNat * 128 ^ i, x ||| (y.toNat % 128 * 2 ^ (7 * i) % 18446744073709551616), by omega, by go_num, ?_, hid_of ?_, hid_of ⟨by omega, ?_, or_lt _ _ _ i3, fun h9 => ?_⟩⟩
              · rw [or_form x i y hy0.1 hy0.2 i3]
              · rw [hdec.out, drop_at (by omega) HY.out, decAt_cons i acc y _ hlt, if_pos h128]; rfl
              · rw [Nat.pow_succ]
                have : (y - 128).toNat * 128 ^ i ≤ 127 * 128 ^ i := Nat.mul_le_mul_right _ (by omega)
                omega
              · rw [i4 (by omega), hz]
                refine or_val _ _ _ i2 ?_
                have h1 := pow_le9 i (by omega)
                rw [Nat.pow_succ] at h1
                have : (y - 128).toNat * 128 ^ i ≤ 127 * 128 ^ i := Nat.mul_le_mul_right _ (by omega)
                omega
            case measure => simp [intOf]; omega
          · have hdec2 : Hid (dec (d.drop off) = if mayEnd i y then some (acc + y.toNat * 128 ^ i, i + 1) else none) := hid_of (by
              rw [hdec.out, drop_at (by omega) HY.out, decAt_cons i acc y _ hlt, if_neg h128])
            cases hm : mayEnd i y
            · have HM := hid_of hm
              clear hm
              go_wp2_with (go_at_call 78; refine (mayEnd_any i y _ hlt hy0.1 hy0.2).mono ?_; rintro e w' ⟨rfl, rfl⟩; rw [HM.out])
              go_ret3
              refine ⟨?_, nq, rfl⟩
              rw [hdec2.out, HM.out]; rfl
            · have HM := hid_of hm
              clear hm
              have a1 : IntKind.i64.wrap ((off : Int) + (i : Int)) = (off : Int) + (i : Int) := IntWalk.i64_in _ (by omega)
              have a2 : IntKind.i64.wrap ((off : Int) + (i : Int) + 1) = (off : Int) + (i : Int) + 1 := IntWalk.i64_in _ (by omega)
              go_wp2_with (go_at_call 78; refine (mayEnd_any i y _ hlt hy0.1 hy0.2).mono ?_; rintro e w' ⟨rfl, rfl⟩; rw [HM.out])
              go_quiet (fail)
              go_wp2
              go_ret3
              refine ⟨?_, _, (World.drewN_drewN _ _ _)⟩
              obtain ⟨i1, i2, i3, i4⟩ := hinv.out
              rw [hdec2.out, HM.out]
              have hz : y.toNat % 128 = y.toNat := by omega
              have hzl : y.toNat * 128 ^ i < 18446744073709551616 := by
                rcases Nat.lt_or_ge i 9 with h9 | h9
                · have h1 := pow_le9 i (by omega)
                  rw [Nat.pow_succ] at h1
                  have : y.toNat * 128 ^ i ≤ 127 * 128 ^ i := Nat.mul_le_mul_right _ (by omega)
                  omega
                · obtain rfl : i = 9 := by omega
                  have hm := HM.out
                  simp [mayEnd] at hm
                  obtain ⟨_, rfl⟩ := hm
                  decide
              refine ret3_num ?_ (by omega)
              rw [or_form x i y hy0.1 hy0.2 i3, i4 (by omega), hz, or_val _ _ _ i2 hzl]
      · go_wp2
        go_ret3
        refine ⟨?_, nq, rfl⟩
        obtain rfl : i = 10 := by omega
        rw [hdec.out]; rfl

theorem Kept.refl (S : Nat → Prop) (w : World) : Kept S w w := ⟨rfl, rfl, rfl, Nat.le_refl _, fun _ _ _ => rfl⟩
theorem Kept.drewN {S : Nat → Prop} {a b : World} (h : Kept S a b) (m : Nat) : Kept S a (b.drewN m) := ⟨h.os, h.tape, h.output, h.size, h.block⟩
theorem Kept.ofDrewN {S : Nat → Prop} {a b : World} {m : Nat} (h : Kept S (a.drewN m) b) : Kept S a b := ⟨h.os, h.tape, h.output, h.size, h.block⟩
theorem Kept.setCell {S : Nat → Prop} {a b : World} (h : Kept S a b) {p : Addr} (hp : S p.block) (u : Value) : Kept S a (b.setCell p u) :=
  ⟨h.os, h.tape, h.output, by show a.heap.size ≤ (b.heap.modify _ _).size; rw [Array.size_modify]; exact h.size, fun k hk hS => (Below.heap_setCell _ _ _ _ (fun e => hS (by rw [e]; exact hp))).trans (h.block k hk hS)⟩
theorem Kept.mono {S T : Nat → Prop} {a b : World} (h : Kept S a b) (hST : ∀ k, S k → T k) : Kept T a b := ⟨h.os, h.tape, h.output, h.size, fun k hk hT => h.block k hk (fun hs => hT (hST k hs))⟩

theorem Rst.gne {w : World} {b g off last : Nat} {d : List Int} {err : Int} (h : Rst w b g d off last err) : g ≠ b := by
  intro e
  have := h.row
  rw [e, h.blk] at this
  simp at this
theorem Rst.glt {w : World} {b g off last : Nat} {d : List Int} {err : Int} (h : Rst w b g d off last err) : g < w.heap.size := lt_of_block h.row
theorem Rst.blt {w : World} {b g off last : Nat} {d : List Int} {err : Int} (h : Rst w b g d off last err) : b < w.heap.size := lt_of_block h.blk

/-- A Reader whose own block and row are as they were. -/
theorem Rst.same {w w' : World} {b g off last : Nat} {d : List Int} {err : Int} (h : Rst w b g d off last err) (hb : w'.heap[b]? = w.heap[b]?) (hg : w'.heap[g]? = w.heap[g]?) : Rst w' b g d off last err :=
  ⟨hb.trans h.blk, hg.trans h.row, h.rng, h.le, h.small⟩

/-- What two stores into the Reader's block leave. -/
theorem Rst.set2 {w : World} {b g off last : Nat} {d : List Int} {err : Int} (h : Rst w b g d off last err) {j1 j2 : Nat} {u1 u2 : Value} {off' last' : Nat} {err' : Int}
    (he : (([.slice (some ⟨g, 0, none⟩) d.length d.length, .int .i64 off, .int .i64 last, .int .i64 err] : List Value).set j1 u1).set j2 u2 = [.slice (some ⟨g, 0, none⟩) d.length d.length, .int .i64 off', .int .i64 last', .int .i64 err'])
    (hle : off' ≤ d.length) : Rst ((w.setCell ⟨b, j1, none⟩ u1).setCell ⟨b, j2, none⟩ u2) b g d off' last' err' ∧ Kept (fun k => k = b) w ((w.setCell ⟨b, j1, none⟩ u1).setCell ⟨b, j2, none⟩ u2) ∧
      ((w.setCell ⟨b, j1, none⟩ u1).setCell ⟨b, j2, none⟩ u2).heap.size = w.heap.size := by
  have hb := blk_setCell (k := j2) (u := u2) (blk_setCell (k := j1) (u := u1) (g := b) (cur := [.slice (some ⟨g, 0, none⟩) d.length d.length, .int .i64 off, .int .i64 last, .int .i64 err]) h.blk)
  rw [he] at hb
  refine ⟨⟨hb, ?_, h.rng, hle, h.small⟩, (Kept.setCell (p := ⟨b, j1, none⟩) (Kept.refl (fun k => k = b) w) rfl u1).setCell (p := ⟨b, j2, none⟩) rfl u2, ?_⟩
  · rw [Below.heap_setCell _ _ _ _ h.gne, Below.heap_setCell _ _ _ _ h.gne]; exact h.row
  · simp [World.setCell]

/-- The Reader has gone from w to w'. -/
def RTo (w w' : World) (b g : Nat) (d : List Int) (off last : Nat) (err : Int) : Prop :=
  Rst w' b g d off last err ∧ Kept (fun k => k = b) w w' ∧ w'.heap.size = w.heap.size

theorem RTo.ofDrewN {w w' : World} {b g off last m : Nat} {d : List Int} {err : Int} (h : RTo (w.drewN m) w' b g d off last err) : RTo w w' b g d off last err := ⟨h.1, h.2.1.ofDrewN, h.2.2⟩
theorem RTo.drewN {w w' : World} {b g off last m : Nat} {d : List Int} {err : Int} (h : RTo w w' b g d off last err) : RTo w (w'.drewN m) b g d off last err := ⟨h.1.drewN m, h.2.1.drewN m, h.2.2⟩

set_option maxHeartbeats 400000 in
theorem settle_ok (b g off last en : Nat) (d : List Int) (w : World) (h : Rst w b g d off last 0) (hen : en ≤ d.length) :
    Calls Try.prog 69 #[.pointer (some ⟨b, 0, none⟩), .int .i64 en, .bool true] w fun e w' => e = .returned (.bool true) ∧ RTo w w' b g d en off 0 := by
  have c1 := h.c1
  have c2 := h.c2
  have c3 := h.c3
  have f1 := h.free 1
  have f2 := h.free 2
  have R := hid_of (h.set2 (j1 := 2) (j2 := 1) (u1 := .int .i64 off) (u2 := .int .i64 en) (off' := en) (last' := off) (err' := 0) rfl hen)
  go_enter Try.func69, Try.ntmps69
  go_wp2
  go_ret
  exact ⟨rfl, R.out⟩

set_option maxHeartbeats 400000 in
theorem settle_bad (b g off last : Nat) (en : Int) (d : List Int) (w : World) (h : Rst w b g d off last 0) :
    Calls Try.prog 69 #[.pointer (some ⟨b, 0, none⟩), .int .i64 en, .bool false] w fun e w' => e = .returned (.bool false) ∧ RTo w w' b g d off off 2 := by
  have c1 := h.c1
  have c2 := h.c2
  have c3 := h.c3
  have f2 := h.free 2
  have f3 := h.free 3
  have R := hid_of (h.set2 (j1 := 2) (j2 := 3) (u1 := .int .i64 off) (u2 := .int .i64 2) (off' := off) (last' := off) (err' := 2) rfl h.le)
  go_enter Try.func69, Try.ntmps69
  go_wp2
  go_ret
  exact ⟨rfl, R.out⟩

set_option maxHeartbeats 400000 in
theorem settle_dead (b g off last : Nat) (en : Int) (ok : Bool) (d : List Int) (w : World) (h : Rst w b g d off last 2) :
    Calls Try.prog 69 #[.pointer (some ⟨b, 0, none⟩), .int .i64 en, .bool ok] w fun e w' => e = .returned (.bool false) ∧ RTo w w' b g d off last 2 := by
  have c3 := h.c3
  have R := hid_of h
  go_enter Try.func69, Try.ntmps69
  go_wp2
  go_ret
  exact ⟨rfl, R.out, Kept.refl _ _, rfl⟩

/-! What a number that was read says. -/
theorem decAt_bound : ∀ (f i acc : Nat) (l : List Int) (n k : Nat), f + i = 10 → acc < 128 ^ i → (∀ x ∈ l, 0 ≤ x ∧ x ≤ 255) → decAt f i acc l = some (n, k) → i < k ∧ k ≤ i + l.length ∧ k ≤ 10 ∧ n < 18446744073709551616 := by
  intro f
  induction f with
  | zero => intro i acc l n k _ _ _ h; cases h
  | succ f ih =>
    intro i acc l n k hf ha hr h
    cases l with
    | nil => cases h
    | cons y r =>
      have hy := hr y (by simp)
      rw [decAt] at h
      split at h
      · have hl : acc + (y - 128).toNat * 128 ^ i < 128 ^ (i + 1) := by
          rw [Nat.pow_succ]
          have : (y - 128).toNat * 128 ^ i ≤ 127 * 128 ^ i := Nat.mul_le_mul_right _ (by omega)
          omega
        have := ih (i + 1) _ r n k (by omega) hl (fun x hx => hr x (by simp [hx])) h
        simp only [List.length_cons]
        omega
      · split at h
        · rename_i h1 h2
          simp only [Option.some.injEq, Prod.mk.injEq] at h
          obtain ⟨rfl, rfl⟩ := h
          refine ⟨by omega, by simp, by omega, ?_⟩
          rcases Nat.lt_or_ge i 9 with h9 | h9
          · have h3 := pow_le9 i (by omega)
            rw [Nat.pow_succ] at h3
            have : y.toNat * 128 ^ i ≤ 127 * 128 ^ i := Nat.mul_le_mul_right _ (by omega)
            omega
          · obtain rfl : i = 9 := by omega
            simp [mayEnd] at h2
            obtain ⟨_, rfl⟩ := h2
            have : (128 : Nat) ^ 9 = 9223372036854775808 := by decide
            simp
            omega
        · cases h

theorem dec_bound {l : List Int} {n k : Nat} (hr : ∀ x ∈ l, 0 ≤ x ∧ x ≤ 255) (h : dec l = some (n, k)) : 0 < k ∧ k ≤ l.length ∧ k ≤ 10 ∧ n < 18446744073709551616 := by
  have := decAt_bound 10 0 0 l n k (by omega) (by decide) hr h
  omega

theorem Rst.dec_bound {w : World} {b g off last n k : Nat} {d : List Int} {err : Int} (h : Rst w b g d off last err) (hd : dec (d.drop off) = some (n, k)) : 0 < k ∧ off + k ≤ d.length ∧ k ≤ 10 ∧ n < 18446744073709551616 := by
  have := _root_.Go.Proofs.Ytdmonbcinlmljaa.Wr.dec_bound (fun x hx => h.rng x (List.mem_of_mem_drop hx)) hd
  have h2 := h.le
  rw [List.length_drop] at this
  omega

theorem number_some (b g off last n k : Nat) (d : List Int) (err : Int) (w : World) (h : Rst w b g d off last err) (hd : dec (d.drop off) = some (n, k)) :
    Calls Try.prog 68 #[.pointer (some ⟨b, 0, none⟩)] w fun e w' => e = .returned (.tuple #[.int .u64 n, .int .i64 ((off + k : Nat) : Int), .bool true]) ∧ Drew w w' :=
  (number_any b g off last d err w h).mono fun e w' ⟨h1, h2⟩ => ⟨by rw [h1, hd]; rfl, h2⟩
theorem number_none (b g off last : Nat) (d : List Int) (err : Int) (w : World) (h : Rst w b g d off last err) (hd : dec (d.drop off) = none) :
    Calls Try.prog 68 #[.pointer (some ⟨b, 0, none⟩)] w fun e w' => e = .returned (.tuple #[.int .u64 0, .int .i64 0, .bool false]) ∧ Drew w w' :=
  (number_any b g off last d err w h).mono fun e w' ⟨h1, h2⟩ => ⟨by rw [h1, hd]; rfl, h2⟩

set_option maxHeartbeats 400000 in
theorem ruint_ok (b g off last n k : Nat) (d : List Int) (w : World) (h : Rst w b g d off last 0) (hd : dec (d.drop off) = some (n, k)) :
    Calls Try.prog 54 #[.pointer (some ⟨b, 0, none⟩)] w fun e w' => e = .returned (.int .u64 n) ∧ RTo w w' b g d (off + k) off 0 := by
  have hb := hid_of (h.dec_bound hd)
  have HD := hid_of hd
  have H := hid_of h
  clear hd h
  go_enter Try.func54, Try.ntmps54
  go_wp2_with (first
    | (go_at_call 68; refine (number_some b g off last n k d 0 w H.out HD.out).mono ?_; rintro e w1 ⟨rfl, m, rfl⟩)
    | (go_at_call 69; refine (settle_ok b g off last (off + k) d _ (H.out.drewN _) hb.out.2.1).mono ?_; rintro e w2 ⟨rfl, h2⟩; have R := hid_of h2.ofDrewN; clear h2))
  go_ret
  exact ⟨rfl, R.out⟩

set_option maxHeartbeats 400000 in
theorem ruint_bad (b g off last : Nat) (d : List Int) (w : World) (h : Rst w b g d off last 0) (hd : dec (d.drop off) = none) :
    Calls Try.prog 54 #[.pointer (some ⟨b, 0, none⟩)] w fun e w' => e = .returned (.int .u64 0) ∧ RTo w w' b g d off off 2 := by
  have HD := hid_of hd
  have H := hid_of h
  clear hd h
  go_enter Try.func54, Try.ntmps54
  go_wp2_with (first
    | (go_at_call 68; refine (number_none b g off last d 0 w H.out HD.out).mono ?_; rintro e w1 ⟨rfl, m, rfl⟩)
    | (go_at_call 69; refine (settle_bad b g off last 0 d _ (H.out.drewN _)).mono ?_; rintro e w2 ⟨rfl, h2⟩; have R := hid_of h2.ofDrewN; clear h2))
  go_ret
  exact ⟨rfl, R.out⟩

set_option maxHeartbeats 400000 in
theorem ruint_dead (b g off last : Nat) (d : List Int) (w : World) (h : Rst w b g d off last 2) :
    Calls Try.prog 54 #[.pointer (some ⟨b, 0, none⟩)] w fun e w' => e = .returned (.int .u64 0) ∧ RTo w w' b g d off last 2 := by
  have H := hid_of h
  clear h
  rcases hd : dec (d.drop off) with _ | ⟨n, k⟩
  all_goals
    have HD := hid_of hd
    clear hd
    go_enter Try.func54, Try.ntmps54
    go_wp2_with (first
      | (go_at_call 68; (first | (refine (number_none b g off last d 2 w H.out HD.out).mono ?_) | (refine (number_some b g off last _ _ d 2 w H.out HD.out).mono ?_)); rintro e w1 ⟨rfl, m, rfl⟩)
      | (go_at_call 69; refine (settle_dead b g off last _ _ d _ (H.out.drewN _)).mono ?_; rintro e w2 ⟨rfl, h2⟩; have R := hid_of h2.ofDrewN; clear h2))
    go_ret
    exact ⟨rfl, R.out⟩

end Go.Proofs.Ytdmonbcinlmljaa.Wr

/- More contracts of the Reader of package wire. No condition but bounds on sizes. -/
namespace Go.Proofs.Ytdmonbcinlmljaa.Wr
open Go.RowKit

section
variable {P : Program} (w : World)

theorem run_str (src dst e : TypeId) (hs : P.underlying src = some (.slice e)) (he : P.underlying e = some (.int .u8)) (hd : P.underlying dst = some .string) (ao : Option Addr) (l : List Int) (cap : Nat)
    (hpos : 0 < l.length → ∃ ad, ao = some ad ∧ ∀ j v, (bs l)[j]? = some v → w.cell? (ad.add j) = some v) :
    (convert src dst (.slice ao l.length cap)).run P w = .ok (.string (strOfNums l)) w := by
  cases ao with
  | none =>
    obtain rfl : l = [] := by
      cases l with
      | nil => rfl
      | cons x r => obtain ⟨ad, h, _⟩ := hpos (by simp); cases h
    exact run_convert_bytes_nil w src e hs he 0 cap dst hd
  | some ad =>
    have hl : (loadCells ad l.length).run P w = .ok (l.map (Value.int .u8)).toArray w := by
      have := run_loadCells_list (P := P) w ad (bs l) (fun j v hj => by
        have h0 : 0 < l.length := by
          have := (List.getElem?_eq_some_iff.1 hj).1
          simp [bs] at this; omega
        obtain ⟨ad', h1, h2⟩ := hpos h0
        cases h1
        exact h2 j v hj)
      simpa [bs] using this
    rw [run_convert_bytes_string w src dst e _ l.length cap hs he hd, run_bytesToString w _ l.length cap l hl, foldl_push_bytes]
    simp [strOfNums, ByteArray.empty, ByteArray.emptyWithCapacity]
    rfl

theorem wp_str {o : Oper} {a : Act} {K : Act → World → Prop} {Q : Exit → Act → World → Prop} (src dst : TypeId) (x : Operand) (ho : o.op = .convert src dst x) (e : TypeId)
    (hs : P.underlying src = some (.slice e)) (he : P.underlying e = some (.int .u8)) (hd : P.underlying dst = some .string) (ao : Option Addr) (l : List Int) (cap : Nat) (hx : a.eval x = .slice ao l.length cap)
    (hpos : 0 < l.length → ∃ ad, ao = some ad ∧ ∀ j v, (bs l)[j]? = some v → w.cell? (ad.add j) = some v) (h : K (a.put o.dst (.string (strOfNums l))) w) : Oper.wp P o a w K Q := by
  have hr := run_str (P := P) w src dst e hs he hd ao l cap hpos
  unfold Oper.wp execOp
  simp only [ho, hx, Sem.run_bind, hr, Result.andThen_ok, Sem.run_pure]
  exact h

theorem wpList_str {ops : Array Oper} {rest : List Oper} {o : Oper} {a : Act} {Q : Exit → Act → World → Prop} (hgd : o.guard = none) (src dst : TypeId) (x : Operand) (ho : o.op = .convert src dst x) (e : TypeId)
    (hs : P.underlying src = some (.slice e)) (he : P.underlying e = some (.int .u8)) (hd : P.underlying dst = some .string) (ao : Option Addr) (l : List Int) (cap : Nat) (hx : a.eval x = .slice ao l.length cap)
    (hpos : 0 < l.length → ∃ ad, ao = some ad ∧ ∀ j v, (bs l)[j]? = some v → w.cell? (ad.add j) = some v) (h : wpList P ops Q rest (a.put o.dst (.string (strOfNums l))) w) : wpList P ops Q (o :: rest) a w :=
  wpList_plain hgd fun _ hK => wp_str w src dst x ho e hs he hd ao l cap hx hpos (hK _ _ h)
theorem wpList_str_n {ops : Array Oper} {rest : List Oper} {o : Oper} {a : Act} {Q : Exit → Act → World → Prop} (hgd : o.guard = none) (src dst : TypeId) (x : Operand) (ho : o.op = .convert src dst x) (e : TypeId)
    (hs : P.underlying src = some (.slice e)) (he : P.underlying e = some (.int .u8)) (hd : P.underlying dst = some .string) (ao : Option Addr) (l : List Int) (n cap : Nat) (hn : l.length = n) (hx : a.eval x = .slice ao n cap)
    (hpos : 0 < l.length → ∃ ad, ao = some ad ∧ ∀ j v, (bs l)[j]? = some v → w.cell? (ad.add j) = some v) (h : wpList P ops Q rest (a.put o.dst (.string (strOfNums l))) w) : wpList P ops Q (o :: rest) a w :=
  wpList_str w hgd src dst x ho e hs he hd ao l cap (by rw [hn]; exact hx) hpos h
end

theorem ret_i64 {a b : Int} (h : a = b) : Ending.returned (.int .i64 a) = Ending.returned (.int .i64 b) := by rw [h]

/-- Back from zigzag. -/
def unzig (n : Nat) : Int := if n % 2 = 0 then ((n / 2 : Nat) : Int) else -((n / 2 : Nat) : Int) - 1
theorem unzig_zig (n : Int) : unzig (zig n) = n := by
  unfold unzig zig
  by_cases h : 0 ≤ n
  · rw [if_pos h, if_pos (by omega)]; omega
  · rw [if_neg h, if_neg (by omega)]; omega

set_option maxHeartbeats 400000 in
theorem rint_ok (b g off last n k : Nat) (d : List Int) (w : World) (h : Rst w b g d off last 0) (hd : dec (d.drop off) = some (n, k)) :
    Calls Try.prog 56 #[.pointer (some ⟨b, 0, none⟩)] w fun e w' => e = .returned (.int .i64 (unzig n)) ∧ RTo w w' b g d (off + k) off 0 := by
  have hb := h.dec_bound hd
  have hb4 := hb.2.2.2
  have HC := hid_of (ruint_ok b g off last n k d w h hd)
  have e1 := u64_and_nat n 1 hb4 (by omega)
  rw [nat_mask1, show ((1 : Nat) : Int) = 1 from rfl] at e1
  clear hb hd h
  have e2 : bits .xor .i64 (-1) ((n : Int) / 2) = -1 - ((n : Int) / 2) := by
    have := i64_not (n / 2) (by omega)
    rw [show ((n / 2 : Nat) : Int) = (n : Int) / 2 by omega] at this
    exact this
  by_cases h2 : n % 2 = 0
  · go_enter Try.func56, Try.ntmps56
    go_wp2_with (go_at_call 54; refine HC.out.mono ?_; rintro e w1 ⟨rfl, h1⟩; have R := hid_of h1; clear h1)
    go_ret
    exact ⟨ret_i64 (by unfold unzig; rw [if_pos h2]; omega), R.out⟩
  · go_enter Try.func56, Try.ntmps56
    go_wp2_with (go_at_call 54; refine HC.out.mono ?_; rintro e w1 ⟨rfl, h1⟩; have R := hid_of h1; clear h1)
    go_ret
    exact ⟨ret_i64 (by unfold unzig; rw [if_neg h2]; omega), R.out⟩

set_option maxHeartbeats 400000 in
theorem rint_zero (b g off off' last last' : Nat) (d : List Int) (w : World)
    (HC : Hid (Calls Try.prog 54 #[.pointer (some ⟨b, 0, none⟩)] w fun e w' => e = .returned (.int .u64 0) ∧ RTo w w' b g d off' last' 2)) :
    Calls Try.prog 56 #[.pointer (some ⟨b, 0, none⟩)] w fun e w' => e = .returned (.int .i64 0) ∧ RTo w w' b g d off' last' 2 := by
  have e1 : bits .and .u64 0 1 = 0 := by decide
  go_enter Try.func56, Try.ntmps56
  go_wp2_with (go_at_call 54; refine HC.out.mono ?_; rintro e w1 ⟨rfl, h1⟩; have R := hid_of h1; clear h1)
  go_ret
  exact ⟨rfl, R.out⟩
theorem rint_bad (b g off last : Nat) (d : List Int) (w : World) (h : Rst w b g d off last 0) (hd : dec (d.drop off) = none) :
    Calls Try.prog 56 #[.pointer (some ⟨b, 0, none⟩)] w fun e w' => e = .returned (.int .i64 0) ∧ RTo w w' b g d off off 2 :=
  rint_zero b g off off last off d w (hid_of (ruint_bad b g off last d w h hd))
theorem rint_dead (b g off last : Nat) (d : List Int) (w : World) (h : Rst w b g d off last 2) :
    Calls Try.prog 56 #[.pointer (some ⟨b, 0, none⟩)] w fun e w' => e = .returned (.int .i64 0) ∧ RTo w w' b g d off last 2 :=
  rint_zero b g off off last last d w (hid_of (ruint_dead b g off last d w h))

/-- A byte string: how many bytes its length takes, and its length. -/
def decRun (l : List Int) : Option (Nat × Nat) :=
  match dec l with
  | some (n, k) => if n ≤ l.length - k then some (k, n) else none
  | none => none

theorem decRun_some {l : List Int} {k n : Nat} (h : decRun l = some (k, n)) : dec l = some (n, k) ∧ n ≤ l.length - k := by
  unfold decRun at h
  split at h
  · split at h
    · rename_i n' k' he hn
      simp only [Option.some.injEq, Prod.mk.injEq] at h
      obtain ⟨rfl, rfl⟩ := h
      exact ⟨he, hn⟩
    · cases h
  · cases h

set_option maxHeartbeats 400000 in
theorem run_some (b g off last k n : Nat) (d : List Int) (err : Int) (w : World) (h : Rst w b g d off last err) (hd : decRun (d.drop off) = some (k, n)) :
    Calls Try.prog 71 #[.pointer (some ⟨b, 0, none⟩)] w fun e w' => e = .returned (.tuple #[.int .i64 ((off + k : Nat) : Int), .int .i64 ((off + k + n : Nat) : Int), .bool true]) ∧ Drew w w' := by
  obtain ⟨hd1, hd2⟩ := decRun_some hd
  have hb := h.dec_bound hd1
  rw [List.length_drop] at hd2
  have hsm := h.small
  have c0 := h.c0
  have HC := hid_of (number_some b g off last n k d err w h hd1)
  have hdd : decide ((d.length : Int) - ((off + k : Nat) : Int) < (n : Int)) = false := by simp; omega
  obtain ⟨hb0, hb1, hb2, hb3⟩ := hb
  clear hd hd1 h
  go_enter Try.func71, Try.ntmps71
  go_wp2_with (go_at_call 68; refine HC.out.mono ?_; rintro e w1 ⟨rfl, m, rfl⟩)
  go_ret3
  exact ⟨by simp, m, rfl⟩

set_option maxHeartbeats 400000 in
theorem run_none (b g off last : Nat) (d : List Int) (err : Int) (w : World) (h : Rst w b g d off last err) (hd : decRun (d.drop off) = none) :
    Calls Try.prog 71 #[.pointer (some ⟨b, 0, none⟩)] w fun e w' => e = .returned (.tuple #[.int .i64 0, .int .i64 0, .bool false]) ∧ Drew w w' := by
  have hsm := h.small
  have c0 := h.c0
  unfold decRun at hd
  rcases hq : dec (d.drop off) with _ | ⟨n, k⟩
  · have HC := hid_of (number_none b g off last d err w h hq)
    clear hd hq h
    go_enter Try.func71, Try.ntmps71
    go_wp2_with (go_at_call 68; refine HC.out.mono ?_; rintro e w1 ⟨rfl, m, rfl⟩)
    go_ret3
    exact ⟨rfl, m, rfl⟩
  · have HC := hid_of (number_some b g off last n k d err w h hq)
    have hb := h.dec_bound hq
    rw [hq] at hd
    simp only at hd
    split at hd
    · cases hd
    · rename_i hd2
      rw [List.length_drop] at hd2
      have hdd : decide ((d.length : Int) - ((off + k : Nat) : Int) < (n : Int)) = true := by simp; omega
      obtain ⟨hb0, hb1, hb2, hb3⟩ := hb
      clear hd hq h
      go_enter Try.func71, Try.ntmps71
      go_wp2_with (go_at_call 68; refine HC.out.mono ?_; rintro e w1 ⟨rfl, m, rfl⟩)
      go_ret3
      exact ⟨rfl, m, rfl⟩

end Go.Proofs.Ytdmonbcinlmljaa.Wr

/- The last contracts of the Reader of package wire. No condition but bounds on sizes. -/
namespace Go.Proofs.Ytdmonbcinlmljaa.Wr
open Go.RowKit

set_option maxHeartbeats 400000 in
theorem newReader_any (ao : Option Addr) (l : List Int) (cap : Nat) (w : World) (hr : ∀ x ∈ l, 0 ≤ x ∧ x ≤ 255) (hl : l.length ≤ 140737488351232)
    (hpos : 0 < l.length → ∃ ad, ao = some ad ∧ ∀ j v, (bs l)[j]? = some v → w.cell? (ad.add j) = some v) :
    Calls Try.prog 29 #[.slice ao l.length cap] w fun e w' => ∃ b g, e = .returned (.pointer (some ⟨b, 0, none⟩)) ∧ Rst w' b g l 0 0 0 ∧ Below w.heap.size w w' ∧ w.heap.size ≤ b ∧ w.heap.size ≤ g := by
  have HC := hid_of (clone_any ao l cap w hl hpos)
  clear hpos
  go_enter Try.func29, Try.ntmps29
  go_wp2_with (go_at_call 53; refine HC.out.mono ?_; rintro e w1 ⟨rfl, h1, h2⟩; have H1 := hid_of h1; clear h1)
  go_ret
  have hs := lt_of_block H1.out
  refine ⟨_, _, rfl, ⟨heap_alloc_new _ _, ?_, hr, by omega, hl⟩, h2.alloc h2.size _, h2.size, Nat.le_refl _⟩
  rw [Below.heap_alloc _ _ _ hs]
  exact H1.out

set_option maxHeartbeats 400000 in
theorem left_any (b g off last : Nat) (d : List Int) (err : Int) (w : World) (h : Rst w b g d off last err) :
    Calls Try.prog 60 #[.pointer (some ⟨b, 0, none⟩)] w fun e w' => e = .returned (.int .i64 ((d.length - off : Nat) : Int)) ∧ Drew w w' := by
  have c0 := h.c0
  have c1 := h.c1
  have hle := h.le
  have hsm := h.small
  go_enter Try.func60, Try.ntmps60
  have a1 : IntKind.i64.wrap ((d.length : Int) - (off : Int)) = (d.length : Int) - (off : Int) := IntWalk.i64_in _ (by omega)
  go_wp2
  go_quiet (fail)
  go_wp2
  go_ret
  exact ⟨ret_i64 (by omega), nq, rfl⟩
set_option maxHeartbeats 400000 in
theorem end_ok (b g off last : Nat) (d : List Int) (w : World) (h : Rst w b g d off last 0) (ho : off = d.length) :
    Calls Try.prog 31 #[.pointer (some ⟨b, 0, none⟩)] w fun e w' => e = .returned (.int .i64 0) ∧ Drew w w' := by
  have c3 := h.c3
  have HC := hid_of (left_any b g off last d 0 w h)
  have hb : (((d.length - off : Nat) : Int) != 0) = false := by simp; omega
  have H := hid_of h
  clear h ho
  go_enter Try.func31, Try.ntmps31
  go_wp2_with (go_at_call 60; refine HC.out.mono ?_; rintro e w1 ⟨rfl, m, rfl⟩)
  go_ret
  exact ⟨rfl, m, rfl⟩
set_option maxHeartbeats 400000 in
theorem end_bad (b g off last : Nat) (d : List Int) (err : Int) (w : World) (h : Rst w b g d off last err) (ho : err = 2 ∨ (err = 0 ∧ off ≠ d.length)) :
    Calls Try.prog 31 #[.pointer (some ⟨b, 0, none⟩)] w fun e w' => e = .returned (.int .i64 2) ∧ Drew w w' := by
  have c3 := h.c3
  have hle := h.le
  have HC := hid_of (left_any b g off last d err w h)
  rcases ho with rfl | ⟨rfl, ho⟩
  · clear h
    go_enter Try.func31, Try.ntmps31
    go_wp2_with (go_at_call 60; refine HC.out.mono ?_; rintro e w1 ⟨rfl, m, rfl⟩)
    go_ret
    exact ⟨rfl, 0, rfl⟩
  · have hb : (((d.length - off : Nat) : Int) != 0) = true := by simp; omega
    have H := hid_of h
    clear h ho
    go_enter Try.func31, Try.ntmps31
    go_wp2_with (go_at_call 60; refine HC.out.mono ?_; rintro e w1 ⟨rfl, m, rfl⟩)
    go_ret
    exact ⟨rfl, m, rfl⟩

theorem clone_n (ao : Option Addr) (l : List Int) (n cap : Nat) (w : World) (hn : l.length = n) (hl : l.length ≤ 140737488351232)
    (hpos : 0 < l.length → ∃ ad, ao = some ad ∧ ∀ j v, (bs l)[j]? = some v → w.cell? (ad.add j) = some v) :
    Calls Try.prog 53 #[.slice ao n cap] w fun e w' => e = .returned (.slice (some ⟨w.heap.size, 0, none⟩) n n) ∧
      w'.heap[w.heap.size]? = some (.cells (bs l).toArray 5 (0, 0)) ∧ Below w.heap.size w w' := by
  subst hn; exact clone_any ao l cap w hl hpos

/-- The cells of a part of the Reader's bytes. -/
theorem Rst.part {w : World} {b g off last : Nat} {d : List Int} {err : Int} (h : Rst w b g d off last err) (s n : Nat) (a : Nat) (ha : s < d.length → a = s) :
    0 < ((d.drop s).take n).length → ∃ ad, (some (⟨g, a, none⟩ : Addr)) = some ad ∧ ∀ j v, (bs ((d.drop s).take n))[j]? = some v → w.cell? (ad.add j) = some v := by
  intro h0
  have hs : s < d.length := by
    rcases Nat.lt_or_ge s d.length with h1 | h1
    · exact h1
    · rw [List.drop_eq_nil_of_le h1] at h0; simp at h0
  obtain rfl := ha hs
  refine ⟨_, rfl, fun j v hv => ?_⟩
  have hp : (⟨g, a, none⟩ : Addr).add j = ⟨g, a + j, none⟩ := by unfold Addr.add; split <;> simp_all
  rw [hp, cell_of_row _ _ _ _ _ _ h.row]
  simp only [bs, List.map_take, List.map_drop, List.getElem?_take, List.getElem?_drop] at hv
  split at hv
  · simpa [bs] using hv
  · cases hv

theorem ret_slice {a b n : Nat} (h : a = b) : Ending.returned (.slice (some ⟨a, 0, none⟩) n n) = Ending.returned (.slice (some ⟨b, 0, none⟩) n n) := by rw [h]

theorem rbytes_end {w w2 w3 : World} {b g off off' : Nat} {d l : List Int} (R : RTo w w2 b g d off' off 0) (R3 : w3.heap[w2.heap.size]? = some (.cells (bs l).toArray 5 (0, 0)) ∧ Below w2.heap.size w2 w3) :
    Rst w3 b g d off' off 0 ∧ w3.heap[w.heap.size]? = some (.cells (bs l).toArray 5 (0, 0)) ∧ Kept (fun k => k = b) w w3 := by
  obtain ⟨r1, r2, r3⟩ := R
  obtain ⟨q1, q2⟩ := R3
  have hg := r1.glt
  have hb := r1.blt
  rw [r3] at q1
  refine ⟨r1.same (q2.block b hb) (q2.block g hg), q1, ⟨q2.os.trans r2.os, q2.tape.trans r2.tape, q2.output.trans r2.output, Nat.le_trans r2.size q2.size, fun q hq hS => (q2.block q (by omega)).trans (r2.block q hq hS)⟩⟩

theorem RTo.st {w w' : World} {b g off last : Nat} {d : List Int} {err : Int} (h : RTo w w' b g d off last err) : Rst w' b g d off last err := h.1
theorem part_q {w : World} {b g off last s n : Nat} {d q : List Int} {err : Int} (hq : q = (d.drop s).take n) (h : Rst w b g d off last err) :
    0 < q.length → ∃ ad, (some (⟨g, s, none⟩ : Addr)) = some ad ∧ ∀ j v, (bs q)[j]? = some v → w.cell? (ad.add j) = some v := by
  rw [hq]; exact h.part s n s (fun _ => rfl)

set_option maxHeartbeats 400000 in
theorem rtext_ok (b g off last k n : Nat) (d : List Int) (w : World) (h : Rst w b g d off last 0) (hd : decRun (d.drop off) = some (k, n)) :
    Calls Try.prog 59 #[.pointer (some ⟨b, 0, none⟩)] w fun e w' => e = .returned (.string (strOfNums ((d.drop (off + k)).take n))) ∧ RTo w w' b g d (off + k + n) off 0 := by
  obtain ⟨hd1, hd2⟩ := decRun_some hd
  obtain ⟨hb0, hb1, hb2, hb3⟩ := h.dec_bound hd1
  rw [List.length_drop] at hd2
  have hsm := h.small
  have c0 := h.c0
  have HC := hid_of (run_some b g off last k n d 0 w h hd)
  have H := hid_of h
  have hen : off + k + n ≤ d.length := by omega
  clear hd hd1 h
  have hpl : ((d.drop (off + k)).take n).length = n := by rw [List.length_take, List.length_drop]; omega
  have HPL := hid_of hpl
  clear hpl
  by_cases hs : off + k = d.length
  · have hn0 : n = 0 := by omega
    subst hn0
    have HS := hid_of hs
    have hi1 : d.length ≤ off + k := by omega
    clear hs
    go_enter Try.func59, Try.ntmps59
    go_wp2_with (first
      | (go_at_call 71; refine HC.out.mono ?_; rintro e w1 ⟨rfl, m, rfl⟩)
      | (go_at_call 69; refine (settle_ok b g off last (off + k + 0) d _ (H.out.drewN _) hen).mono ?_; rintro e w2 ⟨rfl, h2⟩; have R := hid_of h2.ofDrewN; have c0' := h2.1.c0; clear h2)
      | (with_reducible refine wpList_str _ rfl 34 9 _ rfl 5 Try.underlying34 Try.underlying5 Try.underlying9 _ [] _ rfl (fun h0 => by simp at h0) ?_))
    go_ret
    refine ⟨?_, R.out⟩
    simp
  · have hs1 : off + k < d.length := by omega
    clear hs
    go_enter Try.func59, Try.ntmps59
    obtain ⟨q, hq⟩ : ∃ q, q = (d.drop (off + k)).take n := ⟨_, rfl⟩
    have HQ := hid_of hq
    rw [← hq]
    rw [← hq] at HPL
    have HPN : Hid (q.length = off + k + n - (off + k)) := hid_of (by have := HPL.out; omega)
    clear hq
    go_wp2_with (first
      | (go_at_call 71; refine HC.out.mono ?_; rintro e w1 ⟨rfl, m, rfl⟩)
      | (go_at_call 69; refine (settle_ok b g off last (off + k + n) d _ (H.out.drewN _) hen).mono ?_; rintro e w2 ⟨rfl, h2⟩; have R := hid_of h2.ofDrewN; have c0' := h2.1.c0; clear h2)
      | (with_reducible refine wpList_str_n _ rfl 34 9 _ rfl 5 Try.underlying34 Try.underlying5 Try.underlying9 (some ⟨g, off + k, none⟩) q (off + k + n - (off + k)) (d.length - (off + k)) HPN.out rfl (part_q HQ.out (RTo.st R.out)) ?_))
    go_ret
    exact ⟨rfl, R.out⟩

set_option maxHeartbeats 400000 in
theorem rtext_bad (b g off last : Nat) (d : List Int) (w : World) (h : Rst w b g d off last 0) (hd : decRun (d.drop off) = none) :
    Calls Try.prog 59 #[.pointer (some ⟨b, 0, none⟩)] w fun e w' => e = .returned (.string (strOfNums [])) ∧ RTo w w' b g d off off 2 := by
  have HC := hid_of (run_none b g off last d 0 w h hd)
  have H := hid_of h
  clear hd h
  go_enter Try.func59, Try.ntmps59
  go_wp2_with (first
    | (go_at_call 71; refine HC.out.mono ?_; rintro e w1 ⟨rfl, m, rfl⟩)
    | (go_at_call 69; refine (settle_bad b g off last 0 d _ (H.out.drewN _)).mono ?_; rintro e w2 ⟨rfl, h2⟩; have R := hid_of h2.ofDrewN; clear h2))
  go_ret
  exact ⟨rfl, R.out⟩

set_option maxHeartbeats 400000 in
theorem rtext_dead (b g off last : Nat) (d : List Int) (w : World) (h : Rst w b g d off last 2) :
    Calls Try.prog 59 #[.pointer (some ⟨b, 0, none⟩)] w fun e w' => e = .returned (.string (strOfNums [])) ∧ RTo w w' b g d off last 2 := by
  have H := hid_of h
  rcases hd : decRun (d.drop off) with _ | ⟨k, n⟩
  · have HC := hid_of (run_none b g off last d 2 w h hd)
    clear hd h
    go_enter Try.func59, Try.ntmps59
    go_wp2_with (first
      | (go_at_call 71; refine HC.out.mono ?_; rintro e w1 ⟨rfl, m, rfl⟩)
      | (go_at_call 69; refine (settle_dead b g off last _ _ d _ (H.out.drewN _)).mono ?_; rintro e w2 ⟨rfl, h2⟩; have R := hid_of h2.ofDrewN; clear h2))
    go_ret
    exact ⟨rfl, R.out⟩
  · have HC := hid_of (run_some b g off last k n d 2 w h hd)
    clear hd h
    go_enter Try.func59, Try.ntmps59
    go_wp2_with (first
      | (go_at_call 71; refine HC.out.mono ?_; rintro e w1 ⟨rfl, m, rfl⟩)
      | (go_at_call 69; refine (settle_dead b g off last _ _ d _ (H.out.drewN _)).mono ?_; rintro e w2 ⟨rfl, h2⟩; have R := hid_of h2.ofDrewN; clear h2))
    go_ret
    exact ⟨rfl, R.out⟩

set_option maxHeartbeats 400000 in
theorem rcount_ok (b g off last n k : Nat) (d : List Int) (w : World) (h : Rst w b g d off last 0) (hd : dec (d.drop off) = some (n, k)) (hn : off + k + n ≤ d.length) :
    Calls Try.prog 70 #[.pointer (some ⟨b, 0, none⟩)] w fun e w' => e = .returned (.int .i64 n) ∧ RTo w w' b g d (off + k) off 0 := by
  obtain ⟨hb0, hb1, hb2, hb3⟩ := h.dec_bound hd
  have hsm := h.small
  have c0 := h.c0
  have HC := hid_of (number_some b g off last n k d 0 w h hd)
  have H := hid_of h
  have hdd : decide ((n : Int) ≤ (d.length : Int) - ((off : Int) + (k : Int))) = true := by simp; omega
  have hok : off + k ≤ d.length := hb1
  clear hd h
  go_enter Try.func70, Try.ntmps70
  go_wp2_with (first
    | (go_at_call 68; refine HC.out.mono ?_; rintro e w1 ⟨rfl, m, rfl⟩)
    | (go_at_call 69; refine (settle_ok b g off last (off + k) d _ (H.out.drewN _) hok).mono ?_; rintro e w2 ⟨rfl, h2⟩; have R := hid_of h2.ofDrewN; clear h2))
  go_ret
  exact ⟨rfl, R.out⟩

end Go.Proofs.Ytdmonbcinlmljaa.Wr

/- write and Encode of package lattice, of a description of the kind Max. Bounds on sizes alone. -/
namespace Go.Proofs.Ytdmonbcinlmljaa
open Go.RowKit

def WS2 (b : Nat) (v : Value) (q : Nat) : Prop := q = b ∨ v.ownBlock = some q
set_option maxRecDepth 100000 in
set_option maxHeartbeats 3200000 in
theorem wmax_any (lo hi : Int) (b B : Nat) (v : Value) (l : List Int) (w : World) (rlo : R64 lo) (rhi : R64 hi) (h : Wr.Wst B b w v l) (hl : l.length ≤ 60000000000000) (hB : B ≤ w.heap.size) :
    Calls Try.prog 27 #[.pointer (some ⟨b, 0, none⟩), .agg #[.int .i64 2, .int .i64 lo, .int .i64 hi, .slice none 0 0, .slice none 0 0, .slice none 0 0]] w fun e w' => e = .returned (.tuple #[]) ∧ ∃ v', Wr.Wst B b w' v' (l ++ Wr.enc 2 ++ Wr.enc (Wr.zig lo) ++ Wr.enc (Wr.zig hi)) ∧ Wr.Kept (fun k => k = b ∨ v.ownBlock = some k) w w' := by
  have HW : Hid (Wr.Wst B b (w.alloc (.cells #[.int .i64 2, .int .i64 lo, .int .i64 hi, .slice none 0 0, .slice none 0 0, .slice none 0 0] 26)) v l) := hid_of (h.alloc _)
  have hb := lt_of_block h.blk
  have hbx : ∀ w', Wr.Kept (fun k => k = b ∨ v.ownBlock = some k) (w.alloc (.cells #[.int .i64 2, .int .i64 lo, .int .i64 hi, .slice none 0 0, .slice none 0 0, .slice none 0 0] 26)) w' → w'.cell? ⟨w.heap.size, 0, none⟩ = some (.int .i64 2) ∧ w'.cell? ⟨w.heap.size, 1, none⟩ = some (.int .i64 lo) ∧ w'.cell? ⟨w.heap.size, 2, none⟩ = some (.int .i64 hi) := fun w' hk => by
    have e := (hk.block w.heap.size (by simp) (fun hs => by
      rcases hs with hs | hs
      · omega
      · have := (h.own.lt _ hs).2; omega)).trans (heap_alloc_new w (.cells [.int .i64 2, .int .i64 lo, .int .i64 hi, .slice none 0 0, .slice none 0 0, .slice none 0 0].toArray 26 (0, 0)))
    exact ⟨cell_blk e rfl, cell_blk e rfl, cell_blk e rfl⟩
  have HBX := hid_of hbx
  have HB := hid_of hB
  have HL := hid_of hl
  have l1 : Hid ((Wr.enc 2).length ≤ 10) := hid_of (Wr.enc_length_10 2 (by omega))
  have l2 : Hid ((Wr.enc (Wr.zig lo)).length ≤ 10) := hid_of (Wr.enc_length_10 _ (Wr.zig_lt lo rlo.1 rlo.2))
  have C0 := hid_of (show Calls Try.prog 49 #[.pointer (some ⟨b, 0, none⟩), .int .u64 2] _ _ from Wr.uint_any 2 b B v l (w.alloc (.cells #[.int .i64 2, .int .i64 lo, .int .i64 hi, .slice none 0 0, .slice none 0 0, .slice none 0 0] 26)) (by omega) HW.out (by omega) (by simp; omega))
  clear hbx hb h hl hB
  go_enter Try.func27, Try.ntmps27
  go_wp2_with (first
    | (go_at_call 49; ((with_reducible refine (C0.out).mono ?_); (rintro e w1 ⟨rfl, v1, h1, k1, o1⟩); have W1 := hid_of h1; have K1 := hid_of k1; have O1 := hid_of o1; have C1 := hid_of (Wr.int_any lo b B v1 _ w1 rlo.1 rlo.2 h1 (by rw [List.length_append]; have := HL.out; have := l1.out; omega) (Nat.le_trans HB.out (Nat.le_trans (by simp) k1.size))); obtain ⟨p0, p1, p2⟩ := HBX.out w1 k1; clear h1 k1 o1))
    | (go_at_call 50; ((with_reducible refine (C1.out).mono ?_)); rintro e w2 ⟨rfl, v2, h1, k1, o1⟩; have W2 := hid_of h1; have K2 := hid_of (Wr.kept_two K1.out k1 O1.out); have O2 := hid_of (Wr.own_two K1.out.size O1.out o1); have C2 := hid_of (Wr.int_any hi b B v2 _ w2 rhi.1 rhi.2 h1 (by rw [List.length_append, List.length_append]; have := HL.out; have := l1.out; have := l2.out; omega) (Nat.le_trans HB.out (Nat.le_trans (by simp) K2.out.size))); obtain ⟨q0, q1, q2⟩ := HBX.out w2 K2.out; clear h1 k1 o1 p0 p1 p2)
    | (go_at_call 50; ((with_reducible refine (C2.out).mono ?_)); rintro e w3 ⟨rfl, v3, h1, k1, o1⟩; have W3 := hid_of h1; have K3 := hid_of (Wr.kept_two K2.out k1 O2.out); clear h1 k1 o1 q0 q1 q2))
  go_end0
  exact ⟨rfl, v3, W3.out, K3.out.of_alloc⟩
set_option maxRecDepth 100000 in
set_option maxHeartbeats 3200000 in
theorem encmax_any (lo hi : Int) (t : Lat) (ht : t = ⟨2, lo, hi, [], [], []⟩) (hok : chkL t = 0) (w : World) (rlo : R64 lo) (rhi : R64 hi) (M : List Int) (hM : M = Wr.enc 2 ++ Wr.enc (Wr.zig lo) ++ Wr.enc (Wr.zig hi)) :
    Calls Try.prog 10 #[.agg #[.int .i64 2, .int .i64 lo, .int .i64 hi, .slice none 0 0, .slice none 0 0, .slice none 0 0]] w fun e w' => ∃ g, e = .returned (.slice (some ⟨g, 0, none⟩) M.length M.length) ∧ w'.heap[g]? = some (.cells (Wr.bs M).toArray 5 (0, 0)) ∧ Below w.heap.size w w' ∧ w.heap.size ≤ g := by
  have HO : ∀ w, LO w 2 lo hi none 0 0 none 0 0 none 0 0 t := fun w => by
    subst ht
    exact ⟨rfl, rfl, rfl, ⟨by omega, by omega⟩, rlo, rhi, ⟨none, 0, rfl, Nat.le_refl _, by omega, fun h => by simp [ss, Lat.ns] at h⟩, by intro y hy; simp [Lat.ns] at hy, rfl, lds_nil w, rfl, rur_nil w, by intro y hy; simp [Lat.rs] at hy, rfl⟩
  have HBW := hid_of (bel_alloc w (.cells #[.int .i64 2, .int .i64 lo, .int .i64 hi, .slice none 0 0, .slice none 0 0, .slice none 0 0] 26))
  have CH := hid_of (check_any t 2 lo hi none 0 0 none 0 0 none 0 0 (w.alloc (.cells #[.int .i64 2, .int .i64 lo, .int .i64 hi, .slice none 0 0, .slice none 0 0, .slice none 0 0] 26)) (HO _))
  rw [hok] at CH
  have HC : Hid (∀ w', Below (w.alloc (.cells #[.int .i64 2, .int .i64 lo, .int .i64 hi, .slice none 0 0, .slice none 0 0, .slice none 0 0] 26)).heap.size (w.alloc (.cells #[.int .i64 2, .int .i64 lo, .int .i64 hi, .slice none 0 0, .slice none 0 0, .slice none 0 0] 26)) w' → _) := hid_of (fun w' h => box6 2 lo hi none 0 0 none 0 0 none 0 0 h)
  have l1 := Wr.enc_length_10 2 (by omega)
  have l2 := Wr.enc_length_10 _ (Wr.zig_lt lo rlo.1 rlo.2)
  have l3 := Wr.enc_length_10 _ (Wr.zig_lt hi rhi.1 rhi.2)
  have hML : M.length ≤ 30 := by rw [hM, List.length_append, List.length_append]; omega
  have HML := hid_of hML
  have WM : Hid (∀ w2 : World, Calls Try.prog 27 #[.pointer (some ⟨w2.heap.size, 0, none⟩), .agg #[.int .i64 2, .int .i64 lo, .int .i64 hi, .slice none 0 0, .slice none 0 0, .slice none 0 0]] (w2.alloc (.cells #[.slice none 0 0] 52)) fun e w' => e = .returned (.tuple #[]) ∧ ∃ v', Wr.Wst w2.heap.size w2.heap.size w' v' M ∧ Below w2.heap.size w2 w') := hid_of (fun w2 => by
    have hw : Wr.Wst w2.heap.size w2.heap.size (w2.alloc (.cells #[.slice none 0 0] 52)) (.slice none 0 0) [] := ⟨heap_alloc_new _ _, World.ownsRow_nil _ _ _ _⟩
    refine (wmax_any lo hi w2.heap.size w2.heap.size (.slice none 0 0) [] (w2.alloc (.cells #[.slice none 0 0] 52)) rlo rhi hw (by simp) (by simp)).mono ?_
    rintro e w' ⟨rfl, v', h1, h2⟩
    refine ⟨rfl, v', by rw [hM]; exact h1, (bel_alloc w2 (.cells #[.slice none 0 0] 52)).trans ?_⟩
    refine h2.below (by simp) (fun k hk => ?_)
    rcases hk with hk | hk
    · omega
    · cases hk)
  clear hM HO l1 l2 l3 hML
  go_enter Try.func10, Try.ntmps10
  go_wp2_with (first
    | (go_at_call 6; ((with_reducible refine (CH.out).mono ?_); (rintro e w2 ⟨rfl, h2⟩); (have H2 := hid_of h2); (obtain ⟨p0, p1, p2, p3, p4, p5⟩ := HC.out (w2.alloc (.cells #[.slice none 0 0] 52)) (h2.alloc h2.size _)); clear h2))
    | (go_at_call 27; ((with_reducible refine (WM.out w2).mono ?_); (rintro e w3 ⟨rfl, v3, h3, h4⟩); (have W3 := hid_of h3); (have H4 := hid_of h4); (have DT := hid_of (Wr.data_any w2.heap.size w2.heap.size v3 M w3 h3 (by have := HML.out; omega))); clear h3 h4))
    | (go_at_call 28; ((with_reducible refine (DT.out).mono ?_); (rintro e w4 ⟨rfl, h3, h4⟩); (have R4 := hid_of h3); (have H5 := hid_of h4); clear h3 h4)))
  go_ret
  have hx2 : Below w.heap.size w w2 := HBW.out.trans (H2.out.mono HBW.out.size)
  have hx3 : Below w.heap.size w w3 := hx2.trans (H4.out.mono hx2.size)
  exact ⟨_, rfl, R4.out, hx3.trans (H5.out.mono hx3.size), hx3.size⟩
end Go.Proofs.Ytdmonbcinlmljaa

/- read of package lattice, of a description of the kind Max. Bounds on sizes alone. -/
namespace Go.Proofs.Ytdmonbcinlmljaa
open Go.RowKit

theorem wk_blk {S : Nat → Prop} {w w' : World} (h : Wr.Kept S w w') (k : Nat) (hk : k < w.heap.size) (hs : ¬ S k) : w'.heap[k]? = w.heap[k]? := h.block k hk hs
theorem fr_blk {w : World} {b : Nat} {cs : List Value} {E : TypeId} (hb : w.heap[b]? = some (.cells cs.toArray E (0, 0))) (j : Nat) : w.frozen? ⟨b, j, none⟩ = false := by
  simp [World.frozen?, hb]
theorem set_blk {w : World} {b k a : Nat} {v : Value} (p : Nat) (hne : a ≠ b) : (w.setCell ⟨a, k, none⟩ v).heap[b]? = w.heap[b]? := Below.heap_setCell w ⟨a, k, none⟩ v b (fun h => hne h.symm)
set_option maxRecDepth 100000 in
set_option maxHeartbeats 3200000 in
theorem readmax_any (b g k1 k2 k3 n1 n2 : Nat) (d : List Int) (w : World) (h : Wr.Rst w b g d 0 0 0) (h1 : Wr.dec (d.drop 0) = some (2, k1)) (h2 : Wr.dec (d.drop (0 + k1)) = some (n1, k2)) (h3 : Wr.dec (d.drop (0 + k1 + k2)) = some (n2, k3)) :
    Calls Try.prog 30 #[.pointer (some ⟨b, 0, none⟩), .int .i64 1] w fun e w' => e = .returned (.agg #[.int .i64 2, .int .i64 (Wr.unzig n1), .int .i64 (Wr.unzig n2), .slice none 0 0, .slice none 0 0, .slice none 0 0]) ∧ Wr.Rst w' b g d (0 + k1 + k2 + k3) (0 + k1 + k2) 0 ∧ Wr.Kept (fun k => k = b) w w' := by
  have hgb := h.gne
  have hb := h.blt
  have hg := h.glt
  have HB := hid_of hb
  have HG := hid_of hg
  have R0 : Hid (Wr.Rst (w.alloc (.cells [.int .i64 0, .int .i64 0, .int .i64 0, .slice none 0 0, .slice none 0 0, .slice none 0 0].toArray 26 (0, 0))) b g d 0 0 0) := hid_of (h.same ((bel_alloc w _).block b hb) ((bel_alloc w _).block g hg))
  have C0 := hid_of (show Calls Try.prog 54 #[.pointer (some ⟨b, 0, none⟩)] (w.alloc (.cells #[.int .i64 0, .int .i64 0, .int .i64 0, .slice none 0 0, .slice none 0 0, .slice none 0 0] 26 (0, 0))) (fun e w' => e = .returned (.int .u64 2) ∧ Wr.RTo (w.alloc (.cells [.int .i64 0, .int .i64 0, .int .i64 0, .slice none 0 0, .slice none 0 0, .slice none 0 0].toArray 26 (0, 0))) w' b g d (0 + k1) 0 0) from Wr.ruint_ok b g 0 0 2 k1 d _ R0.out h1)
  -- what stands behind the first call
  have S1 : Hid (∀ w1 : World, Wr.RTo (w.alloc (.cells [.int .i64 0, .int .i64 0, .int .i64 0, .slice none 0 0, .slice none 0 0, .slice none 0 0].toArray 26 (0, 0))) w1 b g d (0 + k1) 0 0 → w1.heap.size = w.heap.size + 1 ∧ w1.heap[w.heap.size]? = some (.cells [.int .i64 0, .int .i64 0, .int .i64 0, .slice none 0 0, .slice none 0 0, .slice none 0 0].toArray 26 (0, 0)) ∧ Wr.Kept (fun k => k = b) w w1 ∧ Wr.Rst (w1.alloc (.cells [.int .i64 2, .int .i64 0, .int .i64 0, .slice none 0 0, .slice none 0 0, .slice none 0 0].toArray 26 (0, 0))) b g d (0 + k1) 0 0) := hid_of (fun w1 h => by
    obtain ⟨q1, q2, q3⟩ := h
    have hs : (w.alloc (.cells [.int .i64 0, .int .i64 0, .int .i64 0, .slice none 0 0, .slice none 0 0, .slice none 0 0].toArray 26 (0, 0))).heap.size = w.heap.size + 1 := by simp
    refine ⟨by rw [q3, hs], (q2.block w.heap.size (by rw [hs]; omega) (by omega)).trans (heap_alloc_new w _), q2.of_alloc, ?_⟩
    exact q1.same ((bel_alloc w1 _).block b q1.blt) ((bel_alloc w1 _).block g q1.glt))
  have S2 : Hid (∀ w1 w2 : World, w1.heap.size = w.heap.size + 1 → w1.heap[w.heap.size]? = some (.cells [.int .i64 0, .int .i64 0, .int .i64 0, .slice none 0 0, .slice none 0 0, .slice none 0 0].toArray 26 (0, 0)) → Wr.RTo (w1.alloc (.cells [.int .i64 2, .int .i64 0, .int .i64 0, .slice none 0 0, .slice none 0 0, .slice none 0 0].toArray 26 (0, 0))) w2 b g d (0 + k1 + k2) (0 + k1) 0 → w2.heap.size = w.heap.size + 2 ∧ w2.heap[w.heap.size]? = some (.cells [.int .i64 0, .int .i64 0, .int .i64 0, .slice none 0 0, .slice none 0 0, .slice none 0 0].toArray 26 (0, 0)) ∧ w2.heap[w1.heap.size]? = some (.cells [.int .i64 2, .int .i64 0, .int .i64 0, .slice none 0 0, .slice none 0 0, .slice none 0 0].toArray 26 (0, 0)) ∧ Wr.Kept (fun k => k = b) w1 w2 ∧
      Wr.Rst (w2.setCell ⟨w1.heap.size, 1, none⟩ (.int .i64 (Wr.unzig n1))) b g d (0 + k1 + k2) (0 + k1) 0 ∧ (w2.setCell ⟨w1.heap.size, 1, none⟩ (.int .i64 (Wr.unzig n1))).heap[w.heap.size]? = some (.cells [.int .i64 0, .int .i64 0, .int .i64 0, .slice none 0 0, .slice none 0 0, .slice none 0 0].toArray 26 (0, 0)) ∧ (w2.setCell ⟨w1.heap.size, 1, none⟩ (.int .i64 (Wr.unzig n1))).heap[w1.heap.size]? = some (.cells [.int .i64 2, .int .i64 (Wr.unzig n1), .int .i64 0, .slice none 0 0, .slice none 0 0, .slice none 0 0].toArray 26 (0, 0))) := hid_of (fun w1 w2 hs hz h => by
    obtain ⟨q1, q2, q3⟩ := h
    have hs2 : (w1.alloc (.cells [.int .i64 2, .int .i64 0, .int .i64 0, .slice none 0 0, .slice none 0 0, .slice none 0 0].toArray 26 (0, 0))).heap.size = w1.heap.size + 1 := by simp
    have e1 : w2.heap[w.heap.size]? = some (.cells [.int .i64 0, .int .i64 0, .int .i64 0, .slice none 0 0, .slice none 0 0, .slice none 0 0].toArray 26 (0, 0)) := (q2.block w.heap.size (by rw [hs2]; omega) (by omega)).trans (((bel_alloc w1 _).block _ (by omega)).trans hz)
    have e2 : w2.heap[w1.heap.size]? = some (.cells [.int .i64 2, .int .i64 0, .int .i64 0, .slice none 0 0, .slice none 0 0, .slice none 0 0].toArray 26 (0, 0)) := (q2.block w1.heap.size (by rw [hs2]; omega) (by omega)).trans (heap_alloc_new w1 _)
    refine ⟨by rw [q3, hs2, hs], e1, e2, q2.of_alloc, ?_, ?_, ?_⟩
    · exact q1.same (set_blk 0 (by omega)) (set_blk 0 (by omega))
    · exact (set_blk 0 (by omega)).trans e1
    · exact Go.Proofs.Ytdmonbcinlmljaa.blk_setCell (k := 1) e2)
  have S3 : Hid (∀ w1 w2 w3 : World, w1.heap.size = w.heap.size + 1 → w2.heap.size = w.heap.size + 2 → (w2.setCell ⟨w1.heap.size, 1, none⟩ (.int .i64 (Wr.unzig n1))).heap[w.heap.size]? = some (.cells [.int .i64 0, .int .i64 0, .int .i64 0, .slice none 0 0, .slice none 0 0, .slice none 0 0].toArray 26 (0, 0)) → (w2.setCell ⟨w1.heap.size, 1, none⟩ (.int .i64 (Wr.unzig n1))).heap[w1.heap.size]? = some (.cells [.int .i64 2, .int .i64 (Wr.unzig n1), .int .i64 0, .slice none 0 0, .slice none 0 0, .slice none 0 0].toArray 26 (0, 0)) → Wr.RTo (w2.setCell ⟨w1.heap.size, 1, none⟩ (.int .i64 (Wr.unzig n1))) w3 b g d (0 + k1 + k2 + k3) (0 + k1 + k2) 0 →
      w3.heap[w.heap.size]? = some (.cells [.int .i64 0, .int .i64 0, .int .i64 0, .slice none 0 0, .slice none 0 0, .slice none 0 0].toArray 26 (0, 0)) ∧ w3.heap[w1.heap.size]? = some (.cells [.int .i64 2, .int .i64 (Wr.unzig n1), .int .i64 0, .slice none 0 0, .slice none 0 0, .slice none 0 0].toArray 26 (0, 0)) ∧ Wr.Kept (fun k => k = b ∨ k = w1.heap.size) w2 w3 ∧
      Wr.Rst (w3.setCell ⟨w1.heap.size, 2, none⟩ (.int .i64 (Wr.unzig n2))) b g d (0 + k1 + k2 + k3) (0 + k1 + k2) 0 ∧ (w3.setCell ⟨w1.heap.size, 2, none⟩ (.int .i64 (Wr.unzig n2))).heap[w.heap.size]? = some (.cells [.int .i64 0, .int .i64 0, .int .i64 0, .slice none 0 0, .slice none 0 0, .slice none 0 0].toArray 26 (0, 0)) ∧ (w3.setCell ⟨w1.heap.size, 2, none⟩ (.int .i64 (Wr.unzig n2))).heap[w1.heap.size]? = some (.cells [.int .i64 2, .int .i64 (Wr.unzig n1), .int .i64 (Wr.unzig n2), .slice none 0 0, .slice none 0 0, .slice none 0 0].toArray 26 (0, 0))) := hid_of (fun w1 w2 w3 hs hs2 hz hl h => by
    obtain ⟨q1, q2, q3⟩ := h
    have hss : (w2.setCell ⟨w1.heap.size, 1, none⟩ (.int .i64 (Wr.unzig n1))).heap.size = w2.heap.size := by simp
    have e1 : w3.heap[w.heap.size]? = some (.cells [.int .i64 0, .int .i64 0, .int .i64 0, .slice none 0 0, .slice none 0 0, .slice none 0 0].toArray 26 (0, 0)) := (q2.block w.heap.size (by rw [hss]; omega) (by omega)).trans hz
    have e2 : w3.heap[w1.heap.size]? = some (.cells [.int .i64 2, .int .i64 (Wr.unzig n1), .int .i64 0, .slice none 0 0, .slice none 0 0, .slice none 0 0].toArray 26 (0, 0)) := (q2.block w1.heap.size (by rw [hss]; omega) (by omega)).trans hl
    refine ⟨e1, e2, ?_, ?_, ?_, ?_⟩
    · exact ⟨q2.os, q2.tape, q2.output, by rw [← hss]; exact q2.size, fun k hk hn => (q2.block k (by rw [hss]; exact hk) (fun e => hn (.inl e))).trans (set_blk 0 (fun e => hn (.inr e.symm)))⟩
    · exact q1.same (set_blk 0 (by omega)) (set_blk 0 (by omega))
    · exact (set_blk 0 (by omega)).trans e1
    · exact Go.Proofs.Ytdmonbcinlmljaa.blk_setCell (k := 2) e2)
  have LX1 : Hid ((#[.int .i64 2, .int .i64 (Wr.unzig n1), .int .i64 (Wr.unzig n2), .slice none 0 0, .slice none 0 0, .slice none 0 0] : Array Value).all (·.oneCell') = true) := hid_of (by simp [Value.oneCell'])
  have H2 := hid_of h2
  have H3 := hid_of h3
  clear h h1 h2 h3 hb hg hgb
  go_enter Try.func30, Try.ntmps30
  go_wp2_with (first
    | (go_at_call 54; ((with_reducible refine (C0.out).mono ?_); (rintro e w1 ⟨rfl, r1⟩); (have R1 := hid_of (S1.out w1 r1)); (have C1 := hid_of (Wr.rint_ok b g _ _ n1 k2 d _ R1.out.2.2.2 H2.out)); clear r1))
    | (go_at_call 56; ((with_reducible refine (C1.out).mono ?_); (rintro e w2 ⟨rfl, r1⟩); (have R2 := hid_of (S2.out w1 w2 R1.out.1 R1.out.2.1 r1)); (have s1 := cell_blk R2.out.2.2.1 (j := 1) rfl); (have s2 := fr_blk R2.out.2.2.1 1); (have C2 := hid_of (Wr.rint_ok b g _ _ n2 k3 d _ R2.out.2.2.2.2.1 H3.out)); clear r1))
    | (go_at_call 56; ((with_reducible refine (C2.out).mono ?_); (rintro e w3 ⟨rfl, r1⟩); (have R3 := hid_of (S3.out w1 w2 w3 R1.out.1 R2.out.1 R2.out.2.2.2.2.2.1 R2.out.2.2.2.2.2.2 r1)); (have t1 := cell_blk R3.out.2.1 (j := 2) rfl); (have t2 := fr_blk R3.out.2.1 2); (have y0 := cell_blk R3.out.2.2.2.2.2 (j := 0) rfl); (have y1 := cell_blk R3.out.2.2.2.2.2 (j := 1) rfl); (have y2 := cell_blk R3.out.2.2.2.2.2 (j := 2) rfl); (have y3 := cell_blk R3.out.2.2.2.2.2 (j := 3) rfl); (have y4 := cell_blk R3.out.2.2.2.2.2 (j := 4) rfl); (have y5 := cell_blk R3.out.2.2.2.2.2 (j := 5) rfl); clear r1 s1 s2))
    | (refine wpList_store_row rfl 26 (.tmp 4) (.tmp 108) rfl w.heap.size #[.int .i64 2, .int .i64 (Wr.unzig n1), .int .i64 (Wr.unzig n2), .slice none 0 0, .slice none 0 0, .slice none 0 0] rfl rfl 26 _ R3.out.2.2.2.2.1 infoLat rfl LX1.out ?_))
  refine bodyPost_ret (results_cell_row rfl _ _ w.heap.size 26 #[.int .i64 2, .int .i64 (Wr.unzig n1), .int .i64 (Wr.unzig n2), .slice none 0 0, .slice none 0 0, .slice none 0 0] (0, 0) _ rfl (setRow_heap _ _ _ _ _ _ R3.out.2.2.2.2.1) Try.underlying26 rfl infoLat) rfl ⟨rfl, ?_, ?_⟩
  · exact R3.out.2.2.2.1.same (setRow_other _ _ _ _ (by have := HB.out; omega)) (setRow_other _ _ _ _ (by have := HG.out; omega))
  · have a1 := R1.out.2.2.1
    have a2 := R2.out.2.2.2.1
    have a3 := R3.out.2.2.1
    have z1 := R1.out.1
    have z2 := R2.out.1
    refine ⟨a3.os.trans (a2.os.trans a1.os), a3.tape.trans (a2.tape.trans a1.tape), a3.output.trans (a2.output.trans a1.output), ?_, fun k hk hn => ?_⟩
    · have := a3.size
      simp [World.setRow]
      omega
    · rw [setRow_other _ _ _ _ (by omega)]
      exact (set_blk 0 (by omega)).trans ((a3.block k (by omega) (by omega)).trans ((a2.block k (by omega) hn).trans (a1.block k hk hn)))
end Go.Proofs.Ytdmonbcinlmljaa

/- Descriptions whose rows lie at or above a block. Bounds on sizes alone. -/
namespace Go.Proofs.Ytdmonbcinlmljaa
open Go.RowKit

/-- The row of a slice lies in a block at or above B. -/
def Ge (B : Nat) (v : Value) : Prop := ∀ (a : Addr) (n c : Nat), v = .slice (some a) n c → B ≤ a.block
theorem Ge.mono {B B' : Nat} {v : Value} (h : Ge B v) (hb : B' ≤ B) : Ge B' v := fun a n c e => Nat.le_trans hb (h a n c e)
theorem Rd.keep {B : Nat} {w w' : World} {v : Value} {l : List Value} (h : Rd w v l) (hB : Ge B v) (hs : w.heap.size ≤ w'.heap.size) (hk : ∀ k, B ≤ k → k < w.heap.size → w'.heap[k]? = w.heap[k]?) : Rd w' v l := by
  obtain ⟨ao, cap, e, h2, h3, h4⟩ := h
  refine ⟨ao, cap, e, h2, h3, fun h0 => ?_⟩
  obtain ⟨g, o, rfl, hg, hc⟩ := h4 h0
  have hb := hk g (hB _ _ _ e) hg
  exact ⟨g, o, rfl, by omega, fun i t ht => (World.cell?_of_block (w := w) hb).trans (hc i t ht)⟩
theorem PRd.keep {B : Nat} {w w' : World} {v : Value} {l : List PV} (h : PRd w v l) (hB : Ge B v) (hs : w.heap.size ≤ w'.heap.size) (hk : ∀ k, B ≤ k → k < w.heap.size → w'.heap[k]? = w.heap[k]?) : PRd w' v l := by
  obtain ⟨ao, cap, e, h2, h3, h4⟩ := h
  refine ⟨ao, cap, e, h2, h3, fun h0 => ?_⟩
  obtain ⟨g, o, rfl, hg, hc⟩ := h4 h0
  have hb := hk g (hB _ _ _ e) hg
  refine ⟨g, o, rfl, by omega, fun i t ht => ?_⟩
  obtain ⟨c0, c1⟩ := hc i t ht
  exact ⟨(World.cell?_of_block (w := w) hb).trans c0, (World.cell?_of_block (w := w) hb).trans c1⟩
theorem SxRd.keep {B : Nat} {w w' : World} {v : Value} {l : List SxV} (h : SxRd w v l) (hB : Ge B v) (hs : w.heap.size ≤ w'.heap.size) (hk : ∀ k, B ≤ k → k < w.heap.size → w'.heap[k]? = w.heap[k]?) : SxRd w' v l := by
  obtain ⟨ao, cap, e, h2, h3, h4⟩ := h
  refine ⟨ao, cap, e, h2, h3, fun h0 => ?_⟩
  obtain ⟨g, o, rfl, hg, hc⟩ := h4 h0
  have hb := hk g (hB _ _ _ e) hg
  refine ⟨g, o, rfl, by omega, fun i t ht => ?_⟩
  obtain ⟨c0, c1, c2, c3, c4, c5⟩ := hc i t ht
  exact ⟨(World.cell?_of_block (w := w) hb).trans c0, (World.cell?_of_block (w := w) hb).trans c1, (World.cell?_of_block (w := w) hb).trans c2, (World.cell?_of_block (w := w) hb).trans c3, (World.cell?_of_block (w := w) hb).trans c4, (World.cell?_of_block (w := w) hb).trans c5⟩
/-- Rules in rows at or above B. -/
def RuB (B : Nat) (w : World) (v : Value) (rs : List Gr) : Prop := ∃ l : List PV, PRd w v l ∧ Ge B v ∧ l.length = rs.length ∧ ∀ (i : Nat) (t : PV) (r : Gr), l[i]? = some t → rs[i]? = some r → Rd w t.1 (ss r.1) ∧ Ge B t.1 ∧ t.2 = .string (ba r.2)
theorem RuB.keep {B : Nat} {w w' : World} {v : Value} {rs : List Gr} (h : RuB B w v rs) (hs : w.heap.size ≤ w'.heap.size) (hk : ∀ k, B ≤ k → k < w.heap.size → w'.heap[k]? = w.heap[k]?) : RuB B w' v rs := by
  obtain ⟨l, h1, h2, h3, h4⟩ := h
  exact ⟨l, h1.keep h2 hs hk, h2, h3, fun i t r ht hr => ⟨(h4 i t r ht hr).1.keep (h4 i t r ht hr).2.1 hs hk, (h4 i t r ht hr).2⟩⟩
theorem RuB.mono {B B' : Nat} {w : World} {v : Value} {rs : List Gr} (h : RuB B w v rs) (hb : B' ≤ B) : RuB B' w v rs := by
  obtain ⟨l, h1, h2, h3, h4⟩ := h
  exact ⟨l, h1, h2.mono hb, h3, fun i t r ht hr => ⟨(h4 i t r ht hr).1, (h4 i t r ht hr).2.1.mono hb, (h4 i t r ht hr).2.2⟩⟩
theorem RuB.ru {B : Nat} {w : World} {v : Value} {rs : List Gr} (h : RuB B w v rs) : RuR w v rs := by
  obtain ⟨l, h1, h2, h3, h4⟩ := h
  exact ⟨l, h1, h3, fun i t r ht hr => ⟨(h4 i t r ht hr).1, (h4 i t r ht hr).2.2⟩⟩
/-- The cells x are the description t, all of its rows at or above B. -/
inductive LB (B : Nat) (w : World) : LX → Lat → Prop
  | mk {x : LX} {t : Lat} (ps : List LX) (hk : x.k = t.k) (hlo : x.lo = t.lo) (hhi : x.hi = t.hi) (rk : R64 x.k) (rlo : R64 x.lo) (rhi : R64 x.hi)
      (hn : Rd w x.vn (ss t.ns)) (bn : Ge B x.vn) (on : Ok t.ns) (hr : RuB B w x.vr t.rs) (or : OkR t.rs) (hp : SxRd w x.vp (ps.map LX.q)) (bp : Ge B x.vp) (hl : ps.length = t.ps.length)
      (hd : ∀ (i : Nat) (y : LX) (u : Lat), ps[i]? = some y → t.ps[i]? = some u → LB B w y u) : LB B w x t
theorem LB.keep {B : Nat} {w w' : World} {x : LX} {t : Lat} (h : LB B w x t) (hs : w.heap.size ≤ w'.heap.size) (hk : ∀ k, B ≤ k → k < w.heap.size → w'.heap[k]? = w.heap[k]?) : LB B w' x t := by
  induction h with
  | mk ps h1 h2 h3 rk rlo rhi hn bn on hr or hp bp hl hd ih => exact .mk ps h1 h2 h3 rk rlo rhi (hn.keep bn hs hk) bn on (hr.keep hs hk) or (hp.keep bp hs hk) bp hl ih
theorem LB.mono {B B' : Nat} {w : World} {x : LX} {t : Lat} (h : LB B w x t) (hb : B' ≤ B) : LB B' w x t := by
  induction h with
  | mk ps h1 h2 h3 rk rlo rhi hn bn on hr or hp bp hl hd ih => exact .mk ps h1 h2 h3 rk rlo rhi hn (bn.mono hb) on (hr.mono hb) or hp (bp.mono hb) hl ih
theorem LB.ld {B : Nat} {w : World} {x : LX} {t : Lat} (h : LB B w x t) : LD w x t := by
  induction h with
  | mk ps h1 h2 h3 rk rlo rhi hn bn on hr or hp bp hl hd ih => exact .mk ps h1 h2 h3 rk rlo rhi hn on hr.ru or hp hl ih
theorem own_lens {w : World} {B E n s : Nat} {cap : Nat} {xo : Option Addr} {xs : List Value} (h : w.ownsRow B E s (.slice xo n cap) n xs) : n ≤ cap ∧ cap ≤ 9223372036854775807 := by
  rcases h.2 with ⟨h1, h2⟩ | ⟨g, cap2, cur, hv, hb, hg, hnc, hcm, hsz, ht⟩
  · cases h1
    exact ⟨by omega, by omega⟩
  · cases hv
    unfold maxLen at hcm
    omega
theorem own_lt {w : World} {base e size n cap g : Nat} {xo : Option Addr} {xs : List Value} (h : w.ownsRow base e size (.slice xo n cap) n xs) (hg : (Value.slice xo n cap).ownBlock = some g) : base ≤ g ∧ g < w.heap.size := h.lt g hg
theorem own_ge {w : World} {base e size n cap : Nat} {xo : Option Addr} {xs : List Value} (h : w.ownsRow base e size (.slice xo n cap) n xs) : Ge base (.slice xo n cap) := fun a n' c e => by
  cases e
  exact (h.lt a.block rfl).1
end Go.Proofs.Ytdmonbcinlmljaa

/- A region whose loads may be taken first under a condition on the world that its last stores need not keep: the condition is shown anew behind the operations of T alone; all others wait for what is taken. No condition. -/
namespace Go.Proofs.Ytdmonbcinlmljaa
open Go

section
variable {P : Program} {ops : Array Oper} {Q : Exit → Act → World → Prop} {md : Region.Mode} {S : World → Prop} {T : Nat → Bool}
def wpAnyT (P : Program) (md : Region.Mode) (ops : Array Oper) (Q : Exit → Act → World → Prop) (S : World → Prop) (T : Nat → Bool) : Nat → Array Bool → Act → World → Prop
  | 0, listed, a, w => Region.ready md ops listed = [] ∧ Q .normal a w
  | fuel + 1, listed, a, w =>
    (Region.ready md ops listed = [] → Q .normal a w) ∧
    ∀ i ∈ Region.ready md ops listed, wpOp P ops Q i (fun a' w' => (T i = true → S w') ∧ wpAnyT P md ops Q S T fuel (listed.setIfInBounds i true) a' w') a w
theorem wpAny_of_T : ∀ (fuel : Nat) (listed : Array Bool) (a : Act) (w : World), wpAnyT P md ops Q S T fuel listed a w → wpAny P md ops Q fuel listed a w
  | 0, _, _, _, h => h
  | fuel + 1, _, _, _, h => ⟨h.1, fun i hi => wpOp_mono (fun a' w' h' => wpAny_of_T fuel _ a' w' h'.2) (h.2 i hi)⟩
theorem wpAnyT_first {i : Nat} {oi : Oper} {v : Value} (hi : ops[i]? = some oi) (hsel : ∀ (j : Nat) (o : Oper) cs b, ops[j]? = some o → o.op ≠ .select cs b)
    (hT : ∀ (j : Nat) (oj : Oper), ops[j]? = some oj → j ≠ i → T j = false → ∃ e ∈ oj.after, Region.binds md e = true ∧ e.on = i)
    (hQ : ∀ c a w, Q (.panic c) (a.put oi.dst v) w → Q (.panic c) a w) :
    ∀ (fuel : Nat) (listed : Array Bool) (a : Act) (w : World),
      (∀ j oj, ops[j]? = some oj → j ≠ i → listed.getD j true = false → (∀ e ∈ oj.after, Region.binds md e = true → e.on ≠ i) → oi.apart ops oj = true) →
      i ∈ Region.ready md ops listed → YieldsIf P ops S oi v a → S w →
      wpAnyT P md ops Q S T fuel (listed.setIfInBounds i true) (a.put oi.dst v) w → wpAnyT P md ops Q S T (fuel + 1) listed a w := by
  intro fuel
  induction fuel with
  | zero =>
    intro listed a w _ hr hy hS H
    refine ⟨fun h => (by rw [h] at hr; cases hr), fun j hj => ?_⟩
    by_cases hji : j = i
    · subst hji; exact hy.wpOp hi hS ⟨fun _ => hS, H⟩
    · have := ready_mono hj hji
      rw [H.1] at this
      cases this
  | succ fuel ih =>
    intro listed a w hfree hr hy hS H
    refine ⟨fun h => (by rw [h] at hr; cases hr), fun j hj => ?_⟩
    by_cases hji : j = i
    · subst hji; exact hy.wpOp hi hS ⟨fun _ => hS, H⟩
    · have h1 := H.2 j (ready_mono hj hji)
      obtain ⟨hjun, oj, hoj, hall⟩ := mem_ready.1 hj
      have hnot : ∀ e ∈ oj.after, Region.binds md e = true → e.on ≠ i := fun e he hb heq => by
        have h1 := hall e he hb
        have h0 := (mem_ready.1 hr).1
        rw [heq] at h1
        rcases Nat.lt_or_ge i listed.size with h' | h'
        · simp [h'] at h0 h1; rw [h0] at h1; cases h1
        · simp [Array.getElem?_eq_none h'] at h1
      have hTj : T j = true := by
        cases hh : T j with
        | true => rfl
        | false =>
          obtain ⟨e, he, hb, heq⟩ := hT j oj hoj hji hh
          exact absurd heq (hnot e he hb)
      have h2 := wpOp_putIf hoj (hfree j oj hoj hji hjun hnot) (fun cs b => hsel i oi cs b hi) (fun cs b => hsel j oj cs b hoj) hQ hy h1
      have hfree' : ∀ k ok, ops[k]? = some ok → k ≠ i → (listed.setIfInBounds j true).getD k true = false →
          (∀ e ∈ ok.after, Region.binds md e = true → e.on ≠ i) → oi.apart ops ok = true := fun k ok hk hki hun hno => by
        refine hfree k ok hk hki ?_ hno
        by_cases hjk : j = k
        · subst hjk; exact hjun
        · rw [getD_set_ne true hjk] at hun; exact hun
      refine wpOp_mono (fun a' w' h3 => ⟨h3.2.1, ih (listed.setIfInBounds j true) a' w' hfree' (ready_mono hr (Ne.symm hji)) h3.1 (h3.2.1 hTj) ?_⟩) h2
      rw [Array.setIfInBounds_comm _ _ hji]
      exact h3.2.2
theorem wpAnyT_pure0 {i : Nat} {oi : Oper} {v : Value} (hi : ops[i]? = some oi) (hsel : ∀ (j : Nat) (o : Oper) cs b, ops[j]? = some o → o.op ≠ .select cs b)
    (hTi : T i = false)
    (hQ : ∀ c a w, Q (.panic c) (a.put oi.dst v) w → Q (.panic c) a w) :
    ∀ (fuel : Nat) (listed : Array Bool) (a : Act) (w : World),
      (∀ j oj, ops[j]? = some oj → j ≠ i → listed.getD j true = false → (∀ e ∈ oj.after, Region.binds md e = true → e.on ≠ i) → oi.apart ops oj = true) →
      i ∈ Region.ready md ops listed → YieldsIf P ops (fun _ => True) oi v a →
      wpAnyT P md ops Q S T fuel (listed.setIfInBounds i true) (a.put oi.dst v) w → wpAnyT P md ops Q S T (fuel + 1) listed a w := by
  intro fuel
  induction fuel with
  | zero =>
    intro listed a w _ hr hy H
    refine ⟨fun h => (by rw [h] at hr; cases hr), fun j hj => ?_⟩
    by_cases hji : j = i
    · subst hji; exact hy.wpOp hi trivial ⟨fun h => by rw [hTi] at h; exact absurd h (by decide), H⟩
    · have := ready_mono hj hji
      rw [H.1] at this
      cases this
  | succ fuel ih =>
    intro listed a w hfree hr hy H
    refine ⟨fun h => (by rw [h] at hr; cases hr), fun j hj => ?_⟩
    by_cases hji : j = i
    · subst hji; exact hy.wpOp hi trivial ⟨fun h => by rw [hTi] at h; exact absurd h (by decide), H⟩
    · have h1 := H.2 j (ready_mono hj hji)
      obtain ⟨hjun, oj, hoj, hall⟩ := mem_ready.1 hj
      have hnot : ∀ e ∈ oj.after, Region.binds md e = true → e.on ≠ i := fun e he hb heq => by
        have h1 := hall e he hb
        have h0 := (mem_ready.1 hr).1
        rw [heq] at h1
        rcases Nat.lt_or_ge i listed.size with h' | h'
        · simp [h'] at h0 h1; rw [h0] at h1; cases h1
        · simp [Array.getElem?_eq_none h'] at h1
      have h2 := wpOp_putIf hoj (hfree j oj hoj hji hjun hnot) (fun cs b => hsel i oi cs b hi) (fun cs b => hsel j oj cs b hoj) hQ hy h1
      have hfree' : ∀ k ok, ops[k]? = some ok → k ≠ i → (listed.setIfInBounds j true).getD k true = false →
          (∀ e ∈ ok.after, Region.binds md e = true → e.on ≠ i) → oi.apart ops ok = true := fun k ok hk hki hun hno => by
        refine hfree k ok hk hki ?_ hno
        by_cases hjk : j = k
        · subst hjk; exact hjun
        · rw [getD_set_ne true hjk] at hun; exact hun
      refine wpOp_mono (fun a' w' h3 => ⟨h3.2.1, ih (listed.setIfInBounds j true) a' w' hfree' (ready_mono hr (Ne.symm hji)) h3.1 ?_⟩) h2
      rw [Array.setIfInBounds_comm _ _ hji]
      exact h3.2.2
theorem wpAnyT_pure {i : Nat} {oi : Oper} {v : Value} {fuel : Nat} {listed : Array Bool} {a : Act} {w : World} (hi : ops[i]? = some oi)
    (hs : Region.noSelect ops = true) (hf : Region.free md ops listed i = true) (hr : (Region.ready md ops listed).contains i = true) (hw : T i = false)
    (hQ : ∀ c a w, Q (.panic c) (a.put oi.dst v) w → Q (.panic c) a w) (hy : Yields P ops oi v a)
    (h : wpAnyT P md ops Q S T fuel (listed.setIfInBounds i true) (a.put oi.dst v) w) : wpAnyT P md ops Q S T (fuel + 1) listed a w :=
  wpAnyT_pure0 hi (Region.noSelect_spec hs) hw hQ fuel listed a w (Region.free_spec hi hf) (by simpa using hr) hy.yieldsIf h
/-- Every operation outside T waits for number i. -/
def waits (md : Region.Mode) (ops : Array Oper) (T : Nat → Bool) (i : Nat) : Bool :=
  (List.range ops.size).all fun j => T j || j == i || match ops[j]? with | some o => o.after.any fun e => Region.binds md e && e.on == i | none => true
theorem waits_spec {i : Nat} (h : waits md ops T i = true) : ∀ (j : Nat) (oj : Oper), ops[j]? = some oj → j ≠ i → T j = false → ∃ e ∈ oj.after, Region.binds md e = true ∧ e.on = i := by
  intro j oj hj hji hT
  have hlt : j < ops.size := (Array.getElem?_eq_some_iff.1 hj).1
  have := List.all_eq_true.1 h j (List.mem_range.2 hlt)
  rw [hT, hj, beq_eq_false_iff_ne.2 hji] at this
  simp only [Bool.false_or] at this
  obtain ⟨k, hk, h2⟩ := Array.any_eq_true.1 this
  simp only [Bool.and_eq_true, beq_iff_eq] at h2
  exact ⟨_, Array.getElem_mem hk, h2.1, h2.2⟩
theorem wpAnyT_take {i : Nat} {oi : Oper} {v : Value} {fuel : Nat} {listed : Array Bool} {a : Act} {w : World} (hi : ops[i]? = some oi)
    (hs : Region.noSelect ops = true) (hf : Region.free md ops listed i = true) (hr : (Region.ready md ops listed).contains i = true) (hw : waits md ops T i = true)
    (hQ : ∀ c a w, Q (.panic c) (a.put oi.dst v) w → Q (.panic c) a w) (hy : YieldsIf P ops S oi v a) (hS : S w)
    (h : wpAnyT P md ops Q S T fuel (listed.setIfInBounds i true) (a.put oi.dst v) w) : wpAnyT P md ops Q S T (fuel + 1) listed a w :=
  wpAnyT_first hi (Region.noSelect_spec hs) (waits_spec hw) hQ fuel listed a w (Region.free_spec hi hf) (by simpa using hr) hy hS h
def AllReadyT (P : Program) (md : Region.Mode) (ops : Array Oper) (Q : Exit → Act → World → Prop) (S : World → Prop) (T : Nat → Bool) (fuel : Nat) (listed : Array Bool) (a : Act) (w : World) (rs : List Nat) : Prop :=
  ∀ i ∈ rs, wpOp P ops Q i (fun a' w' => (T i = true → S w') ∧ wpAnyT P md ops Q S T fuel (listed.setIfInBounds i true) a' w') a w
theorem AllReadyT.nil {fuel : Nat} {listed : Array Bool} {a : Act} {w : World} : AllReadyT P md ops Q S T fuel listed a w [] := fun _ h => by cases h
theorem AllReadyT.cons {fuel : Nat} {listed : Array Bool} {a : Act} {w : World} {i : Nat} {o : Oper} {rs : List Nat} (ho : ops[i]? = some o)
    (h : ∀ K' : Act → World → Prop, Shut (∀ a w, (T i = true → S w) → wpAnyT P md ops Q S T fuel (listed.setIfInBounds i true) a w → K' a w) → if Region.wanted o (yielded ops a.tmps) = true then Oper.wp P o a w K' Q else K' (a.put o.dst undef) w)
    (hs : AllReadyT P md ops Q S T fuel listed a w rs) : AllReadyT P md ops Q S T fuel listed a w (i :: rs) := fun j hj => by
  rcases List.mem_cons.1 hj with rfl | hj
  · exact wpOp_step ho (fun K' hK => h K' (fun a w hS hW => hK a w ⟨hS, hW⟩))
  · exact hs j hj
theorem wpAnyT_ready {rs : List Nat} {fuel : Nat} {listed : Array Bool} {a : Act} {w : World} (hr : Region.ready md ops listed = rs) (hne : rs ≠ [])
    (h : AllReadyT P md ops Q S T fuel listed a w rs) : wpAnyT P md ops Q S T (fuel + 1) listed a w := ⟨fun h0 => absurd (hr ▸ h0) hne, hr ▸ h⟩
theorem wpAnyT_done {listed : Array Bool} {a : Act} {w : World} (hr : Region.ready md ops listed = []) (h : Q .normal a w) : ∀ fuel, wpAnyT P md ops Q S T fuel listed a w
  | 0 => ⟨hr, h⟩
  | _ + 1 => ⟨fun _ => h, by rw [hr]; simp⟩
/-- Where nothing of T is left the condition is no longer asked. -/
theorem wpAnyT_of_any : ∀ (fuel : Nat) (listed : Array Bool) (a : Act) (w : World), (∀ i, listed.getD i true = false → T i = false) → wpAny P md ops Q fuel listed a w → wpAnyT P md ops Q S T fuel listed a w
  | 0, _, _, _, _, h => h
  | fuel + 1, listed, a, w, hT, h => ⟨h.1, fun i hi => wpOp_mono (fun a' w' h' => ⟨fun ht => (by
      have h1 := hT i (mem_ready.1 hi).1
      rw [h1] at ht
      exact absurd ht (by decide)), wpAnyT_of_any fuel _ a' w' (fun j hj => hT j (by
        by_cases e : i = j
        · subst e; exact (mem_ready.1 hi).1
        · rw [getD_set_ne true e] at hj; exact hj)) h'⟩) (h.2 i hi)⟩
def spent (T : Nat → Bool) (listed : Array Bool) : Bool := (List.range listed.size).all fun i => listed.getD i true || !(T i)
theorem spent_spec {listed : Array Bool} (h : spent T listed = true) : ∀ i, listed.getD i true = false → T i = false := by
  intro i hi
  by_cases hlt : i < listed.size
  · have := List.all_eq_true.1 h i (List.mem_range.2 hlt)
    rw [hi] at this
    simpa using this
  · simp [Array.getElem?_eq_none (Nat.le_of_not_lt hlt)] at hi
theorem wp_region_T {id : Nat} {a : Act} {w : World} (hm : P.follows .mixedOrders = true)
    (h : wpAnyT P .any ops Q S T ops.size (Array.replicate ops.size false) a w.drew) : (Code.region id ops true).wp P Q a w :=
  wp_region_any hm (wpAny_of_T _ _ _ _ h)
end
end Go.Proofs.Ytdmonbcinlmljaa

/- Rows of rules and of descriptions that are filled with copies. Bounds on sizes alone. -/
namespace Go.Proofs.Ytdmonbcinlmljaa
open Go.RowKit

theorem rulE : Elem2 Try.prog 24 47 (.agg #[.slice none 0 0, .string ⟨#[]⟩]) 40 := ⟨Try.underlying24, by kernel_rfl, rfl⟩
theorem latE6 : Elem6 Try.prog 23 26 (.agg #[.int .i64 0, .int .i64 0, .int .i64 0, .slice none 0 0, .slice none 0 0, .slice none 0 0]) 96 := ⟨Try.underlying23, by kernel_rfl, rfl⟩
set_option maxRecDepth 100000 in
set_option maxHeartbeats 1600000 in
theorem cloneS_any (ao : Option Addr) (n cap : Nat) (l : List Value) (w : World) (R : Rd w (.slice ao n cap) l) (h1 : ∀ u ∈ l, u.oneCell' = true) (hl : l.length ≤ 8796093022208) :
    Calls Try.prog 44 #[.slice ao n cap] w fun e w' => ∃ xo xc, e = .returned (.slice xo n xc) ∧ Ow 9 w.heap.size w w' (.slice xo n xc) l := by
  have q : ∀ (w : World) (a : Option Addr) (n c n' c' : Nat), (binOp .eql 22 (.slice a n c) (.slice none n' c')).run Try.prog w = .ok (.bool a.isNone) w := fun w a n c n' c' => Lib.run_eql_slice_nil w _ _ a n c n' c' Try.underlying22
  obtain ⟨hn, hc9⟩ : n = l.length ∧ n ≤ cap := by
    obtain ⟨a1, c1, e, h, _⟩ := R
    cases e
    exact ⟨rfl, h⟩
  have HN := hid_of hn
  have RX := hid_of R
  have H1 := hid_of h1
  have HL := hid_of hl
  clear R h1 hl hc9
  cases ao with
  | none =>
    have hl0 : l = [] := by
      obtain ⟨a1, c1, e, _, _, h⟩ := RX.out
      cases e
      cases l with
      | nil => rfl
      | cons x l => obtain ⟨g, o, e, _⟩ := h (by simp)
                    cases e
    subst hl0
    have hn0 : n = 0 := hn
    clear hn
    go_enter Try.func44, Try.ntmps44
    go_wp2
    go_ret
    subst hn0
    exact ⟨none, 0, rfl, ow_nil _ _⟩
  | some a =>
    clear hn
    go_enter Try.func44, Try.ntmps44
    go_wp2_with (at_builtin; (refine wpList_app strsE rfl _ _ rfl (v := .slice (some ⟨w.heap.size, 0, none⟩) 0 0) rfl (ow_empty _ _) (vx := .slice (some a) n cap) rfl (RX.out.at (bel_alloc _ _)) H1.out (by have := HL.out; simp; omega) (by have := HL.out; simp; omega) ?_; (intro xo xn xc w2 hxn how); (have OW := hid_of how); (have HX := hid_of hxn); clear how hxn))
    go_ret
    have e1 : xn = n := by have := HX.out; have := HN.out; simp at *; omega
    exact ⟨xo, xc, by rw [e1] <;> rfl, by have := OW.out; rw [List.nil_append, e1] at this; exact this⟩

/-- A store into a row of the call's own, whose elements may have more cells than one. -/
theorem own_setN {w : World} {B E n j s : Nat} {cap : Nat} {g : Nat} {xs : List Value} (h : w.ownsRow B E s (.slice (some ⟨g, 0, none⟩) n cap) n xs) (u : Value) :
    (w.setCell ⟨g, j, none⟩ u).ownsRow B E s (.slice (some ⟨g, 0, none⟩) n cap) n (xs.set j u) := by
  obtain ⟨h1, h2⟩ := h
  refine ⟨by rw [List.length_set]; exact h1, ?_⟩
  rcases h2 with ⟨h2, _⟩ | ⟨g2, cap2, cur, hv, hb, hg, hnc, hcm, hsz, ht⟩
  · cases h2
  · simp only [Value.slice.injEq, Option.some.injEq, Addr.mk.injEq] at hv
    obtain ⟨⟨rfl, _⟩, _, rfl⟩ := hv
    have hg' : w.heap[g]? = some (.cells (cur.toList).toArray E (0, 0)) := by simpa using hg
    have h3 := blk_setCell (k := j) (u := u) hg'
    refine .inr ⟨g, cap, (cur.toList.set j u).toArray, rfl, hb, h3, hnc, hcm, by simpa using hsz, ?_⟩
    rw [List.take_set, ht]
/-- What such a row is in memory. -/
theorem own_at {w : World} {B E n s : Nat} {cap : Nat} {xo : Option Addr} {xs : List Value} (h : w.ownsRow B E s (.slice xo n cap) n xs) (h0 : 0 < n) : ∃ g, xo = some ⟨g, 0, none⟩ ∧ B ≤ g ∧ g < w.heap.size ∧ ∀ j u, xs[j]? = some u → w.cell? ⟨g, j, none⟩ = some u ∧ w.frozen? ⟨g, j, none⟩ = false := by
  obtain ⟨h1, h2⟩ := h
  rcases h2 with ⟨_, h2⟩ | ⟨g, cap2, cur, hv, hb, hg, hnc, hcm, hsz, ht⟩
  · omega
  · cases hv
    refine ⟨g, rfl, hb, lt_of_block hg, fun j u hu => ⟨?_, by simp [World.frozen?, hg]⟩⟩
    have := World.news_of_block hg j u (by
      rw [← ht, List.getElem?_take] at hu
      split at hu
      · exact hu
      · cases hu)
    rw [Addr.add_mid, Nat.zero_add] at this
    exact this
theorem own_set6 {w : World} {B E n i : Nat} {cap : Nat} {g : Nat} {qs tl : List SxV} {p y : SxV} (h : w.ownsRow B E 6 (.slice (some ⟨g, 0, none⟩) n cap) n (sxds (qs ++ p :: tl))) (hi : qs.length = i) :
    ((((((w.setCell ⟨g, i * 6, none⟩ y.a).setCell ⟨g, i * 6 + 1, none⟩ y.b).setCell ⟨g, i * 6 + 2, none⟩ y.c).setCell ⟨g, i * 6 + 3, none⟩ y.d).setCell ⟨g, i * 6 + 4, none⟩ y.e).setCell ⟨g, i * 6 + 5, none⟩ y.f).ownsRow B E 6 (.slice (some ⟨g, 0, none⟩) n cap) n (sxds (qs ++ [y] ++ tl)) := by
  have e : (((((((sxds (qs ++ p :: tl)).set (i * 6) y.a).set (i * 6 + 1) y.b).set (i * 6 + 2) y.c).set (i * 6 + 3) y.d).set (i * 6 + 4) y.e).set (i * 6 + 5) y.f) = sxds (qs ++ [y] ++ tl) := by
    have hl : (sxds qs).length = i * 6 := by rw [sxds_length, hi]
    have e1 : sxds (qs ++ p :: tl) = sxds qs ++ p.a :: p.b :: p.c :: p.d :: p.e :: p.f :: sxds tl := by rw [sxds_append]; rfl
    have e2 : sxds (qs ++ [y] ++ tl) = sxds qs ++ y.a :: y.b :: y.c :: y.d :: y.e :: y.f :: sxds tl := by rw [sxds_append, sxds_append]; simp [sxds, SxV.cs]
    rw [e1, e2]
    simp [List.set_append, hl]
  rw [← e]
  exact own_setN (own_setN (own_setN (own_setN (own_setN (own_setN h _) _) _) _) _) _
theorem own_set22 {w : World} {B E n j : Nat} {cap : Nat} {g : Nat} {ds tl : List PV} {p : PV} {u v : Value} (h : w.ownsRow B E 2 (.slice (some ⟨g, 0, none⟩) n cap) n (prs (ds ++ p :: tl))) (hi : ds.length = j) :
    ((w.setCell ⟨g, j * 2, none⟩ u).setCell ⟨g, j * 2 + 1, none⟩ v).ownsRow B E 2 (.slice (some ⟨g, 0, none⟩) n cap) n (prs (ds ++ [(u, v)] ++ tl)) := by
  have e : ((prs (ds ++ p :: tl)).set (j * 2) u).set (j * 2 + 1) v = prs (ds ++ [(u, v)] ++ tl) := by
    have hl : (prs ds).length = j * 2 := by rw [prs_length, hi]
    have e1 : prs (ds ++ p :: tl) = prs ds ++ p.1 :: p.2 :: prs tl := by rw [prs_append]; rfl
    have e2 : prs (ds ++ [(u, v)] ++ tl) = prs ds ++ u :: v :: prs tl := by rw [prs_append, prs_append]; simp [prs]
    rw [e1, e2]
    simp [List.set_append, hl]
  rw [← e]
  exact own_setN (own_setN h _) _
section
variable {w : World} {xo : Option Addr} {nn xc : Nat} {yo : Option Addr} {np yc : Nat} {zo : Option Addr} {nr zc : Nat} {wr w2 : World}
def SameBut (g : Nat) (w w' : World) : Prop := (∀ x, x ≠ g → w'.heap[x]? = w.heap[x]?) ∧ w'.heap.size = w.heap.size ∧ (w'.os = w.os ∧ w'.tape = w.tape ∧ w'.output = w.output)
theorem SameBut.refl (g : Nat) (w : World) : SameBut g w w := ⟨fun _ _ => rfl, rfl, rfl, rfl, rfl⟩
theorem SameBut.set {g : Nat} {w w' : World} (h : SameBut g w w') (o : Nat) (v : Value) : SameBut g w (w'.setCell ⟨g, o, none⟩ v) :=
  ⟨fun x hx => (Below.heap_setCell _ _ _ _ hx).trans (h.1 x hx), by simpa using h.2.1, h.2.2.1, h.2.2.2.1, h.2.2.2.2⟩
theorem six_set (w : World) (g o : Nat) (a b c d e f : Value) (wf : World) (hwf : wf = ((((((w.setCell ⟨g, o, none⟩ a).setCell ⟨g, o + 1, none⟩ b).setCell ⟨g, o + 2, none⟩ c).setCell ⟨g, o + 3, none⟩ d).setCell ⟨g, o + 4, none⟩ e).setCell ⟨g, o + 5, none⟩ f)) : SameBut g w wf := by
  rw [hwf]
  exact ((((((SameBut.refl g w).set o a).set (o + 1) b).set (o + 2) c).set (o + 3) d).set (o + 4) e).set (o + 5) f
theorem sxds_of_own {B : Nat} {E : TypeId} {l : List SxV} (h : wr.ownsRow B E 6 (.slice yo np yc) np (sxds l)) (hl : l.length = np) : SxRd wr (.slice yo np yc) l := sx_rd_of_own (B := B) (E := E) (by rw [hl]; exact h)
theorem prd_of_own {B : Nat} {E : TypeId} {l : List PV} (h : wr.ownsRow B E 2 (.slice zo nr zc) nr (prs l)) (hl : l.length = nr) : PRd wr (.slice zo nr zc) l := by
  subst hl
  refine ⟨zo, zc, rfl, (own_lens h).1, (own_lens h).2, fun h0 => ?_⟩
  obtain ⟨g, rfl, _, hg, hc⟩ := own_at h h0
  refine ⟨g, 0, rfl, hg, fun i t ht => ?_⟩
  obtain ⟨g0, g1⟩ := prs_get l i t ht
  rw [Nat.zero_add]
  exact ⟨(hc _ _ g0).1, (hc _ _ g1).1⟩
theorem rd_of_own {B : Nat} {E : TypeId} {l : List Value} (h : wr.ownsRow B E 1 (.slice xo nn xc) nn l) (hl : l.length = nn) : Rd wr (.slice xo nn xc) l := by
  subst hl
  refine ⟨xo, xc, rfl, (own_lens h).1, (own_lens h).2, fun h0 => ?_⟩
  obtain ⟨g, rfl, _, hg, hc⟩ := own_at h h0
  refine ⟨g, 0, rfl, hg, fun i t ht => ?_⟩
  rw [Nat.zero_add]
  exact (hc _ _ ht).1
def ClP (k lo hi : Int) (nn np nr : Nat) (t : Lat) (w : World) (e : Ending) (w' : World) : Prop := ∃ (xo : Option Addr) (xc : Nat) (yo : Option Addr) (yc : Nat) (zo : Option Addr) (zc : Nat), e = .returned (.agg #[.int .i64 k, .int .i64 lo, .int .i64 hi, .slice xo nn xc, .slice yo np yc, .slice zo nr zc]) ∧ LB w.heap.size w' ⟨k, lo, hi, .slice xo nn xc, .slice yo np yc, .slice zo nr zc⟩ t ∧ Below w.heap.size w w'
end
def zSx : SxV := ⟨.int .i64 0, .int .i64 0, .int .i64 0, .slice none 0 0, .slice none 0 0, .slice none 0 0⟩
def zPv : PV := (.slice none 0 0, .string ⟨#[]⟩)
/-- The copies of descriptions so far. -/
structure KL (w : World) (n : Nat) (us : List Lat) (qs : List SxV) (wr : World) : Prop where
  bel : Below w.heap.size w wr
  row : wr.ownsRow w.heap.size 26 6 (.slice (some ⟨w.heap.size, 0, none⟩) n n) n (sxds (qs ++ List.replicate (n - qs.length) zSx))
  le : qs.length ≤ n
  done : ∀ (m : Nat) (y : SxV) (u : Lat), qs[m]? = some y → us[m]? = some u → ∃ x : LX, y = x.q ∧ LB (w.heap.size + 1) wr x u
/-- The copies of rules so far. -/
structure KR (w : World) (n : Nat) (gs : List Gr) (ds : List PV) (wr : World) : Prop where
  bel : Below w.heap.size w wr
  row : wr.ownsRow w.heap.size 47 2 (.slice (some ⟨w.heap.size, 0, none⟩) n n) n (prs (ds ++ List.replicate (n - ds.length) zPv))
  le : ds.length ≤ n
  done : ∀ (m : Nat) (d : PV) (r : Gr), ds[m]? = some d → gs[m]? = some r → Rd wr d.1 (ss r.1) ∧ Ge (w.heap.size + 1) d.1 ∧ d.2 = .string (ba r.2)
theorem rep_succ {α : Type} (z : α) {n i : Nat} (h : i < n) : List.replicate (n - i) z = z :: List.replicate (n - (i + 1)) z := by
  rw [show n - i = (n - (i + 1)) + 1 by omega, List.replicate_succ]
section
variable {w wr W : World} {n i : Nat} {us : List Lat} {qs : List SxV} {gs : List Gr} {ds : List PV}
theorem KL.lt (h : KL w n us qs wr) : w.heap.size < wr.heap.size := (h.row.lt w.heap.size rfl).2
theorem KR.lt (h : KR w n gs ds wr) : w.heap.size < wr.heap.size := (h.row.lt w.heap.size rfl).2
theorem KL.call (h : KL w n us qs wr) (hb : Below wr.heap.size wr W) : KL w n us qs W :=
  ⟨h.bel.trans (hb.mono h.bel.size), own_same h.row fun k hk => hb.block k (h.row.lt k hk).2, h.le, fun m y u hy hu => by
    obtain ⟨x, e, hx⟩ := h.done m y u hy hu
    exact ⟨x, e, hx.keep hb.size fun k _ hl => hb.block k hl⟩⟩
theorem KR.call (h : KR w n gs ds wr) (hb : Below wr.heap.size wr W) : KR w n gs ds W :=
  ⟨h.bel.trans (hb.mono h.bel.size), own_same h.row fun k hk => hb.block k (h.row.lt k hk).2, h.le, fun m d r hd hr => ⟨(h.done m d r hd hr).1.keep (h.done m d r hd hr).2.1 hb.size fun k _ hl => hb.block k hl, (h.done m d r hd hr).2⟩⟩
theorem KL.step (h : KL w n us qs W) (hi : qs.length = i) (hlt : i < n) {x : LX} {u : Lat} (hu : us[i]? = some u) (hx : LB (w.heap.size + 1) W x u) (wf : World) (hwf : wf = ((((((W.setCell ⟨w.heap.size, i * 6, none⟩ x.q.a).setCell ⟨w.heap.size, i * 6 + 1, none⟩ x.q.b).setCell ⟨w.heap.size, i * 6 + 2, none⟩ x.q.c).setCell ⟨w.heap.size, i * 6 + 3, none⟩ x.q.d).setCell ⟨w.heap.size, i * 6 + 4, none⟩ x.q.e).setCell ⟨w.heap.size, i * 6 + 5, none⟩ x.q.f)) :
    KL w n us (qs ++ [x.q]) wf := by
  obtain ⟨ho, hsz, hos⟩ := six_set W w.heap.size (i * 6) x.q.a x.q.b x.q.c x.q.d x.q.e x.q.f wf hwf
  have hk : ∀ k, w.heap.size + 1 ≤ k → k < W.heap.size → wf.heap[k]? = W.heap[k]? := fun k hk _ => ho k (by omega)
  refine ⟨⟨hos.1.trans h.bel.os, hos.2.1.trans h.bel.tape, hos.2.2.trans h.bel.output, by rw [hsz]; exact h.bel.size, fun b hb => (ho b (by omega)).trans (h.bel.block b hb)⟩, ?_, by rw [List.length_append, List.length_singleton]; omega, fun m y v hy hv => ?_⟩
  · have hr := h.row
    rw [hi, rep_succ zSx hlt] at hr
    rw [hwf, List.length_append, List.length_singleton, hi]
    exact own_set6 hr hi
  · by_cases e : m < qs.length
    · rw [List.getElem?_append_left e] at hy
      obtain ⟨x', e', hx'⟩ := h.done m y v hy hv
      exact ⟨x', e', hx'.keep (by rw [hsz]; exact Nat.le_refl _) hk⟩
    · rw [List.getElem?_append_right (by omega)] at hy
      have hm : m = qs.length := by have := (List.getElem?_eq_some_iff.1 hy).1; simp at this; omega
      subst hm
      simp at hy
      subst hy
      rw [hi, hu] at hv
      cases hv
      exact ⟨x, rfl, hx.keep (by rw [hsz]; exact Nat.le_refl _) hk⟩
theorem KR.step (h : KR w n gs ds W) (hi : ds.length = i) (hlt : i < n) {v : Value} {r : Gr} (hu : gs[i]? = some r) (hv : Rd W v (ss r.1)) (hg : Ge (w.heap.size + 1) v) (wf : World) (hwf : wf = (W.setCell ⟨w.heap.size, i * 2, none⟩ v).setCell ⟨w.heap.size, i * 2 + 1, none⟩ (.string (ba r.2))) :
    KR w n gs (ds ++ [(v, .string (ba r.2))]) wf := by
  obtain ⟨ho, hsz, hos⟩ : SameBut w.heap.size W wf := by rw [hwf]; exact ((SameBut.refl _ W).set _ _).set _ _
  have hk : ∀ k, w.heap.size + 1 ≤ k → k < W.heap.size → wf.heap[k]? = W.heap[k]? := fun k hk _ => ho k (by omega)
  refine ⟨⟨hos.1.trans h.bel.os, hos.2.1.trans h.bel.tape, hos.2.2.trans h.bel.output, by rw [hsz]; exact h.bel.size, fun b hb => (ho b (by omega)).trans (h.bel.block b hb)⟩, ?_, by rw [List.length_append, List.length_singleton]; omega, fun m d q hd hq => ?_⟩
  · have hr := h.row
    rw [hi, rep_succ zPv hlt] at hr
    rw [hwf, List.length_append, List.length_singleton, hi]
    exact own_set22 hr hi
  · by_cases e : m < ds.length
    · rw [List.getElem?_append_left e] at hd
      obtain ⟨a, b, c⟩ := h.done m d q hd hq
      exact ⟨a.keep b (by rw [hsz]; exact Nat.le_refl _) hk, b, c⟩
    · rw [List.getElem?_append_right (by omega)] at hd
      have hm : m = ds.length := by have := (List.getElem?_eq_some_iff.1 hd).1; simp at this; omega
      subst hm
      simp at hd
      subst hd
      rw [hi, hu] at hq
      cases hq
      exact ⟨hv.keep hg (by rw [hsz]; exact Nat.le_refl _) hk, hg, rfl⟩
end
end Go.Proofs.Ytdmonbcinlmljaa

/- Copies of rules. Bounds on sizes alone. -/
namespace Go.Proofs.Ytdmonbcinlmljaa
open Go.RowKit
set_option maxRecDepth 100000
set_option maxHeartbeats 3200000
theorem infoRul : (Try.prog.info? 47).map (fun i => i.size) = some 2 := by kernel_rfl
theorem made_toList (z : Array Value) (n : Nat) : (madeCells z n).toList = (List.range n).map (fun i => z[i % z.size]!) := by
  simp [madeCells]
theorem made_two (n : Nat) : (madeCells (Value.agg #[.slice none 0 0, .string ⟨#[]⟩]).cells (n * 2)).toList = prs (List.replicate n zPv) := by
  rw [made_toList]
  induction n with
  | zero => simp [prs]
  | succ n ih =>
    rw [show (n + 1) * 2 = n * 2 + 1 + 1 by omega, List.range_succ, List.range_succ, List.map_append, List.map_append, ih, List.replicate_succ', prs_append]
    have e0 : n * 2 % 2 = 0 := by omega
    have e1 : (n * 2 + 1) % 2 = 1 := by omega
    simp [prs, zPv, Value.cells, e0, e1]
theorem made_six (n : Nat) : (madeCells (Value.agg #[.int .i64 0, .int .i64 0, .int .i64 0, .slice none 0 0, .slice none 0 0, .slice none 0 0]).cells (n * 6)).toList = sxds (List.replicate n zSx) := by
  rw [made_toList]
  induction n with
  | zero => simp [sxds]
  | succ n ih =>
    rw [show (n + 1) * 6 = n * 6 + 1 + 1 + 1 + 1 + 1 + 1 by omega, List.range_succ, List.range_succ, List.range_succ, List.range_succ, List.range_succ, List.range_succ]
    simp only [List.map_append]
    rw [ih, List.replicate_succ', sxds_append]
    have e0 : n * 6 % 6 = 0 := by omega
    have e1 : (n * 6 + 1) % 6 = 1 := by omega
    have e2 : (n * 6 + 1 + 1) % 6 = 2 := by omega
    have e3 : (n * 6 + 1 + 1 + 1) % 6 = 3 := by omega
    have e4 : (n * 6 + 1 + 1 + 1 + 1) % 6 = 4 := by omega
    have e5 : (n * 6 + 1 + 1 + 1 + 1 + 1) % 6 = 5 := by omega
    simp [sxds, SxV.cs, zSx, Value.cells, e0, e1, e2, e3, e4, e5]
theorem rule_any (a : Option Addr) (n c : Nat) (l : List Str) (s : Str) (w : World) (R : Rd w (.slice a n c) (ss l)) (hn : n = l.length) (hl : l.length ≤ 8796093022208) :
    Calls Try.prog 47 #[.agg #[.slice a n c, .string (ba s)]] w fun e w' => ∃ xo xc, e = .returned (.agg #[.slice xo n xc, .string (ba s)]) ∧ Rd w' (.slice xo n xc) (ss l) ∧ Ge w.heap.size (.slice xo n xc) ∧ Below w.heap.size w w' := by
  have HB1 := hid_of (show Below w.heap.size w ((w.alloc (.cells #[.slice a n c, .string (ba s)] 47)).alloc (.cells #[.slice none 0 0, .string ⟨#[]⟩] 47)) from (bel_alloc w _).trans ((bel_alloc _ _).mono (by simp)))
  have CS := hid_of (cloneS_any a n c (ss l) _ (R.at HB1.out) (ss_one _) (by rw [ss_length]; omega))
  have h2n := two_new w (.cells #[.slice a n c, .string (ba s)] 47) (.cells #[.slice none 0 0, .string ⟨#[]⟩] 47)
  have HX := hid_of (fun (wz : World) (hz : Below ((w.alloc (.cells #[.slice a n c, .string (ba s)] 47)).alloc (.cells #[.slice none 0 0, .string ⟨#[]⟩] 47)).heap.size ((w.alloc (.cells #[.slice a n c, .string (ba s)] 47)).alloc (.cells #[.slice none 0 0, .string ⟨#[]⟩] 47)) wz) => (show wz.heap[w.heap.size]? = some (.cells [.slice a n c, .string (ba s)].toArray 47 (0, 0)) ∧ wz.heap[w.heap.size + 1]? = some (.cells [.slice none 0 0, .string ⟨#[]⟩].toArray 47 (0, 0)) from ⟨(hz.block _ (by simp; omega)).trans h2n.1, (hz.block _ (by simp)).trans h2n.2⟩))
  obtain ⟨t, ht⟩ : ∃ t, t = ba s := ⟨_, rfl⟩
  rw [← ht] at HB1 CS HX ⊢
  have HNL := hid_of hn
  clear R h2n ht hn
  go_enter Try.func47, Try.ntmps47
  go_wp2_with (go_at_call 44; ((with_reducible refine (CS.out).mono ?_); (rintro e w3 ⟨xo, xc, rfl, h3⟩)); obtain ⟨b0, b1⟩ := HX.out w3 h3.bel; have c00 := cell_blk (j := 0) b0 rfl; have c01 := cell_blk (j := 1) b0 rfl; have c10 := cell_blk (j := 0) b1 rfl; have c11 := cell_blk (j := 1) b1 rfl; have f00 := fr_blk b0 0; have f01 := fr_blk b0 1; have f10 := fr_blk b1 0; have f11 := fr_blk b1 1; have H3 := hid_of h3; clear h3)
  have e2 := blk_setCell (k := 1) (u := .string t) (blk_setCell (k := 0) (u := .slice xo n xc) ((Below.heap_setCell w3 ⟨w.heap.size, 0, none⟩ (.slice xo n xc) (w.heap.size + 1) (by show w.heap.size + 1 ≠ w.heap.size; omega)).trans b1))
  refine bodyPost_ret (results_cell_row rfl _ _ (w.heap.size + 1) 47 #[.slice xo n xc, .string t] (0, 0) _ rfl e2 Try.underlying47 rfl infoRul) rfl ⟨xo, xc, rfl, ?_, ?_, ?_⟩
  · have ho := H3.out.own
    rw [ss_length, ← HNL.out] at ho
    have hs : ∀ k, k ≠ w.heap.size → k ≠ w.heap.size + 1 → (((w3.setCell ⟨w.heap.size, 0, none⟩ (.slice xo n xc)).setCell ⟨w.heap.size + 1, 0, none⟩ (.slice xo n xc)).setCell ⟨w.heap.size + 1, 1, none⟩ (.string t)).heap[k]? = w3.heap[k]? := fun k h1 h2 => (Below.heap_setCell _ _ _ _ h2).trans ((Below.heap_setCell _ _ _ _ h2).trans (Below.heap_setCell _ _ _ _ h1))
    have h9 := own_same ho fun k hk => hs k (by have := (ho.lt k hk).1; simp at this; omega) (by have := (ho.lt k hk).1; simp at this; omega)
    exact rd_of_own h9 (by rw [ss_length]; exact HNL.out.symm)
  · have ho := H3.out.own
    rw [ss_length, ← HNL.out] at ho
    exact (own_ge ho).mono (by simp; omega)
  · exact ((((HB1.out.trans (H3.out.bel.mono HB1.out.size)).setCell (Nat.le_refl _) _).setCell (Nat.le_succ _) _).setCell (Nat.le_succ _) _)
theorem KR.slot {w W : World} {n j : Nat} {gs : List Gr} {ds : List PV} (h : KR w n gs ds W) (hi : ds.length = j) (hlt : j < n) : (W.cell? ⟨w.heap.size, j * 2, none⟩ = some (.slice none 0 0) ∧ W.frozen? ⟨w.heap.size, j * 2, none⟩ = false) ∧ W.cell? ⟨w.heap.size, j * 2 + 1, none⟩ = some (.string ⟨#[]⟩) ∧ W.frozen? ⟨w.heap.size, j * 2 + 1, none⟩ = false := by
  obtain ⟨g, e, _, _, hc⟩ := own_at h.row (by omega)
  cases e
  have hp : (ds ++ List.replicate (n - ds.length) zPv)[j]? = some zPv := by
    rw [List.getElem?_append_right (by omega), hi, Nat.sub_self, rep_succ zPv hlt]
    rfl
  obtain ⟨g0, g1⟩ := prs_get _ j zPv hp
  exact ⟨hc _ _ g0, hc _ _ g1⟩
theorem eachR_any (F : Nat) (eg : ∀ args w, (callFunc F args).run Try.prog w = .ok (.enter F args) w)
    (hF : ∀ (a : Option Addr) (n c : Nat) (l : List Str) (s : Str) (w : World), Rd w (.slice a n c) (ss l) → n = l.length → l.length ≤ 8796093022208 → Calls Try.prog F #[.agg #[.slice a n c, .string (ba s)]] w fun e w' => ∃ xo xc, e = .returned (.agg #[.slice xo n xc, .string (ba s)]) ∧ Rd w' (.slice xo n xc) (ss l) ∧ Ge w.heap.size (.slice xo n xc) ∧ Below w.heap.size w w')
    (zo : Option Addr) (n cap : Nat) (gs : List Gr) (w : World) (R : RuR w (.slice zo n cap) gs) (hb : n ≤ 1000000) (hg : ∀ r ∈ gs, r.1.length ≤ 8796093021952) :
    Calls Try.prog 46 #[.slice zo n cap, .func (.func F) #[] #[]] w fun e w' => ∃ xo xc ds, e = .returned (.slice xo n xc) ∧ w'.ownsRow w.heap.size 47 2 (.slice xo n xc) n (prs ds) ∧ ds.length = n ∧ (∀ (m : Nat) (d : PV) (r : Gr), ds[m]? = some d → gs[m]? = some r → Rd w' d.1 (ss r.1) ∧ Ge w.heap.size d.1 ∧ d.2 = .string (ba r.2)) ∧ Below w.heap.size w w' := by
  obtain ⟨hn, hc1, hc2⟩ := R.len
  by_cases h0 : n = 0
  · subst h0
    have HR := hid_of R
    clear R hn
    go_enter Try.func46, Try.ntmps46
    go_wp2
    go_ret
    exact ⟨none, 0, [], rfl, World.ownsRow_nil _ _ _ _, rfl, fun m d r hd => by simp at hd, Below.refl _ _⟩
  have e0 : ((n : Int) == 0) = false := beq_eq_false_iff_ne.2 (by omega)
  obtain ⟨i0, hi, hz0, hz1, hz2⟩ := info_parts rulE.info
  have HN := hid_of hn
  have HR := hid_of R
  have HF := hid_of hF
  have HG := hid_of hg
  have hb9 : n ≤ 9223372036854775807 := by omega
  clear R hn hF hg
  go_enter Try.func46, Try.ntmps46
  go_wp2_with (at_make; (refine wpList_make_full _ rfl _ _ 24 rfl w.heap.size 47 i0 (.agg #[.slice none 0 0, .string ⟨#[]⟩]) 2 rulE.und hi hz0 hz1 .i64 .i64 n n n rfl rfl rfl rfl (by rw [hz2]; omega) (by unfold maxLen; omega) (Nat.le_refl _) ?_); intro w2 hown hgrow; have K2 := hid_of (show KR w n gs [] w2 from ⟨(Below.refl _ _).grown hgrow (Nat.le_refl _) (fun k h => by cases h), by rw [List.nil_append, List.length_nil, Nat.sub_zero]; rw [← made_two]; exact hown, Nat.zero_le _, fun m d r hd => by simp at hd⟩); clear hown hgrow)
  go_loopw [16] (fun iv wr => ∃ (j : Nat) (ds : List PV), iv = .int .i64 j ∧ j ≤ n ∧ Hid (ds.length = j) ∧ Hid (KR w n gs ds wr)) (fun iv _ => n - (intOf iv).toNat)
  case atStart => exact ⟨0, [], rfl, Nat.zero_le _, hid_of rfl, K2⟩
  case round =>
    obtain ⟨j, ds, rfl, hj, hl, hk⟩ := hrel
    by_cases hlt : j < n
    · have d1 : decide (j < n) = true := decide_eq_true hlt
      have hlt' : (j : Int) < (n : Int) := by omega
      have HLT := hid_of hlt
      obtain ⟨ls, q1, q2, q3⟩ := HR.out
      obtain ⟨r, hr⟩ : ∃ r, gs[j]? = some r := ⟨_, List.getElem?_eq_getElem (by have := HN.out; omega)⟩
      obtain ⟨p, hp⟩ : ∃ p, ls[j]? = some p := ⟨_, List.getElem?_eq_getElem (by have := HN.out; omega)⟩
      obtain ⟨p1, p2⟩ := q3 j p r hp hr
      obtain ⟨pa, pb⟩ := p
      simp only at p1 p2
      subst p2
      obtain ⟨ra, rn, rc, rfl, hrn⟩ : ∃ a m c, pa = .slice a m c ∧ m = r.1.length := by obtain ⟨a, c, e, _⟩ := p1; exact ⟨a, _, c, e, by rw [ss_length]⟩
      obtain ⟨gc, oc, rfl, k0, k1⟩ := (q1.at hk.out.bel).get hp
      have CALL := hid_of (fun W hR => HF.out ra rn rc r.1 r.2 W hR hrn (by have := HG.out r (List.mem_of_getElem? hr); omega))
      have RP := hid_of (p1.at hk.out.bel)
      have HRR := hid_of hr
      obtain ⟨s, hs⟩ : ∃ s, s = ba r.2 := ⟨_, rfl⟩
      have HS := hid_of hs
      rw [← hs] at CALL k1
      have B1 := hid_of (bel_alloc wr (.cells #[.slice ra rn rc, .string s] 47))
      have FR := hid_of (fun (W : World) (hW : KR w n gs ds W) => own_at hW.row (by omega))
      clear hr hp p1 q1 q2 q3 hs hlt hrn
      go_wp2_with (go_at_fn F; go_loud (refine (CALL.out _ (RP.out.at B1.out)).mono ?_; rintro e w3 ⟨xo, xc, rfl, h1, h2, h3⟩; have H1 := hid_of h1; have H2 := hid_of h2; have K3 := hid_of ((hk.out.call B1.out).call h3); have HB3 := hid_of h3.size; obtain ⟨⟨s0, t0⟩, s1, t1⟩ := K3.out.slot hl.out HLT.out; clear h1 h2 h3))
      go_roundw
      case rel => exact ⟨j + 1, _, by go_num, HLT.out, hid_of (by rw [List.length_append, hl.out]; rfl), hid_of (K3.out.step hl.out HLT.out HRR.out H1.out (H2.out.mono (by have := hk.out.lt; simp; omega)) _ (by rw [← HS.out]))⟩
      case measure => have := HLT.out; simp [intOf]; omega
    · obtain rfl : n = j := by omega
      have d1 : decide (n < n) = false := by simp
      go_wp2
      go_ret
      have hr := hk.out.row
      rw [hl.out, Nat.sub_self, List.replicate_zero, List.append_nil] at hr
      exact ⟨_, _, ds, rfl, hr, hl.out, fun m d r hd hq => by
        obtain ⟨a, b, c⟩ := hk.out.done m d r hd hq
        exact ⟨a, b.mono (Nat.le_succ _), c⟩, hk.out.bel⟩
end Go.Proofs.Ytdmonbcinlmljaa
