/- The contracts of clone and of the Writer of package wire: what each call does to the world. No condition but bounds on sizes. -/
import Derived.Test.YtoogcafceghdjaaWireMath
import Derived.Test.YtoogcafceghdjaaRows
import Derived.WalkKit
import Derived.WalkSpells
import Derived.WalkLawsBesides
import Derived.Laws.CopyOwn
import Derived.Deep.RegionHeld3
import Derived.Deep.AppendLies
import Derived.Deep.RegionLaw
import Derived.IntWalk
import Derived.Laws.BitsAllLaws
namespace Go.Proofs.Ytoogcafceghdjaa.Wr
open Go.RowKit

theorem Try.infoU8 : (Try.prog.info? 5).map (fun i => (i.zero, i.size, i.bytes)) = some (some (.int .u8 0), 1, 1) := by kernel_rfl
theorem Try.sizeU8 : (Try.prog.info? 5).map (·.size) = some 1 := by kernel_rfl

/-- The cells of a list of bytes. -/
def bs (l : List Int) : List Value := l.map (Value.int .u8)
theorem bs_length (l : List Int) : (bs l).length = l.length := by simp [bs]
theorem bs_one (l : List Int) : ∀ v ∈ bs l, v.oneCell' = true := by
  intro v hv; simp [bs] at hv; obtain ⟨x, _, rfl⟩ := hv; rfl
theorem bs_append (a b : List Int) : bs (a ++ b) = bs a ++ bs b := by simp [bs]

theorem hid_of {p : Prop} (h : p) : Hid p := h

/-- What make has laid, as a whole block. -/
theorem made_row {w : World} {B g e n : Nat} {z : Value} {xs : List Value} (h : w.ownsRow B e 1 (.slice (some ⟨g, 0, none⟩) n n) n xs) (hx : xs = (madeCells #[z] n).toList := by (first | rfl | simp)) :
    w.heap[g]? = some (.cells (List.replicate n z).toArray e (0, 0)) := by
  obtain ⟨hn0, hn1⟩ := h
  rcases hn1 with ⟨h, _⟩ | ⟨g, cap', cur, h, _, hg, _, _, hsz, ht⟩
  · cases h
  · cases h
    rw [hg]
    have e : cur.toList = (madeCells #[z] n).toList := by
      rw [← hx, ← ht, List.take_of_length_le (by simp [hsz])]
    rw [toList_madeCells_one] at e
    rw [← e]

set_option maxHeartbeats 400000 in
theorem clone_any (ao : Option Addr) (l : List Int) (cap : Nat) (w : World) (hl : l.length ≤ 140737488351232)
    (hpos : 0 < l.length → ∃ ad, ao = some ad ∧ ∀ j v, (bs l)[j]? = some v → w.cell? (ad.add j) = some v) :
    Calls Try.prog 49 #[.slice ao l.length cap] w fun e w' => e = .returned (.slice (some ⟨w.heap.size, 0, none⟩) l.length l.length) ∧
      w'.heap[w.heap.size]? = some (.cells (bs l).toArray 5 (0, 0)) ∧ Below w.heap.size w w' := by
  obtain ⟨i0, hi, hz0, hz1, hz2⟩ := info_parts Try.infoU8
  go_enter Try.func49, Try.ntmps49
  go_wp2_with (first | (at_make; refine wpList_make_full _ rfl _ _ 30 rfl w.heap.size 5 i0 (.int .u8 0) 1 Try.underlying30 hi hz0 hz1 .i64 .i64 l.length l.length l.length rfl rfl rfl rfl ?b2 ?b3 ?b4 ?_))
  case b2 => rw [hz2]; omega
  case b3 => unfold maxLen; omega
  case b4 => exact Nat.le_refl _
  intro w1 hown hgrow
  have hH := made_row hown
  have hb : Below w.heap.size w w1 := (Below.refl _ _).grown hgrow (Nat.le_refl _) (fun k h => by cases h)
  clear hown hgrow
  have hcells : Hid (0 < (bs l).length → ∃ ad, ao = some ad ∧ ∀ j v, (bs l)[j]? = some v → w1.cell? (ad.add j) = some v) := by
    intro h0
    obtain ⟨ad, ha, hc⟩ := hpos (by simpa [bs] using h0)
    refine ⟨ad, ha, fun j v hv => ?_⟩
    have h1 := hc j v hv
    rw [hb.cell (World.block_lt_of_cell? w _ h1)]
    exact h1
  go_wp2_with (with_reducible refine wpList_copy_splice rfl _ _ 30 30 rfl 5 Try.underlying30 Try.sizeU8 (some ⟨w.heap.size, 0, none⟩) ao l.length l.length l.length cap rfl rfl w.heap.size 0 (List.replicate l.length (Value.int .u8 0)) 5 hH (bs l) (by simp [bs]) ?hp ?hf ?h1 w.heap.size w hb (Nat.le_refl _) ?_)
  case hp => exact hcells.out
  case hf => simp [bs]
  case h1 => exact bs_one l
  intro w2 HG2 hB2
  go_wp2
  go_ret
  refine ⟨rfl, ?_, hB2⟩
  have := HG2.out
  rw [this]
  simp [splice, bs]

/-- The Writer in block b holds the bytes l, in the row of v. -/
structure Wst (B b : Nat) (w : World) (v : Value) (l : List Int) : Prop where
  blk : w.heap[b]? = some (.cells #[v] 44 (0, 0))
  own : w.ownsRow B 5 1 v l.length (bs l)

/-- Between w and w' nothing has turned but the blocks of S and new ones. -/
structure Kept (S : Nat → Prop) (w w' : World) : Prop where
  os : w'.os = w.os
  tape : w'.tape = w.tape
  output : w'.output = w.output
  size : w.heap.size ≤ w'.heap.size
  block : ∀ k, k < w.heap.size → ¬ S k → w'.heap[k]? = w.heap[k]?


theorem blk_setCell {w : World} {g k t : Nat} {cur : List Value} {u : Value} (h : w.heap[g]? = some (.cells cur.toArray t (0, 0))) :
    (w.setCell ⟨g, k, none⟩ u).heap[g]? = some (.cells (cur.set k u).toArray t (0, 0)) := by
  have hlt := lt_of_block h
  have h' : w.heap[g] = .cells cur.toArray t (0, 0) := by simpa [Array.getElem?_eq_getElem hlt] using h
  show (w.heap.modify g _)[g]? = _
  rw [Array.getElem?_eq_getElem (by simpa using hlt), Array.getElem_modify_self, h']
  simp

/-- What is owned stays owned where the row's block is as it was. -/
theorem own_same {w w' : World} {base e size n : Nat} {v : Value} {xs : List Value} (h : w.ownsRow base e size v n xs) (hs : ∀ k, v.ownBlock = some k → w'.heap[k]? = w.heap[k]?) : w'.ownsRow base e size v n xs := by
  obtain ⟨h1, h2⟩ := h
  refine ⟨h1, ?_⟩
  rcases h2 with h2 | ⟨g, cap, cur, hv, hb, hg, r⟩
  · exact .inl h2
  · exact .inr ⟨g, cap, cur, hv, hb, (hs g (by rw [hv]; rfl)).trans hg, r⟩

theorem Wst.ne {B b : Nat} {w : World} {v : Value} {l : List Int} (h : Wst B b w v l) : v.ownBlock ≠ some b := by
  intro e
  rcases h.own.2 with ⟨h2, _⟩ | ⟨g, cap, cur, hv, _, hg, _⟩
  · rw [h2] at e; cases e
  · rw [hv] at e
    have : g = b := by simpa [Value.ownBlock] using e
    subst this
    rw [h.blk] at hg; cases hg

theorem Kept.below {S : Nat → Prop} {w w' : World} {B : Nat} (h : Kept S w w') (hB : B ≤ w.heap.size) (hS : ∀ k, S k → B ≤ k) : Below B w w' :=
  ⟨h.os, h.tape, h.output, h.size, fun k hk => h.block k (by omega) (fun hs => by have := hS k hs; omega)⟩

theorem mask_or (m : Nat) (h : m < 18446744073709551616) : bits BinOp.or IntKind.u8 (bits BinOp.and IntKind.u64 (m : Int) 127 % 256) 128 = ((m % 128 + 128 : Nat) : Int) := by
  have h1 : bits BinOp.and IntKind.u64 (m : Int) 127 = ((m % 128 : Nat) : Int) := by
    have := u64_and_nat m 127 h (by omega)
    rw [nat_mask7] at this
    exact_mod_cast this
  rw [h1]
  have h2 : ((m % 128 : Nat) : Int) % 256 = ((m % 128 : Nat) : Int) := by omega
  rw [h2]
  have h3 := u8_or_nat (m % 128) 128 (by omega) (by omega)
  rw [show ((128 : Nat) : Int) = 128 from rfl] at h3
  rw [h3]
  have h4 : m % 128 ||| 128 = 128 + m % 128 := by rw [Nat.or_comm]; exact nat_join 7 128 (m % 128) (by decide) (by omega)
  rw [h4, Nat.add_comm]

theorem take_set {cur : List Value} {k : Nat} {xs : List Value} {u : Value} (hl : k < cur.length) (h : cur.take k = xs) : (cur.set k u).take (k + 1) = xs ++ [u] := by
  rw [List.take_add_one, List.take_set_of_le (Nat.le_refl k), h]
  simp [hl]

set_option maxHeartbeats 1000000 in
theorem uint_any (n : Nat) (b B : Nat) (v : Value) (l : List Int) (w : World) (hn : n < 18446744073709551616) (h : Wst B b w v l) (hl : l.length ≤ 140737488300000) (hB : B ≤ w.heap.size) :
    Calls Try.prog 45 #[.pointer (some ⟨b, 0, none⟩), .int .u64 n] w fun e w' => e = .returned (.tuple #[]) ∧
      ∃ v', Wst B b w' v' (l ++ enc n) ∧ Kept (fun k => k = b ∨ v.ownBlock = some k) w w' ∧ (v'.ownBlock = v.ownBlock ∨ ∀ g, v'.ownBlock = some g → w.heap.size ≤ g) := by
  obtain ⟨i0, hi, hz0, hz1, hz2⟩ := info_parts Try.infoU8
  have hbl := lt_of_block h.blk
  have hbH : b ≠ w.heap.size := by omega
  have hel := enc_length_10 n hn
  go_enter Try.func45, Try.ntmps45
  go_wp2
  go_loopw [1, 5] (fun nv kv wr => ∃ k : Nat, k ≤ 9 ∧ kv = .int .i64 k ∧ nv = .int .u64 ((n / 128 ^ k : Nat) : Int) ∧ Hid (∀ j, j < k → 128 ≤ n / 128 ^ j) ∧ Hid (wr.heap.size = w.heap.size + 1) ∧ Below w.heap.size w wr ∧
      ∃ cur : List Value, Hid (cur.length = 10 ∧ cur.take k = bs (encTake k n)) ∧ wr.heap[w.heap.size]? = some (.cells cur.toArray 94 (0, 0)))
    (fun _ i _ => 10 - (intOf i).toNat)
  case atStart =>
    refine ⟨0, by omega, rfl, by simp, fun j hj => by omega, by simp [Hid], (Below.refl _ _).alloc (Nat.le_refl _) _, List.replicate 10 (.int .u8 0), ⟨rfl, rfl⟩, ?_⟩
    rw [heap_alloc_new]; rfl
  case round =>
    obtain ⟨k, hk, rfl, rfl, hge, hsz, hbel, cur, hcur, hblk⟩ := hrel
    have hc0 : wr.cell? ⟨w.heap.size, k, none⟩ = some (cur.getD k (.int .u8 0)) := by
      have := hcur.out.1
      rw [cell_of_row _ _ _ _ _ _ hblk]
      simp [List.getD, show k < cur.length by omega]
    have hf0 : wr.frozen? ⟨w.heap.size, k, none⟩ = false := by simp [World.frozen?, hblk]
    obtain ⟨m, hm⟩ : ∃ m, m = n / 128 ^ k := ⟨_, rfl⟩
    rw [← hm]
    have hmn : m ≤ n := by rw [hm]; exact Nat.div_le_self _ _
    have HM : Hid (m = n / 128 ^ k) := hm
    have HB : Hid (wr.heap[w.heap.size]? = some (.cells cur.toArray 94 (0, 0))) := hblk
    clear hm hblk
    by_cases hlt : m < 128
    · have hd : decide ((127 : Int) < (m : Int)) = false := by simp; omega
      have hX0 : Hid ((wr.setCell ⟨w.heap.size, k, none⟩ (.int .u8 m)).heap[w.heap.size]? = some (.cells (cur.set k (.int .u8 m)).toArray 94 (0, 0))) := blk_setCell HB.out
      have hX1 : Below w.heap.size w (wr.setCell ⟨w.heap.size, k, none⟩ (.int .u8 m)) := hbel.setCell (Nat.le_refl _) _
      have hX2 : Hid ((wr.setCell ⟨w.heap.size, k, none⟩ (.int .u8 m)).heap.size = w.heap.size + 1) := hid_of (by have := hsz.out; show (wr.heap.modify _ _).size = _; rw [Array.size_modify]; exact this)
      go_wp2
      clear hc0 hf0
      generalize wr.setCell ⟨w.heap.size, k, none⟩ (.int .u8 m) = X at *
      have hXs := hX2.out
      have hXv : X.cell? ⟨b, 0, none⟩ = some v := (hX1.cell (p := ⟨b, 0, none⟩) hbl).trans (cell_of_one h.blk)
      have hXf : X.frozen? ⟨b, 0, none⟩ = false := (hX1.frozen (p := ⟨b, 0, none⟩) hbl).trans (free_of_one h.blk)
      have hXo : X.ownsRow B 5 1 v l.length (bs l) := own_same h.own fun k hk => hX1.block k (h.own.lt k hk).2
      have hnew : Hid (bs (enc n) = (cur.set k (.int .u8 m)).take (k + 1)) := hid_of (by
        obtain ⟨c1, c2⟩ := hcur.out
        rw [take_set (by omega) c2, enc_take k n hge.out, ← HM.out, enc_lt hlt]
        simp [bs])
      have hnl : Hid ((enc n).length = k + 1) := hid_of (by
        obtain ⟨c1, c2⟩ := hcur.out
        have := congrArg List.length hnew.out
        simp [bs, c1] at this
        omega)
      have hnw : ∀ j u, (bs (enc n))[j]? = some u → X.drew.cell? ((⟨w.heap.size, 0, none⟩ : Addr).add j) = some u := by
        intro j u hu
        refine World.news_of_block (cs := (cur.set k (.int .u8 m)).toArray) (t := 94) (fr := (0, 0)) hX0.out j u ?_
        rw [hnew.out, List.getElem?_take] at hu
        split at hu
        · simpa using hu
        · cases hu
      have HNW := hid_of hnw
      clear hnw
      have a1 : IntKind.i64.wrap ((k : Int) + 1) = (k : Int) + 1 := IntWalk.i64_in _ (by omega)
      have a2 : (0 : Int) ≤ (k : Int) + 1 := by omega
      have a3 : (k : Int) + 1 ≤ 10 := by omega
      have a4 : ((k : Int) + 1).toNat = k + 1 := by omega
      go_region_law
        ((refine step_append_lies _ (by rfl) _ _ _ (by rfl) B 5 i0 _ 1 1 Try.underlying30 hi hz0 hz1 hz2 rfl (by omega) v l.length (bs l) (by rfl) (hXo.drew)
            ⟨w.heap.size, 0, none⟩ (k + 1) 10 (bs (enc n)) (by rfl) (by rw [bs_length, hnl.out]; omega) HNW.out (bs_one _)
            (by omega) (by unfold maxLen; omega) (by omega) (by simp; omega) (w.heap.size + 1) (by simp; omega) ?_; intro gg cap w1 hown1 hgrow hat hlt; have k0 : w1.cell? ⟨b, 0, none⟩ = some v := (hgrow.cell_far ⟨b, 0, none⟩ (by simp; omega) (Ne.symm h.ne)).trans hXv; have k1 : w1.frozen? ⟨b, 0, none⟩ = false := (hgrow.frozen_far ⟨b, 0, none⟩ (by simp; omega) (Ne.symm h.ne)).trans hXf))
      go_end0
      refine ⟨rfl, .slice (some ⟨gg, 0, none⟩) (l.length + (k + 1)) cap, ⟨one_setCell (v := v) ?_, ?_⟩, ?_, ?_⟩
      · rw [hgrow.block b (by simp; omega) (Ne.symm h.ne)]
        exact (hX1.block b hbl).trans h.blk
      · have e1 : (l ++ enc n).length = l.length + (k + 1) := by rw [List.length_append, hnl.out]
        rw [e1, bs_append]
        refine ownsRow_setCell_other hown1 ?_ _
        intro e
        have e2 : gg = b := by simpa [Value.ownBlock] using e
        rcases hat with hat | hat
        · rw [e2] at hat; exact h.ne hat
        · omega
      · refine ⟨hgrow.os.trans hX1.os, hgrow.tape.trans hX1.tape, hgrow.output.trans hX1.output, ?_, ?_⟩
        · have e1 := hgrow.size
          have e2 : X.drew.heap.size = X.heap.size := rfl
          show w.heap.size ≤ (w1.heap.modify _ _).size
          rw [Array.size_modify]
          omega
        · intro q hq hS
          rw [Below.heap_setCell _ _ _ _ (fun e => hS (Or.inl e)), hgrow.block q (by simp; omega) (fun e => hS (Or.inr e.symm))]
          exact hX1.block q hq
      · rcases hat with hat | hat
        · exact Or.inl hat.symm
        · refine Or.inr fun g hg => ?_
          have : gg = g := by simpa [Value.ownBlock] using hg
          omega
    · have hk8 : k ≤ 8 := by
        have h1 := HM.out
        rcases Nat.lt_or_ge k 9 with h2 | h2
        · omega
        · obtain rfl : k = 9 := by omega
          have h3 : m = n / 9223372036854775808 := h1
          omega
      have hd : decide ((127 : Int) < (m : Int)) = true := by simp; omega
      have hbits := mask_or m (by omega)
      go_wp2
      go_roundw
      case rel =>
        refine ⟨k + 1, by omega, by go_num, ?_, ?_, ?_, hbel.setCell (Nat.le_refl _) _, cur.set k (.int .u8 ((m % 128 + 128 : Nat) : Int)), ?_, blk_setCell HB.out⟩
        · rw [HM.out, Nat.pow_succ, ← Nat.div_div_eq_div_mul]
          go_num
        · refine hid_of fun j hj => ?_
          rcases Nat.lt_or_ge j k with h1 | h1
          · exact hge.out j h1
          · obtain rfl : j = k := by omega
            rw [← HM.out]; omega
        · refine hid_of ?_
          have := hsz.out
          show (wr.heap.modify _ _).size = _
          rw [Array.size_modify]; exact this
        · obtain ⟨c1, c2⟩ := hcur.out
          refine hid_of ⟨by simpa using c1, ?_⟩
          rw [take_set (by omega) c2, encTake_snoc, HM.out]
          simp [bs]
      case measure => simp [intOf]; omega

end Go.Proofs.Ytoogcafceghdjaa.Wr
