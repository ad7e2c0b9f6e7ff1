/- Texts in one: WireMath, WireBase, AppOwn, WireW0, WireWS0, WireR0, JwR, JwD, JnMath, JwW, Row, PrRow, DsRow. -/
import Derived.WalkKit
import Derived.Test.YtofmijebinnejaaRows
import Derived.WalkSpells
import Derived.WalkLawsBesides
import Derived.Laws.CopyOwn
import Derived.Deep.RegionHeld3
import Derived.Deep.AppendLies
import Derived.Deep.RegionLaw
import Derived.IntWalk
import Derived.Laws.BitsAllLaws
import Derived.Deep.AppendSrc
import Derived.Laws.Bits64
import Derived.Deep.QuietTactic
import Derived.BigQuiet
import Derived.Laws.BytesArg
import Derived.Laws.DeepNot64
import Derived.Below
import Derived.BigRegion
import Derived.RegionTactic
import Derived.StillTailTactics
import Derived.Outline
import Derived.Lib.Hide
import Derived.OpenShut
import Derived.Deep.Draws
import Derived.Deep.CutRange
set_option linter.unusedVariables false
set_option linter.unusedSimpArgs false
/- Plain mathematics of the wire encoding: groups of seven bits, the reading of a number, zigzag. No condition. -/
namespace Go.Proofs.Ytofmijebinnejaa.Wr
open Go.RowKit

/-- The encoding of a number without sign. -/
def enc (n : Nat) : List Int := if n < 128 then [(n : Int)] else ((n % 128 + 128 : Nat) : Int) :: enc (n / 128)
termination_by n
decreasing_by omega

theorem enc_lt {n : Nat} (h : n < 128) : enc n = [(n : Int)] := by rw [enc, if_pos h]
theorem enc_ge {n : Nat} (h : ¬ n < 128) : enc n = ((n % 128 + 128 : Nat) : Int) :: enc (n / 128) := by rw [enc, if_neg h]

theorem enc_length_pos (n : Nat) : 0 < (enc n).length := by
  rw [enc]; split <;> simp

theorem enc_length_le : ∀ (k n : Nat), n < 128 ^ (k + 1) → (enc n).length ≤ k + 1 := by
  intro k
  induction k with
  | zero => intro n h; rw [enc_lt (by simpa using h)]; simp
  | succ k ih =>
    intro n h
    by_cases h1 : n < 128
    · rw [enc_lt h1]; simp
    · rw [enc_ge h1]
      have := ih (n / 128) (by rw [Nat.div_lt_iff_lt_mul (by omega)]; rw [Nat.pow_succ] at h; exact h)
      simp; omega

theorem enc_length_10 (n : Nat) (h : n < 18446744073709551616) : (enc n).length ≤ 10 := enc_length_le 9 n (by omega)

theorem enc_bytes : ∀ (k n : Nat), n ≤ k → ∀ x ∈ enc n, 0 ≤ x ∧ x ≤ 255 := by
  intro k
  induction k with
  | zero => intro n h x hx; rw [enc_lt (by omega)] at hx; simp at hx; omega
  | succ k ih =>
    intro n h x hx
    by_cases h1 : n < 128
    · rw [enc_lt h1] at hx; simp at hx; omega
    · rw [enc_ge h1] at hx
      rcases List.mem_cons.1 hx with rfl | hx
      · omega
      · exact ih (n / 128) (by omega) x hx

theorem enc_byte (n : Nat) : ∀ x ∈ enc n, 0 ≤ x ∧ x ≤ 255 := enc_bytes n n (Nat.le_refl _)

/-- What the loop of Uint has written after k rounds, and what is left of the number. -/
def encTake : Nat → Nat → List Int
  | 0, _ => []
  | k + 1, n => ((n % 128 + 128 : Nat) : Int) :: encTake k (n / 128)
theorem encTake_length : ∀ k n, (encTake k n).length = k := by
  intro k; induction k with
  | zero => intro n; rfl
  | succ k ih => intro n; simp [encTake, ih]
theorem encTake_snoc : ∀ k n, encTake (k + 1) n = encTake k n ++ [((n / 128 ^ k % 128 + 128 : Nat) : Int)] := by
  intro k; induction k with
  | zero => intro n; simp [encTake]
  | succ k ih =>
    intro n
    rw [encTake, ih (n / 128)]
    simp only [encTake, List.cons_append]
    rw [Nat.div_div_eq_div_mul, Nat.pow_succ, Nat.mul_comm]

/-- While every rest so far was 128 or more: the encoding is what was written, and that of the rest. -/
theorem enc_take : ∀ k n, (∀ j, j < k → 128 ≤ n / 128 ^ j) → enc n = encTake k n ++ enc (n / 128 ^ k) := by
  intro k; induction k with
  | zero => intro n _; simp [encTake]
  | succ k ih =>
    intro n h
    have h0 := h 0 (by omega)
    rw [enc_ge (by simpa using h0), encTake, ih (n / 128)]
    · simp only [List.cons_append]
      rw [Nat.div_div_eq_div_mul, Nat.pow_succ, Nat.mul_comm]
    · intro j hj
      have := h (j + 1) (by omega)
      rw [Nat.pow_succ, Nat.mul_comm, ← Nat.div_div_eq_div_mul] at this
      exact this

end Go.Proofs.Ytofmijebinnejaa.Wr

/- The contracts of clone and of the Writer of package wire: what each call does to the world. No condition but bounds on sizes. -/
namespace Go.Proofs.Ytofmijebinnejaa.Wr
open Go.RowKit

theorem Try.infoU8 : (Try.prog.info? 5).map (fun i => (i.zero, i.size, i.bytes)) = some (some (.int .u8 0), 1, 1) := by kernel_rfl
theorem Try.sizeU8 : (Try.prog.info? 5).map (·.size) = some 1 := by kernel_rfl

/-- The cells of a list of bytes. -/
def bs (l : List Int) : List Value := l.map (Value.int .u8)
theorem bs_length (l : List Int) : (bs l).length = l.length := by simp [bs]
theorem bs_one (l : List Int) : ∀ v ∈ bs l, v.oneCell' = true := by
  intro v hv; simp [bs] at hv; obtain ⟨x, _, rfl⟩ := hv; rfl
theorem bs_append (a b : List Int) : bs (a ++ b) = bs a ++ bs b := by simp [bs]

theorem hid_of {p : Prop} (h : p) : Hid p := h

/-- What make has laid, as a whole block. -/
theorem made_row {w : World} {B g e n : Nat} {z : Value} {xs : List Value} (h : w.ownsRow B e 1 (.slice (some ⟨g, 0, none⟩) n n) n xs) (hx : xs = (madeCells #[z] n).toList := by (first | rfl | simp)) :
    w.heap[g]? = some (.cells (List.replicate n z).toArray e (0, 0)) := by
  obtain ⟨hn0, hn1⟩ := h
  rcases hn1 with ⟨h, _⟩ | ⟨g, cap', cur, h, _, hg, _, _, hsz, ht⟩
  · cases h
  · cases h
    rw [hg]
    have e : cur.toList = (madeCells #[z] n).toList := by
      rw [← hx, ← ht, List.take_of_length_le (by simp [hsz])]
    rw [toList_madeCells_one] at e
    rw [← e]

set_option maxHeartbeats 400000 in
theorem clone_any (ao : Option Addr) (l : List Int) (cap : Nat) (w : World) (hl : l.length ≤ 140737488351232)
    (hpos : 0 < l.length → ∃ ad, ao = some ad ∧ ∀ j v, (bs l)[j]? = some v → w.cell? (ad.add j) = some v) :
    Calls Try.prog 79 #[.slice ao l.length cap] w fun e w' => e = .returned (.slice (some ⟨w.heap.size, 0, none⟩) l.length l.length) ∧
      w'.heap[w.heap.size]? = some (.cells (bs l).toArray 5 (0, 0)) ∧ Below w.heap.size w w' := by
  obtain ⟨i0, hi, hz0, hz1, hz2⟩ := info_parts Try.infoU8
  go_enter Try.func79, Try.ntmps79
  go_wp2_with (first | (at_make; refine wpList_make_full _ rfl _ _ 46 rfl w.heap.size 5 i0 (.int .u8 0) 1 Try.underlying46 hi hz0 hz1 .i64 .i64 l.length l.length l.length rfl rfl rfl rfl ?b2 ?b3 ?b4 ?_))
  case b2 => rw [hz2]; omega
  case b3 => unfold maxLen; omega
  case b4 => exact Nat.le_refl _
  intro w1 hown hgrow
  have hH := made_row hown
  have hb : Below w.heap.size w w1 := (Below.refl _ _).grown hgrow (Nat.le_refl _) (fun k h => by cases h)
  clear hown hgrow
  have hcells : Hid (0 < (bs l).length → ∃ ad, ao = some ad ∧ ∀ j v, (bs l)[j]? = some v → w1.cell? (ad.add j) = some v) := by
    intro h0
    obtain ⟨ad, ha, hc⟩ := hpos (by simpa [bs] using h0)
    refine ⟨ad, ha, fun j v hv => ?_⟩
    have h1 := hc j v hv
    rw [hb.cell (World.block_lt_of_cell? w _ h1)]
    exact h1
  go_wp2_with (with_reducible refine wpList_copy_splice rfl _ _ 46 46 rfl 5 Try.underlying46 Try.sizeU8 (some ⟨w.heap.size, 0, none⟩) ao l.length l.length l.length cap rfl rfl w.heap.size 0 (List.replicate l.length (Value.int .u8 0)) 5 hH (bs l) (by simp [bs]) ?hp ?hf ?h1 w.heap.size w hb (Nat.le_refl _) ?_)
  case hp => exact hcells.out
  case hf => simp [bs]
  case h1 => exact bs_one l
  intro w2 HG2 hB2
  go_wp2
  go_ret
  refine ⟨rfl, ?_, hB2⟩
  have := HG2.out
  rw [this]
  simp [splice, bs]

/-- The Writer in block b holds the bytes l, in the row of v. -/
structure Wst (B b : Nat) (w : World) (v : Value) (l : List Int) : Prop where
  blk : w.heap[b]? = some (.cells #[v] 102 (0, 0))
  own : w.ownsRow B 5 1 v l.length (bs l)

/-- Between w and w' nothing has turned but the blocks of S and new ones. -/
structure Kept (S : Nat → Prop) (w w' : World) : Prop where
  os : w'.os = w.os
  tape : w'.tape = w.tape
  output : w'.output = w.output
  size : w.heap.size ≤ w'.heap.size
  block : ∀ k, k < w.heap.size → ¬ S k → w'.heap[k]? = w.heap[k]?


theorem blk_setCell {w : World} {g k t : Nat} {cur : List Value} {u : Value} (h : w.heap[g]? = some (.cells cur.toArray t (0, 0))) :
    (w.setCell ⟨g, k, none⟩ u).heap[g]? = some (.cells (cur.set k u).toArray t (0, 0)) := by
  have hlt := lt_of_block h
  have h' : w.heap[g] = .cells cur.toArray t (0, 0) := by simpa [Array.getElem?_eq_getElem hlt] using h
  show (w.heap.modify g _)[g]? = _
  rw [Array.getElem?_eq_getElem (by simpa using hlt), Array.getElem_modify_self, h']
  simp

/-- What is owned stays owned where the row's block is as it was. -/
theorem own_same {w w' : World} {base e size n : Nat} {v : Value} {xs : List Value} (h : w.ownsRow base e size v n xs) (hs : ∀ k, v.ownBlock = some k → w'.heap[k]? = w.heap[k]?) : w'.ownsRow base e size v n xs := by
  obtain ⟨h1, h2⟩ := h
  refine ⟨h1, ?_⟩
  rcases h2 with h2 | ⟨g, cap, cur, hv, hb, hg, r⟩
  · exact .inl h2
  · exact .inr ⟨g, cap, cur, hv, hb, (hs g (by rw [hv]; rfl)).trans hg, r⟩

theorem Wst.ne {B b : Nat} {w : World} {v : Value} {l : List Int} (h : Wst B b w v l) : v.ownBlock ≠ some b := by
  intro e
  rcases h.own.2 with ⟨h2, _⟩ | ⟨g, cap, cur, hv, _, hg, _⟩
  · rw [h2] at e; cases e
  · rw [hv] at e
    have : g = b := by simpa [Value.ownBlock] using e
    subst this
    rw [h.blk] at hg; cases hg

theorem Kept.below {S : Nat → Prop} {w w' : World} {B : Nat} (h : Kept S w w') (hB : B ≤ w.heap.size) (hS : ∀ k, S k → B ≤ k) : Below B w w' :=
  ⟨h.os, h.tape, h.output, h.size, fun k hk => h.block k (by omega) (fun hs => by have := hS k hs; omega)⟩

theorem mask_or (m : Nat) (h : m < 18446744073709551616) : bits BinOp.or IntKind.u8 (bits BinOp.and IntKind.u64 (m : Int) 127 % 256) 128 = ((m % 128 + 128 : Nat) : Int) := by
  have h1 : bits BinOp.and IntKind.u64 (m : Int) 127 = ((m % 128 : Nat) : Int) := by
    have := u64_and_nat m 127 h (by omega)
    rw [nat_mask7] at this
    exact_mod_cast this
  rw [h1]
  have h2 : ((m % 128 : Nat) : Int) % 256 = ((m % 128 : Nat) : Int) := by omega
  rw [h2]
  have h3 := u8_or_nat (m % 128) 128 (by omega) (by omega)
  rw [show ((128 : Nat) : Int) = 128 from rfl] at h3
  rw [h3]
  have h4 : m % 128 ||| 128 = 128 + m % 128 := by rw [Nat.or_comm]; exact nat_join 7 128 (m % 128) (by decide) (by omega)
  rw [h4, Nat.add_comm]

theorem take_set {cur : List Value} {k : Nat} {xs : List Value} {u : Value} (hl : k < cur.length) (h : cur.take k = xs) : (cur.set k u).take (k + 1) = xs ++ [u] := by
  rw [List.take_add_one, List.take_set_of_le (Nat.le_refl k), h]
  simp [hl]

set_option maxHeartbeats 1000000 in
theorem uint_any (n : Nat) (b B : Nat) (v : Value) (l : List Int) (w : World) (hn : n < 18446744073709551616) (h : Wst B b w v l) (hl : l.length ≤ 140737488300000) (hB : B ≤ w.heap.size) :
    Calls Try.prog 66 #[.pointer (some ⟨b, 0, none⟩), .int .u64 n] w fun e w' => e = .returned (.tuple #[]) ∧
      ∃ v', Wst B b w' v' (l ++ enc n) ∧ Kept (fun k => k = b ∨ v.ownBlock = some k) w w' ∧ (v'.ownBlock = v.ownBlock ∨ ∀ g, v'.ownBlock = some g → w.heap.size ≤ g) := by
  obtain ⟨i0, hi, hz0, hz1, hz2⟩ := info_parts Try.infoU8
  have hbl := lt_of_block h.blk
  have hbH : b ≠ w.heap.size := by omega
  have hel := enc_length_10 n hn
  go_enter Try.func66, Try.ntmps66
  go_wp2
  go_loopw [1, 5] (fun nv kv wr => ∃ k : Nat, k ≤ 9 ∧ kv = .int .i64 k ∧ nv = .int .u64 ((n / 128 ^ k : Nat) : Int) ∧ Hid (∀ j, j < k → 128 ≤ n / 128 ^ j) ∧ Hid (wr.heap.size = w.heap.size + 1) ∧ Below w.heap.size w wr ∧
      ∃ cur : List Value, Hid (cur.length = 10 ∧ cur.take k = bs (encTake k n)) ∧ wr.heap[w.heap.size]? = some (.cells cur.toArray 115 (0, 0)))
    (fun _ i _ => 10 - (intOf i).toNat)
  case atStart =>
    refine ⟨0, by omega, rfl, by simp, fun j hj => by omega, by simp [Hid], (Below.refl _ _).alloc (Nat.le_refl _) _, List.replicate 10 (.int .u8 0), ⟨rfl, rfl⟩, ?_⟩
    rw [heap_alloc_new]; rfl
  case round =>
    obtain ⟨k, hk, rfl, rfl, hge, hsz, hbel, cur, hcur, hblk⟩ := hrel
    have hc0 : wr.cell? ⟨w.heap.size, k, none⟩ = some (cur.getD k (.int .u8 0)) := by
      have := hcur.out.1
      rw [cell_of_row _ _ _ _ _ _ hblk]
      simp [List.getD, show k < cur.length by omega]
    have hf0 : wr.frozen? ⟨w.heap.size, k, none⟩ = false := by simp [World.frozen?, hblk]
    obtain ⟨m, hm⟩ : ∃ m, m = n / 128 ^ k := ⟨_, rfl⟩
    rw [← hm]
    have hmn : m ≤ n := by rw [hm]; exact Nat.div_le_self _ _
    have HM : Hid (m = n / 128 ^ k) := hm
    have HB : Hid (wr.heap[w.heap.size]? = some (.cells cur.toArray 115 (0, 0))) := hblk
    clear hm hblk
    by_cases hlt : m < 128
    · have hd : decide ((127 : Int) < (m : Int)) = false := by simp; omega
      have hX0 : Hid ((wr.setCell ⟨w.heap.size, k, none⟩ (.int .u8 m)).heap[w.heap.size]? = some (.cells (cur.set k (.int .u8 m)).toArray 115 (0, 0))) := blk_setCell HB.out
      have hX1 : Below w.heap.size w (wr.setCell ⟨w.heap.size, k, none⟩ (.int .u8 m)) := hbel.setCell (Nat.le_refl _) _
      have hX2 : Hid ((wr.setCell ⟨w.heap.size, k, none⟩ (.int .u8 m)).heap.size = w.heap.size + 1) := hid_of (by have := hsz.out; show (wr.heap.modify _ _).size = _; rw [Array.size_modify]; exact this)
      go_wp2
      clear hc0 hf0
      generalize wr.setCell ⟨w.heap.size, k, none⟩ (.int .u8 m) = X at *
      have hXs := hX2.out
      have hXv : X.cell? ⟨b, 0, none⟩ = some v := (hX1.cell (p := ⟨b, 0, none⟩) hbl).trans (cell_of_one h.blk)
      have hXf : X.frozen? ⟨b, 0, none⟩ = false := (hX1.frozen (p := ⟨b, 0, none⟩) hbl).trans (free_of_one h.blk)
      have hXo : X.ownsRow B 5 1 v l.length (bs l) := own_same h.own fun k hk => hX1.block k (h.own.lt k hk).2
      have hnew : Hid (bs (enc n) = (cur.set k (.int .u8 m)).take (k + 1)) := hid_of (by
        obtain ⟨c1, c2⟩ := hcur.out
        rw [take_set (by omega) c2, enc_take k n hge.out, ← HM.out, enc_lt hlt]
        simp [bs])
      have hnl : Hid ((enc n).length = k + 1) := hid_of (by
        obtain ⟨c1, c2⟩ := hcur.out
        have := congrArg List.length hnew.out
        simp [bs, c1] at this
        omega)
      have hnw : ∀ j u, (bs (enc n))[j]? = some u → X.drew.cell? ((⟨w.heap.size, 0, none⟩ : Addr).add j) = some u := by
        intro j u hu
        refine World.news_of_block (cs := (cur.set k (.int .u8 m)).toArray) (t := 115) (fr := (0, 0)) hX0.out j u ?_
        rw [hnew.out, List.getElem?_take] at hu
        split at hu
        · simpa using hu
        · cases hu
      have HNW := hid_of hnw
      clear hnw
      have a1 : IntKind.i64.wrap ((k : Int) + 1) = (k : Int) + 1 := IntWalk.i64_in _ (by omega)
      have a2 : (0 : Int) ≤ (k : Int) + 1 := by omega
      have a3 : (k : Int) + 1 ≤ 10 := by omega
      have a4 : ((k : Int) + 1).toNat = k + 1 := by omega
      go_region_law
        ((refine step_append_lies _ (by rfl) _ _ _ (by rfl) B 5 i0 _ 1 1 Try.underlying46 hi hz0 hz1 hz2 rfl (by omega) v l.length (bs l) (by rfl) (hXo.drew)
            ⟨w.heap.size, 0, none⟩ (k + 1) 10 (bs (enc n)) (by rfl) (by rw [bs_length, hnl.out]; omega) HNW.out (bs_one _)
            (by omega) (by unfold maxLen; omega) (by omega) (by simp; omega) (w.heap.size + 1) (by simp; omega) ?_; intro gg cap w1 hown1 hgrow hat hlt; have k0 : w1.cell? ⟨b, 0, none⟩ = some v := (hgrow.cell_far ⟨b, 0, none⟩ (by simp; omega) (Ne.symm h.ne)).trans hXv; have k1 : w1.frozen? ⟨b, 0, none⟩ = false := (hgrow.frozen_far ⟨b, 0, none⟩ (by simp; omega) (Ne.symm h.ne)).trans hXf))
      go_end0
      refine ⟨rfl, .slice (some ⟨gg, 0, none⟩) (l.length + (k + 1)) cap, ⟨one_setCell (v := v) ?_, ?_⟩, ?_, ?_⟩
      · rw [hgrow.block b (by simp; omega) (Ne.symm h.ne)]
        exact (hX1.block b hbl).trans h.blk
      · have e1 : (l ++ enc n).length = l.length + (k + 1) := by rw [List.length_append, hnl.out]
        rw [e1, bs_append]
        refine ownsRow_setCell_other hown1 ?_ _
        intro e
        have e2 : gg = b := by simpa [Value.ownBlock] using e
        rcases hat with hat | hat
        · rw [e2] at hat; exact h.ne hat
        · omega
      · refine ⟨hgrow.os.trans hX1.os, hgrow.tape.trans hX1.tape, hgrow.output.trans hX1.output, ?_, ?_⟩
        · have e1 := hgrow.size
          have e2 : X.drew.heap.size = X.heap.size := rfl
          show w.heap.size ≤ (w1.heap.modify _ _).size
          rw [Array.size_modify]
          omega
        · intro q hq hS
          rw [Below.heap_setCell _ _ _ _ (fun e => hS (Or.inl e)), hgrow.block q (by simp; omega) (fun e => hS (Or.inr e.symm))]
          exact hX1.block q hq
      · rcases hat with hat | hat
        · exact Or.inl hat.symm
        · refine Or.inr fun g hg => ?_
          have : gg = g := by simpa [Value.ownBlock] using hg
          omega
    · have hk8 : k ≤ 8 := by
        have h1 := HM.out
        rcases Nat.lt_or_ge k 9 with h2 | h2
        · omega
        · obtain rfl : k = 9 := by omega
          have h3 : m = n / 9223372036854775808 := h1
          omega
      have hd : decide ((127 : Int) < (m : Int)) = true := by simp; omega
      have hbits := mask_or m (by omega)
      go_wp2
      go_roundw
      case rel =>
        refine ⟨k + 1, by omega, by go_num, ?_, ?_, ?_, hbel.setCell (Nat.le_refl _) _, cur.set k (.int .u8 ((m % 128 + 128 : Nat) : Int)), ?_, blk_setCell HB.out⟩
        · rw [HM.out, Nat.pow_succ, ← Nat.div_div_eq_div_mul]
          go_num
        · refine hid_of fun j hj => ?_
          rcases Nat.lt_or_ge j k with h1 | h1
          · exact hge.out j h1
          · obtain rfl : j = k := by omega
            rw [← HM.out]; omega
        · refine hid_of ?_
          have := hsz.out
          show (wr.heap.modify _ _).size = _
          rw [Array.size_modify]; exact this
        · obtain ⟨c1, c2⟩ := hcur.out
          refine hid_of ⟨by simpa using c1, ?_⟩
          rw [take_set (by omega) c2, encTake_snoc, HM.out]
          simp [bs]
      case measure => simp [intOf]; omega

end Go.Proofs.Ytofmijebinnejaa.Wr

/- append of whatever source (a slice, a nil slice, a string) onto a slice that the call owns: the law for the walk. It asks that the sizes fit. -/
namespace Go.Proofs.Ytofmijebinnejaa

section
variable {P : Program} (w : World)

theorem run_append_src_own (base : Nat) (t tx ty e : TypeId) (i : TypeInfo) (z : Value) (size bytes : Nat) (ht : P.underlying t = some (.slice e)) (hi : P.info? e = some i) (hz : i.zero = some z)
    (hsize : i.size = size) (hby : i.bytes = bytes) (hzs : z.cells.size = size) (hsz : 0 < size)
    (v : Value) (n : Nat) (xs : List Value) (hown : w.ownsRow base e size v n xs) (x : Value) (m : Nat) (news : List Value) (hs : Src P size tx x m news w)
    (h63 : n + m ≤ maxLen) (hbytes : (n + m) * bytes ≤ 140737488355328) (hbase : base ≤ w.heap.size) :
    ∃ v' w', (Builtin.append_ #[t, tx] ty #[v, x]).run P w = .ok v' w' ∧ w'.ownsRow base e size v' (n + m) (xs ++ news) ∧ w.grownBy w' v.ownBlock ∧
      (v' = .slice none 0 0 ↔ v = .slice none 0 0 ∧ m = 0) ∧ (v'.ownBlock = v.ownBlock ∨ v'.ownBlock = some w.heap.size) := by
  subst hsize
  subst hby
  have hl := hs.newsLen
  have hsmall : n + m ≤ 9223372036854775807 := by simp only [maxLen] at h63; omega
  have hlen : (xs ++ news).length = (n + m) * i.size := by rw [List.length_append, hown.1, hl, Nat.add_mul]
  have grown : ∀ (old : Nat), old < n + m → ∀ (row : Option Nat),
      (w.drew.alloc (.cells ((xs ++ news).toArray ++ Builtin.zeroCells z.cells (grownCap w (n + m) old e - (n + m))) e)).ownsRow base e i.size
        (.slice (some ⟨w.heap.size, 0, none⟩) (n + m) (grownCap w (n + m) old e)) (n + m) (xs ++ news) ∧
      w.grownBy (w.drew.alloc (.cells ((xs ++ news).toArray ++ Builtin.zeroCells z.cells (grownCap w (n + m) old e - (n + m))) e)) row := by
    intro old ho row
    have hge := grownCap_ge w (n + m) old e
    have hcm : grownCap w (n + m) old e ≤ maxLen := grownCap_le_maxLen w (n + m) old e h63
    refine ⟨⟨hlen, .inr ⟨w.heap.size, _, _, rfl, hbase, heap_alloc_new w.drew _, hge, hcm, ?_, ?_⟩⟩, ⟨rfl, rfl, rfl, by simp, fun k hk _ => Go.RowKit.Below.heap_alloc w.drew _ k hk⟩⟩
    · rw [Array.size_append, List.size_toArray, size_zeroCells, hzs, hlen, ← Nat.add_mul]
      congr 1
      omega
    · rw [Array.toList_append, ← hlen]
      exact List.take_left
  rcases hown.2 with ⟨rfl, rfl⟩ | ⟨g, cap, cur, rfl, hbg, hg, hnc, hcm, hcs, htake⟩
  · have hx : xs = [] := List.eq_nil_of_length_eq_zero (by simpa using hown.1)
    subst hx
    by_cases hm : m = 0
    · subst hm
      have hn : news = [] := List.eq_nil_of_length_eq_zero (by simpa using hl)
      subst hn
      refine ⟨.slice none 0 0, w, ?_, World.ownsRow_nil w base e i.size, ⟨rfl, rfl, rfl, Nat.le_refl _, fun _ _ _ => rfl⟩, by simp, Or.inl rfl⟩
      rcases hs.kind with ⟨e', hk⟩ | hk <;> simp [Builtin.append_, run_underlying ht, run_underlying hk, sizeOf, typeInfo, hi, hs.len, hs.cells]
    · have hr := run_append_grow_src (P := P) w t tx ty e i z ht hi hz none 0 0 [] (by simp [Builtin.firstCells]) x m news hs (by omega) (by omega) (growslice_fits (by omega) hbytes)
      have hgr := grown 0 (by omega) (Value.ownBlock (.slice none 0 0))
      exact ⟨_, _, hr, hgr.1, hgr.2, by simp [hm], Or.inr rfl⟩
  · by_cases hroom : n + m ≤ cap
    · have hfit : n * i.size + news.length ≤ cur.size := by rw [hl, hcs, ← Nat.add_mul]; exact Nat.mul_le_mul_right _ hroom
      have hst := run_storeCells_at P g (n * i.size) e news 0 cur w hg (by simpa using hfit) hs.one
      simp only [Nat.add_zero] at hst
      have hr : (Builtin.append_ #[t, tx] ty #[.slice (some ⟨g, 0, none⟩) n cap, x]).run P w =
          .ok (.slice (some ⟨g, 0, none⟩) (n + m) cap) (w.setRow g (cur.toList.take (n * i.size) ++ news ++ cur.toList.drop (n * i.size + news.length)).toArray) := by
        rcases hs.kind with ⟨e', hk⟩ | hk <;> simp [Builtin.append_, run_underlying ht, run_underlying hk, sizeOf, typeInfo, hi, hs.len, hroom, hs.cells, Addr.add_lit, hst]
      refine ⟨_, _, hr, ⟨hlen, .inr ⟨g, cap, _, rfl, hbg, setRow_heap w g cur _ e _ hg, hroom, hcm, ?_, ?_⟩⟩, ⟨rfl, rfl, rfl, by simp, fun k _ hk => setRow_other w g k _ (fun e => hk (by simp [Value.ownBlock, e]))⟩, by simp, Or.inl rfl⟩
      · simp only [List.size_toArray, List.length_append, List.length_take, List.length_drop, Array.length_toList]
        omega
      · rw [htake, ← hlen]
        exact List.take_left
    · have holds : ∀ j u, xs[j]? = some u → w.drew.cell? ((⟨g, 0, none⟩ : Addr).add j) = some u := by simpa using hown.cells (g := g) rfl
      have hr := run_append_grow_src (P := P) w t tx ty e i z ht hi hz (some ⟨g, 0, none⟩) n cap xs (run_firstCells_some w.drew i.size n ⟨g, 0, none⟩ n cap xs hown.1 holds) x m news hs (by omega) (by omega) (growslice_fits (by omega) hbytes)
      have hgr := grown cap (by omega) (Value.ownBlock (.slice (some ⟨g, 0, none⟩) n cap))
      exact ⟨_, _, hr, hgr.1, hgr.2, by simp, Or.inr rfl⟩

theorem wp_append_src {o : Oper} {a : Act} {K : Act → World → Prop} {Q : Exit → Act → World → Prop} (s x : Operand) (t tx : TypeId)
    (ho : o.op = .call { callee := .builtin .append, args := #[s, x], argTypes := #[t, tx] })
    (base : Nat) (e : TypeId) (i : TypeInfo) (z : Value) (size bytes : Nat) (ht : P.underlying t = some (.slice e)) (hi : P.info? e = some i) (hz : i.zero = some z)
    (hsize : i.size = size) (hby : i.bytes = bytes) (hzs : z.cells.size = size) (hsz : 0 < size)
    (v : Value) (n : Nat) (xs : List Value) (he : a.eval s = v) (hown : w.ownsRow base e size v n xs) (y : Value) (m : Nat) (news : List Value) (hx : a.eval x = y) (hs : Src P size tx y m news w)
    (h63 : n + m ≤ maxLen) (hbytes : (n + m) * bytes ≤ 140737488355328) (hbase : base ≤ w.heap.size)
    (h : ∀ v' w', w'.ownsRow base e size v' (n + m) (xs ++ news) → w.grownBy w' v.ownBlock → (v' = .slice none 0 0 ↔ v = .slice none 0 0 ∧ m = 0) → (v'.ownBlock = v.ownBlock ∨ v'.ownBlock = some w.heap.size) → K (a.put o.dst v') w') :
    Oper.wp P o a w K Q := by
  obtain ⟨v', w', hr, h2, h3, h4, h5⟩ := run_append_src_own (P := P) w base t tx o.type e i z size bytes ht hi hz hsize hby hzs hsz v n xs hown y m news hs h63 hbytes hbase
  unfold Oper.wp execOp
  simp only [ho, resolve, invoke, builtin, Sem.run_bind, Sem.run_pure, Result.andThen_ok, List.map_toArray, List.map_cons, List.map_nil, he, hx, hr]
  exact h v' w' h2 h3 h4 h5

theorem wpList_append_src {ops : Array Oper} {rest : List Oper} {o : Oper} {a : Act} {Q : Exit → Act → World → Prop} (hgd : o.guard = none) (s x : Operand) (t tx : TypeId)
    (ho : o.op = .call { callee := .builtin .append, args := #[s, x], argTypes := #[t, tx] })
    (base : Nat) (e : TypeId) (i : TypeInfo) (z : Value) (size bytes : Nat) (ht : P.underlying t = some (.slice e)) (hi : P.info? e = some i) (hz : i.zero = some z)
    (hsize : i.size = size) (hby : i.bytes = bytes) (hzs : z.cells.size = size) (hsz : 0 < size)
    (v : Value) (n : Nat) (xs : List Value) (he : a.eval s = v) (hown : w.ownsRow base e size v n xs) (y : Value) (m : Nat) (news : List Value) (hx : a.eval x = y) (hs : Src P size tx y m news w)
    (h63 : n + m ≤ maxLen) (hbytes : (n + m) * bytes ≤ 140737488355328) (hbase : base ≤ w.heap.size)
    (h : ∀ v' w', w'.ownsRow base e size v' (n + m) (xs ++ news) → w.grownBy w' v.ownBlock → (v' = .slice none 0 0 ↔ v = .slice none 0 0 ∧ m = 0) → (v'.ownBlock = v.ownBlock ∨ v'.ownBlock = some w.heap.size) → wpList P ops Q rest (a.put o.dst v') w') :
    wpList P ops Q (o :: rest) a w :=
  wpList_plain hgd fun _ hK => wp_append_src w s x t tx ho base e i z size bytes ht hi hz hsize hby hzs hsz v n xs he hown y m news hx hs h63 hbytes hbase fun v' w' h2 h3 h4 h5 => hK _ _ (h v' w' h2 h3 h4 h5)

theorem step_append_src {ops : Array Oper} {o : Oper} {a : Act} {K : Act → World → Prop} {Q : Exit → Act → World → Prop} {E : Prop} (hgd : o.guard = none) (s x : Operand) (t tx : TypeId)
    (ho : o.op = .call { callee := .builtin .append, args := #[s, x], argTypes := #[t, tx] })
    (base : Nat) (e : TypeId) (i : TypeInfo) (z : Value) (size bytes : Nat) (ht : P.underlying t = some (.slice e)) (hi : P.info? e = some i) (hz : i.zero = some z)
    (hsize : i.size = size) (hby : i.bytes = bytes) (hzs : z.cells.size = size) (hsz : 0 < size)
    (v : Value) (n : Nat) (xs : List Value) (he : a.eval s = v) (hown : w.ownsRow base e size v n xs) (y : Value) (m : Nat) (news : List Value) (hx : a.eval x = y) (hs : Src P size tx y m news w)
    (h63 : n + m ≤ maxLen) (hbytes : (n + m) * bytes ≤ 140737488355328) (hbase : base ≤ w.heap.size)
    (h : ∀ v' w', w'.ownsRow base e size v' (n + m) (xs ++ news) → w.grownBy w' v.ownBlock → (v' = .slice none 0 0 ↔ v = .slice none 0 0 ∧ m = 0) → (v'.ownBlock = v.ownBlock ∨ v'.ownBlock = some w.heap.size) → K (a.put o.dst v') w') :
    if Region.wanted o (yielded ops a.tmps) = true then Oper.wp P o a w K Q else E := by
  have hw : Region.wanted o (yielded ops a.tmps) = true := by simp [Region.wanted, hgd]
  rw [if_pos hw]
  exact wp_append_src w s x t tx ho base e i z size bytes ht hi hz hsize hby hzs hsz v n xs he hown y m news hx hs h63 hbytes hbase h

end
end Go.Proofs.Ytofmijebinnejaa

/- The contracts of the Writer's other methods. No condition but bounds on sizes. -/
namespace Go.Proofs.Ytofmijebinnejaa.Wr
open Go.RowKit

theorem own_shape {w : World} {base e size n : Nat} {v : Value} {xs : List Value} (h : w.ownsRow base e size v n xs) : ∃ ao cap, v = .slice ao n cap := by
  rcases h.2 with ⟨h1, h2⟩ | ⟨g, cap, cur, h1, _⟩
  · exact ⟨none, 0, by rw [h1, h2]⟩
  · exact ⟨_, cap, h1⟩

/-- What is owned, as cells behind its address. -/
theorem own_src {w : World} {base e n cap : Nat} {ao : Option Addr} {xs : List Value} (h : w.ownsRow base e 1 (.slice ao n cap) n xs) : 0 < n → ∃ ad, ao = some ad ∧ ∀ j u, xs[j]? = some u → w.cell? (ad.add j) = some u := by
  intro h0
  rcases h.2 with ⟨h1, h2⟩ | ⟨g, cap', cur, h1, _⟩
  · omega
  · cases h1
    exact ⟨_, rfl, h.cells rfl⟩

theorem Wst.alloc {B b : Nat} {w : World} {v : Value} {l : List Int} (h : Wst B b w v l) (o : Obj) : Wst B b (w.alloc o) v l :=
  ⟨by rw [Below.heap_alloc _ _ _ (lt_of_block h.blk)]; exact h.blk, h.own.alloc o⟩

/-- What the last store of a Writer's method leaves. -/
theorem wst_store {B b n2 : Nat} {w1 w2 : World} {v1 v2 : Value} {l1 l2 : List Int} (h : Wst B b w1 v1 l1) (hown : w2.ownsRow B 5 1 v2 n2 (bs l2)) (hn : n2 = l2.length) (hg : w1.grownBy w2 v1.ownBlock)
    (hat : v2.ownBlock = v1.ownBlock ∨ v2.ownBlock = some w1.heap.size) :
    Wst B b (w2.setCell ⟨b, 0, none⟩ v2) v2 l2 ∧ Kept (fun k => k = b ∨ v1.ownBlock = some k) w1 (w2.setCell ⟨b, 0, none⟩ v2) ∧ (v2.ownBlock = v1.ownBlock ∨ ∀ g, v2.ownBlock = some g → w1.heap.size ≤ g) := by
  subst hn
  have hbl := lt_of_block h.blk
  have hblk2 : w2.heap[b]? = some (.cells #[v1] 102 (0, 0)) := (hg.block b hbl (Ne.symm h.ne)).trans h.blk
  refine ⟨⟨one_setCell (v := v1) hblk2, ownsRow_setCell_other hown ?_ _⟩, ⟨hg.os, hg.tape, hg.output, ?_, ?_⟩, ?_⟩
  · intro e
    rcases hat with hat | hat
    · rw [hat] at e; exact h.ne e
    · rw [hat] at e
      have : w1.heap.size = b := by simpa using e
      omega
  · show w1.heap.size ≤ (w2.heap.modify _ _).size
    rw [Array.size_modify]; exact hg.size
  · intro q hq hS
    rw [Below.heap_setCell _ _ _ _ (fun e => hS (Or.inl e)), hg.block q hq (fun e => hS (Or.inr e.symm))]
  · rcases hat with hat | hat
    · exact Or.inl hat
    · refine Or.inr fun g hgg => ?_
      rw [hat] at hgg
      have : w1.heap.size = g := by simpa using hgg
      omega

theorem Kept.trans {S T : Nat → Prop} {a b c : World} (h : Kept S a b) (k : Kept T b c) (hST : ∀ q, q < a.heap.size → T q → S q) : Kept S a c :=
  ⟨k.os.trans h.os, k.tape.trans h.tape, k.output.trans h.output, Nat.le_trans h.size k.size, fun q hq hS => (k.block q (by have := h.size; omega) (fun ht => hS (hST q hq ht))).trans (h.block q hq hS)⟩
theorem Kept.of_alloc {S : Nat → Prop} {a c : World} {o : Obj} (k : Kept S (a.alloc o) c) : Kept S a c :=
  ⟨k.os, k.tape, k.output, by have := k.size; simp at this; omega, fun q hq hS => (k.block q (by simp; omega) hS).trans (Below.heap_alloc _ _ _ hq)⟩

/-- The bytes of a string. -/
def strBytes (s : ByteArray) : List Int := s.data.toList.map fun b => (b.toNat : Int)
theorem strBytes_length (s : ByteArray) : (strBytes s).length = s.size := by simp [strBytes]
theorem byteCells_eq (s : ByteArray) : byteCells s = bs (strBytes s) := by simp [byteCells, bs, strBytes]

theorem src_str (s : ByteArray) (w : World) : Src Try.prog 1 9 (.string s) s.size (bs (strBytes s)) w := by
  have := Src.ofString (P := Try.prog) w Try.underlying9 s
  rwa [byteCells_eq] at this
theorem src_slice (ao : Option Addr) (m : List Int) (cap : Nat) (w : World) (h : 0 < m.length → ∃ ad, ao = some ad ∧ ∀ j v, (bs m)[j]? = some v → w.cell? (ad.add j) = some v) (hnil : ao = none → cap = 0) :
    Src Try.prog 1 46 (.slice ao m.length cap) m.length (bs m) w := by
  cases m with
  | nil =>
    cases ao with
    | none => exact Src.ofNil w Try.underlying46 cap
    | some ad => exact Src.ofSlice w Try.underlying46 ad 0 cap [] rfl (fun j u hu => absurd hu (by simp)) (fun u hu => absurd hu (by simp))
  | cons x r =>
    obtain ⟨ad, rfl, hc⟩ := h (by simp)
    exact Src.ofSlice w Try.underlying46 ad _ cap _ (by simp [bs]) hc (bs_one _)

theorem kept_two {b : Nat} {v v1 : Value} {w w1 w2 : World} (h1 : Kept (fun k => k = b ∨ v.ownBlock = some k) w w1) (h2 : Kept (fun k => k = b ∨ v1.ownBlock = some k) w1 w2)
    (ho : v1.ownBlock = v.ownBlock ∨ ∀ g, v1.ownBlock = some g → w.heap.size ≤ g) : Kept (fun k => k = b ∨ v.ownBlock = some k) w w2 :=
  h1.trans h2 fun q hq hT => by
    rcases hT with hT | hT
    · exact Or.inl hT
    · rcases ho with ho | ho
      · exact Or.inr (ho ▸ hT)
      · have := ho q hT; omega
theorem own_two {v v1 v2 : Value} {w w1 : World} (hs : w.heap.size ≤ w1.heap.size) (h1 : v1.ownBlock = v.ownBlock ∨ ∀ g, v1.ownBlock = some g → w.heap.size ≤ g) (h2 : v2.ownBlock = v1.ownBlock ∨ ∀ g, v2.ownBlock = some g → w1.heap.size ≤ g) :
    v2.ownBlock = v.ownBlock ∨ ∀ g, v2.ownBlock = some g → w.heap.size ≤ g := by
  rcases h2 with h2 | h2
  · rw [h2]; exact h1
  · exact Or.inr fun g hg => Nat.le_trans hs (h2 g hg)

/-- Zigzag. -/
def zig (n : Int) : Nat := if 0 ≤ n then (2 * n).toNat else (-2 * n - 1).toNat
theorem zig_lt (n : Int) (h0 : -9223372036854775808 ≤ n) (h1 : n ≤ 9223372036854775807) : zig n < 18446744073709551616 := by
  unfold zig; split <;> omega

theorem xor_ones (x : Nat) (h : x < 18446744073709551616) : 18446744073709551615 ^^^ x = 18446744073709551615 - x := by
  have h1 : (BitVec.allOnes 64 ^^^ BitVec.ofNat 64 x).toNat = (~~~ (BitVec.ofNat 64 x)).toNat := by rw [BitVec.allOnes_xor]
  rw [BitVec.toNat_xor, BitVec.toNat_not, BitVec.toNat_allOnes, BitVec.toNat_ofNat, Nat.mod_eq_of_lt (by omega)] at h1
  simpa using h1

theorem zig_neg (n : Int) (h0 : -9223372036854775808 ≤ n) (h1 : n < 0) : bits BinOp.xor IntKind.u64 (if IntKind.u64.signed = true then -1 else IntKind.u64.max) (IntKind.u64.wrap (IntKind.u64.wrap n * 2)) = (zig n : Int) := by
  have e1 : IntKind.u64.wrap (IntKind.u64.wrap n * 2) = ((2 * n + 18446744073709551616).toNat : Int) := by
    rw [IntKind.wrap_u64, IntKind.wrap_u64]; omega
  have e2 : (if IntKind.u64.signed = true then -1 else IntKind.u64.max) = ((18446744073709551615 : Nat) : Int) := by decide
  rw [e1, e2, bits_xor_u64_nat _ _ (by omega) (by omega), xor_ones _ (by omega)]
  unfold zig
  rw [if_neg (by omega)]
  omega

theorem zig_pos (n : Int) (h1 : ¬ n < 0) : n * 2 = (zig n : Int) := by
  unfold zig; rw [if_pos (by omega)]; omega

set_option maxHeartbeats 400000 in
theorem data_any (b B : Nat) (v : Value) (l : List Int) (w : World) (h : Wst B b w v l) (hl : l.length ≤ 140737488351232) :
    Calls Try.prog 67 #[.pointer (some ⟨b, 0, none⟩)] w fun e w' => e = .returned (.slice (some ⟨w.heap.size, 0, none⟩) l.length l.length) ∧
      w'.heap[w.heap.size]? = some (.cells (bs l).toArray 5 (0, 0)) ∧ Below w.heap.size w w' := by
  obtain ⟨ao, cap, rfl⟩ := own_shape h.own
  have c0 := cell_of_one h.blk
  have hsrc := hid_of (own_src h.own)
  go_enter Try.func67, Try.ntmps67
  go_wp2_with (go_at_call 79; refine (clone_any ao l cap w hl hsrc.out).mono ?_; rintro e w1 ⟨rfl, h1, h2⟩; have H1 := hid_of h1; clear h1)
  go_ret
  exact ⟨rfl, H1.out, h2⟩

end Go.Proofs.Ytofmijebinnejaa.Wr

/- The Writer as a whole. No condition but bounds on sizes. -/
namespace Go.Proofs.Ytofmijebinnejaa.Wr
open Go.RowKit

/-- The Writer in block b holds l; below B the world is as w0 was. -/
def WS (B b : Nat) (w0 w : World) (l : List Int) : Prop := B ≤ b ∧ B ≤ w0.heap.size ∧ Below B w0 w ∧ ∃ v, Wst B b w v l

theorem WS.size {B b : Nat} {w0 w : World} {l : List Int} (h : WS B b w0 w l) : B ≤ w.heap.size := Nat.le_trans h.2.1 h.2.2.1.size
theorem WS.step {B b : Nat} {w0 w w' : World} {v v' : Value} {l l' : List Int} (h1 : B ≤ b) (h2 : B ≤ w0.heap.size) (h3 : Below B w0 w) (hv : Wst B b w v l) (hv' : Wst B b w' v' l') (hk : Kept (fun k => k = b ∨ v.ownBlock = some k) w w') : WS B b w0 w' l' :=
  ⟨h1, h2, h3.trans (hk.below (Nat.le_trans h2 h3.size) (fun k hk => hk.elim (fun e => by omega) (fun e => (hv.own.lt k e).1))), v', hv'⟩

theorem uint_ws (n : Nat) (b B : Nat) (l : List Int) (w0 w : World) (hn : n < 18446744073709551616) (h : WS B b w0 w l) (hl : l.length ≤ 140737488300000) :
    Calls Try.prog 66 #[.pointer (some ⟨b, 0, none⟩), .int .u64 n] w fun e w' => e = .returned (.tuple #[]) ∧ WS B b w0 w' (l ++ enc n) := by
  have hB := h.size
  obtain ⟨h1, h2, h3, v, hv⟩ := h
  exact (uint_any n b B v l w hn hv hl hB).mono fun e w' ⟨he, v', hv', hk, _⟩ => ⟨he, WS.step h1 h2 h3 hv hv' hk⟩
theorem data_ws (b B : Nat) (l : List Int) (w0 w : World) (h : WS B b w0 w l) (hl : l.length ≤ 140737488351232) :
    Calls Try.prog 67 #[.pointer (some ⟨b, 0, none⟩)] w fun e w' => e = .returned (.slice (some ⟨w.heap.size, 0, none⟩) l.length l.length) ∧
      w'.heap[w.heap.size]? = some (.cells (bs l).toArray 5 (0, 0)) ∧ WS B b w0 w' l := by
  obtain ⟨h1, h2, h3, v, hv⟩ := h
  refine (data_any b B v l w hv hl).mono fun e w' ⟨he, hr, hb⟩ => ⟨he, hr, h1, h2, h3.trans (hb.mono (Nat.le_trans h2 h3.size)), v, ?_⟩
  exact ⟨(hb.block b (lt_of_block hv.blk)).trans hv.blk, own_same hv.own fun k hk => hb.block k (hv.own.lt k hk).2⟩

theorem ws_new (w : World) : WS w.heap.size w.heap.size w (w.alloc (.cells #[.slice none 0 0] 102)) [] :=
  ⟨Nat.le_refl _, Nat.le_refl _, (Below.refl _ _).alloc (Nat.le_refl _) _, .slice none 0 0, ⟨heap_alloc_new _ _, World.ownsRow_nil _ _ _ _⟩⟩

/-- A row, as cells behind its address. -/
theorem row_src {w : World} {g : Nat} {l : List Int} (h : w.heap[g]? = some (.cells (bs l).toArray 5 (0, 0))) : 0 < l.length → ∃ ad, (some (⟨g, 0, none⟩ : Addr)) = some ad ∧ ∀ j v, (bs l)[j]? = some v → w.cell? (ad.add j) = some v :=
  fun _ => ⟨_, rfl, fun j v hv => World.news_of_block h j v (by simpa using hv)⟩

end Go.Proofs.Ytofmijebinnejaa.Wr

/- The contracts of the Reader of package wire. No condition but bounds on sizes. -/
namespace Go.Proofs.Ytofmijebinnejaa.Wr
open Go.RowKit

/-- May a number end with the group g at place i? -/
def mayEnd (i : Nat) (g : Int) : Bool := decide (i = 0) || (decide (g ≠ 0) && (decide (i < 9) || decide (g = 1)))

/-- Reading a number from place i on: what was read so far is acc. -/
def decAt : Nat → Nat → Nat → List Int → Option (Nat × Nat)
  | 0, _, _, _ => none
  | _ + 1, _, _, [] => none
  | f + 1, i, acc, g :: r => if 128 ≤ g then decAt f (i + 1) (acc + (g - 128).toNat * 128 ^ i) r else if mayEnd i g then some (acc + g.toNat * 128 ^ i, i + 1) else none
def dec (l : List Int) : Option (Nat × Nat) := decAt 10 0 0 l

/-- The Reader in block b, its bytes in block g. -/
structure Rst (w : World) (b g : Nat) (d : List Int) (off last : Nat) (err : Int) : Prop where
  blk : w.heap[b]? = some (.cells #[.slice (some ⟨g, 0, none⟩) d.length d.length, .int .i64 off, .int .i64 last, .int .i64 err] 110 (0, 0))
  row : w.heap[g]? = some (.cells (bs d).toArray 5 (0, 0))
  rng : ∀ x ∈ d, 0 ≤ x ∧ x ≤ 255
  le : off ≤ d.length
  small : d.length ≤ 140737488351232

theorem Rst.c0 {w : World} {b g off last : Nat} {d : List Int} {err : Int} (h : Rst w b g d off last err) : w.cell? ⟨b, 0, none⟩ = some (.slice (some ⟨g, 0, none⟩) d.length d.length) := by rw [cell_of_row _ _ _ _ _ _ h.blk]; rfl
theorem Rst.c1 {w : World} {b g off last : Nat} {d : List Int} {err : Int} (h : Rst w b g d off last err) : w.cell? ⟨b, 1, none⟩ = some (.int .i64 off) := by rw [cell_of_row _ _ _ _ _ _ h.blk]; rfl
theorem Rst.c2 {w : World} {b g off last : Nat} {d : List Int} {err : Int} (h : Rst w b g d off last err) : w.cell? ⟨b, 2, none⟩ = some (.int .i64 last) := by rw [cell_of_row _ _ _ _ _ _ h.blk]; rfl
theorem Rst.c3 {w : World} {b g off last : Nat} {d : List Int} {err : Int} (h : Rst w b g d off last err) : w.cell? ⟨b, 3, none⟩ = some (.int .i64 err) := by rw [cell_of_row _ _ _ _ _ _ h.blk]; rfl
theorem Rst.free {w : World} {b g off last : Nat} {d : List Int} {err : Int} (h : Rst w b g d off last err) (j : Nat) : w.frozen? ⟨b, j, none⟩ = false := by simp [World.frozen?, h.blk]
theorem Rst.byte {w : World} {b g off last : Nat} {d : List Int} {err : Int} (h : Rst w b g d off last err) {j : Nat} (hj : j < d.length) : w.cell? ⟨g, j, none⟩ = some (.int .u8 d[j]) := by
  rw [cell_of_row _ _ _ _ _ _ h.row]; simp [bs, hj]
theorem Rst.drewN {w : World} {b g off last : Nat} {d : List Int} {err : Int} (h : Rst w b g d off last err) (m : Nat) : Rst (w.drewN m) b g d off last err := ⟨h.blk, h.row, h.rng, h.le, h.small⟩

set_option maxHeartbeats 400000 in
theorem mayEnd_any (i : Nat) (g : Int) (w : World) (hi : i < 10) (h0 : 0 ≤ g) (h1 : g ≤ 255) :
    Calls Try.prog 84 #[.int .i64 i, .int .u8 g] w fun e w' => e = .returned (.bool (mayEnd i g)) ∧ w = w' := by
  by_cases h2 : i = 0
  · subst h2
    go_enter Try.func84, Try.ntmps84
    go_wp2
    go_ret
    exact ⟨rfl, rfl⟩
  · have hb : ((i : Int) == 0) = false := by simp; omega
    by_cases h3 : g = 0
    · subst h3
      go_enter Try.func84, Try.ntmps84
      go_wp2
      go_ret
      exact ⟨by simp [mayEnd, h2], rfl⟩
    · have hb3 : (g != 0) = true := by simp; omega
      by_cases h4 : i < 9
      · have hb4 : decide ((i : Int) < 9) = true := by simp; omega
        go_enter Try.func84, Try.ntmps84
        go_wp2
        go_ret
        exact ⟨by simp [mayEnd, h2, h3, h4], rfl⟩
      · have hb4 : decide ((i : Int) < 9) = false := by simp; omega
        go_enter Try.func84, Try.ntmps84
        go_wp2
        go_ret
        exact ⟨by simp [mayEnd, h2, h3, h4]; rfl, rfl⟩

/-- What number returns. -/
def numRes (off : Nat) : Option (Nat × Nat) → Value
  | some (n, k) => .tuple #[.int .u64 n, .int .i64 ((off + k : Nat) : Int), .bool true]
  | none => .tuple #[.int .u64 0, .int .i64 0, .bool false]

theorem ret3_num {a b c d : Int} (h1 : a = b) (h2 : c = d) : Ending.returned (.tuple #[.int .u64 a, .int .i64 c, .bool true]) = Ending.returned (.tuple #[.int .u64 b, .int .i64 d, .bool true]) := by rw [h1, h2]

def Drew (w w' : World) : Prop := ∃ m, w' = w.drewN m

theorem or_form (x i : Nat) (y : Int) (h0 : 0 ≤ y) (h1 : y ≤ 255) (hx : x < 18446744073709551616) :
    bits BinOp.or IntKind.u64 (x : Int) (IntKind.u64.wrap (IntKind.u64.wrap (bits BinOp.and IntKind.u8 y 127) * 2 ^ (7 * i))) = ((x ||| (y.toNat % 128 * 2 ^ (7 * i) % 18446744073709551616) : Nat) : Int) := by
  have e1 : bits BinOp.and IntKind.u8 y 127 = ((y.toNat % 128 : Nat) : Int) := by
    have := u8_and y 127 h0 (by omega) (by omega) (by omega)
    rw [show (127 : Int).toNat = 127 from rfl, nat_mask7] at this
    exact this
  have e2 : IntKind.u64.wrap (IntKind.u64.wrap ((y.toNat % 128 : Nat) : Int) * 2 ^ (7 * i)) = ((y.toNat % 128 * 2 ^ (7 * i) % 18446744073709551616 : Nat) : Int) := by
    have hz : y.toNat % 128 < 128 := Nat.mod_lt _ (by decide)
    generalize y.toNat % 128 = z at hz
    rw [IntKind.wrap_u64, IntKind.wrap_u64]
    have e3 : (z : Int) % 18446744073709551616 = (z : Int) := by omega
    rw [e3]
    simp only [Int.natCast_emod, Int.natCast_mul, Int.natCast_pow]
    rfl
  rw [e1, e2]
  exact u64_or_nat _ _ hx (Nat.mod_lt _ (by decide))

theorem or_val (x z i : Nat) (hx : x < 128 ^ i) (hz : z * 128 ^ i < 18446744073709551616) : x ||| (z * 2 ^ (7 * i) % 18446744073709551616) = x + z * 128 ^ i := by
  have e : 2 ^ (7 * i) = 128 ^ i := by rw [Nat.pow_mul]
  rw [e, Nat.mod_eq_of_lt hz, Nat.or_comm, Nat.add_comm]
  rw [← e] at hx ⊢
  exact nat_join (7 * i) _ _ (Nat.mul_mod_left _ _) hx

theorem or_lt (x i : Nat) (z : Nat) (hx : x < 18446744073709551616) : x ||| (z * 2 ^ (7 * i) % 18446744073709551616) < 18446744073709551616 :=
  Nat.or_lt_two_pow (n := 64) hx (Nat.mod_lt _ (by decide))

theorem pow_le9 (i : Nat) (h : i ≤ 8) : 128 ^ (i + 1) ≤ 9223372036854775808 := by
  have : 128 ^ (i + 1) ≤ 128 ^ 9 := Nat.pow_le_pow_right (by decide) (by omega)
  exact this

theorem decAt_nil (i acc : Nat) (h : i < 10) : decAt (10 - i) i acc [] = none := by
  obtain ⟨f, hf⟩ : ∃ f, 10 - i = f + 1 := ⟨9 - i, by omega⟩
  rw [hf]; rfl
theorem decAt_cons (i acc : Nat) (y : Int) (r : List Int) (h : i < 10) :
    decAt (10 - i) i acc (y :: r) = if 128 ≤ y then decAt (10 - (i + 1)) (i + 1) (acc + (y - 128).toNat * 128 ^ i) r else if mayEnd i y then some (acc + y.toNat * 128 ^ i, i + 1) else none := by
  obtain ⟨f, hf⟩ : ∃ f, 10 - i = f + 1 := ⟨9 - i, by omega⟩
  have hf2 : 10 - (i + 1) = f := by omega
  rw [hf, hf2]; rfl
theorem drop_at {d : List Int} {k : Nat} {y : Int} (h : k < d.length) (hy : y = d[k]) : d.drop k = y :: d.drop (k + 1) := by
  rw [List.drop_eq_getElem_cons h, hy]

set_option maxHeartbeats 1000000 in
theorem number_any (b g off last : Nat) (d : List Int) (err : Int) (w : World) (h : Rst w b g d off last err) :
    Calls Try.prog 83 #[.pointer (some ⟨b, 0, none⟩)] w fun e w' => e = .returned (numRes off (dec (d.drop off))) ∧ Drew w w' := by
  have c0 := h.c0
  have c1 := h.c1
  have hsm := h.small
  have hle := h.le
  by_cases he : off = d.length
  · subst he
    go_enter Try.func83, Try.ntmps83
    go_wp2
    go_quiet (fail)
    go_wp2
    refine wp_loop_rounds 1 ?_
    rw [rounds_succ]
    go_wp2
    go_ret3
    refine ⟨?_, nq, rfl⟩
    rw [List.drop_length]; rfl
  · have b1 : (0 : Int) ≤ (off : Int) := by omega
    have b2 : (off : Int) ≤ (d.length : Int) := by omega
    have b3 : ¬ d.length = off := by omega
    go_enter Try.func83, Try.ntmps83
    go_wp2
    go_quiet (fail)
    go_wp2
    go_loop [6, 18] (fun nv iv => ∃ i acc x : Nat, i ≤ 10 ∧ iv = .int .i64 i ∧ nv = .int .u64 x ∧ Hid (dec (d.drop off) = decAt (10 - i) i acc (d.drop (off + i))) ∧ Hid (off + i ≤ d.length ∧ acc < 128 ^ i ∧ x < 18446744073709551616 ∧ (i ≤ 9 → x = acc)))
      (fun _ i => 10 - (intOf i).toNat)
    case atStart => exact ⟨0, 0, 0, by omega, rfl, rfl, hid_of rfl, hid_of ⟨by omega, by decide, by omega, fun _ => rfl⟩⟩
    case round =>
      obtain ⟨i, acc, x, hi, rfl, rfl, hdec, hinv⟩ := hrel
      have hinv1 := hinv.out.1
      by_cases hlt : i < 10
      · by_cases hend : off + i = d.length
        · have hee : ((i : Int) == ((d.length - off : Nat) : Int)) = true := by simp; omega
          go_wp2
          go_ret3
          refine ⟨?_, nq, rfl⟩
          rw [hdec.out, hend, List.drop_length, decAt_nil i acc hlt]; rfl
        · have hee : ((i : Int) == ((d.length - off : Nat) : Int)) = false := by simp; omega
          have hcell := h.byte (j := off + i) (by omega)
          obtain ⟨y, hy⟩ : ∃ y, y = d[off + i]'(by omega) := ⟨_, rfl⟩
          rw [← hy] at hcell
          have hy0 := h.rng y (by rw [hy]; exact List.getElem_mem _)
          have HY := hid_of hy
          clear hy
          by_cases h128 : 128 ≤ y
          · have hz : y.toNat % 128 = (y - 128).toNat := by omega
            go_wp2
            go_round
            case rel =>
              obtain ⟨i1, i2, i3, i4⟩ := hinv.out
              refine ⟨i + 1, acc + (y - 128).toNat * 128 ^ i, x ||| (y.toNat % 128 * 2 ^ (7 * i) % 18446744073709551616), by omega, by go_num, ?_, hid_of ?_, hid_of ⟨by omega, ?_, or_lt _ _ _ i3, fun h9 => ?_⟩⟩
              · rw [or_form x i y hy0.1 hy0.2 i3]
              · rw [hdec.out, drop_at (by omega) HY.out, decAt_cons i acc y _ hlt, if_pos h128]; rfl
              · rw [Nat.pow_succ]
                have : (y - 128).toNat * 128 ^ i ≤ 127 * 128 ^ i := Nat.mul_le_mul_right _ (by omega)
                omega
              · rw [i4 (by omega), hz]
                refine or_val _ _ _ i2 ?_
                have h1 := pow_le9 i (by omega)
                rw [Nat.pow_succ] at h1
                have : (y - 128).toNat * 128 ^ i ≤ 127 * 128 ^ i := Nat.mul_le_mul_right _ (by omega)
                omega
            case measure => simp [intOf]; omega
          · have hdec2 : Hid (dec (d.drop off) = if mayEnd i y then some (acc + y.toNat * 128 ^ i, i + 1) else none) := hid_of (by
              rw [hdec.out, drop_at (by omega) HY.out, decAt_cons i acc y _ hlt, if_neg h128])
            cases hm : mayEnd i y
            · have HM := hid_of hm
              clear hm
              go_wp2_with (go_at_call 84; refine (mayEnd_any i y _ hlt hy0.1 hy0.2).mono ?_; rintro e w' ⟨rfl, rfl⟩; rw [HM.out])
              go_ret3
              refine ⟨?_, nq, rfl⟩
              rw [hdec2.out, HM.out]; rfl
            · have HM := hid_of hm
              clear hm
              have a1 : IntKind.i64.wrap ((off : Int) + (i : Int)) = (off : Int) + (i : Int) := IntWalk.i64_in _ (by omega)
              have a2 : IntKind.i64.wrap ((off : Int) + (i : Int) + 1) = (off : Int) + (i : Int) + 1 := IntWalk.i64_in _ (by omega)
              go_wp2_with (go_at_call 84; refine (mayEnd_any i y _ hlt hy0.1 hy0.2).mono ?_; rintro e w' ⟨rfl, rfl⟩; rw [HM.out])
              go_quiet (fail)
              go_wp2
              go_ret3
              refine ⟨?_, _, (World.drewN_drewN _ _ _)⟩
              obtain ⟨i1, i2, i3, i4⟩ := hinv.out
              rw [hdec2.out, HM.out]
              have hz : y.toNat % 128 = y.toNat := by omega
              have hzl : y.toNat * 128 ^ i < 18446744073709551616 := by
                rcases Nat.lt_or_ge i 9 with h9 | h9
                · have h1 := pow_le9 i (by omega)
                  rw [Nat.pow_succ] at h1
                  have : y.toNat * 128 ^ i ≤ 127 * 128 ^ i := Nat.mul_le_mul_right _ (by omega)
                  omega
                · obtain rfl : i = 9 := by omega
                  have hm := HM.out
                  simp [mayEnd] at hm
                  obtain ⟨_, rfl⟩ := hm
                  decide
              refine ret3_num ?_ (by omega)
              rw [or_form x i y hy0.1 hy0.2 i3, i4 (by omega), hz, or_val _ _ _ i2 hzl]
      · go_wp2
        go_ret3
        refine ⟨?_, nq, rfl⟩
        obtain rfl : i = 10 := by omega
        rw [hdec.out]; rfl

theorem Kept.refl (S : Nat → Prop) (w : World) : Kept S w w := ⟨rfl, rfl, rfl, Nat.le_refl _, fun _ _ _ => rfl⟩
theorem Kept.drewN {S : Nat → Prop} {a b : World} (h : Kept S a b) (m : Nat) : Kept S a (b.drewN m) := ⟨h.os, h.tape, h.output, h.size, h.block⟩
theorem Kept.ofDrewN {S : Nat → Prop} {a b : World} {m : Nat} (h : Kept S (a.drewN m) b) : Kept S a b := ⟨h.os, h.tape, h.output, h.size, h.block⟩
theorem Kept.setCell {S : Nat → Prop} {a b : World} (h : Kept S a b) {p : Addr} (hp : S p.block) (u : Value) : Kept S a (b.setCell p u) :=
  ⟨h.os, h.tape, h.output, by show a.heap.size ≤ (b.heap.modify _ _).size; rw [Array.size_modify]; exact h.size, fun k hk hS => (Below.heap_setCell _ _ _ _ (fun e => hS (by rw [e]; exact hp))).trans (h.block k hk hS)⟩
theorem Kept.mono {S T : Nat → Prop} {a b : World} (h : Kept S a b) (hST : ∀ k, S k → T k) : Kept T a b := ⟨h.os, h.tape, h.output, h.size, fun k hk hT => h.block k hk (fun hs => hT (hST k hs))⟩

theorem Rst.gne {w : World} {b g off last : Nat} {d : List Int} {err : Int} (h : Rst w b g d off last err) : g ≠ b := by
  intro e
  have := h.row
  rw [e, h.blk] at this
  simp at this
theorem Rst.glt {w : World} {b g off last : Nat} {d : List Int} {err : Int} (h : Rst w b g d off last err) : g < w.heap.size := lt_of_block h.row
theorem Rst.blt {w : World} {b g off last : Nat} {d : List Int} {err : Int} (h : Rst w b g d off last err) : b < w.heap.size := lt_of_block h.blk

/-- A Reader whose own block and row are as they were. -/
theorem Rst.same {w w' : World} {b g off last : Nat} {d : List Int} {err : Int} (h : Rst w b g d off last err) (hb : w'.heap[b]? = w.heap[b]?) (hg : w'.heap[g]? = w.heap[g]?) : Rst w' b g d off last err :=
  ⟨hb.trans h.blk, hg.trans h.row, h.rng, h.le, h.small⟩

/-- What two stores into the Reader's block leave. -/
theorem Rst.set2 {w : World} {b g off last : Nat} {d : List Int} {err : Int} (h : Rst w b g d off last err) {j1 j2 : Nat} {u1 u2 : Value} {off' last' : Nat} {err' : Int}
    (he : (([.slice (some ⟨g, 0, none⟩) d.length d.length, .int .i64 off, .int .i64 last, .int .i64 err] : List Value).set j1 u1).set j2 u2 = [.slice (some ⟨g, 0, none⟩) d.length d.length, .int .i64 off', .int .i64 last', .int .i64 err'])
    (hle : off' ≤ d.length) : Rst ((w.setCell ⟨b, j1, none⟩ u1).setCell ⟨b, j2, none⟩ u2) b g d off' last' err' ∧ Kept (fun k => k = b) w ((w.setCell ⟨b, j1, none⟩ u1).setCell ⟨b, j2, none⟩ u2) ∧
      ((w.setCell ⟨b, j1, none⟩ u1).setCell ⟨b, j2, none⟩ u2).heap.size = w.heap.size := by
  have hb := blk_setCell (k := j2) (u := u2) (blk_setCell (k := j1) (u := u1) (g := b) (cur := [.slice (some ⟨g, 0, none⟩) d.length d.length, .int .i64 off, .int .i64 last, .int .i64 err]) h.blk)
  rw [he] at hb
  refine ⟨⟨hb, ?_, h.rng, hle, h.small⟩, (Kept.setCell (p := ⟨b, j1, none⟩) (Kept.refl (fun k => k = b) w) rfl u1).setCell (p := ⟨b, j2, none⟩) rfl u2, ?_⟩
  · rw [Below.heap_setCell _ _ _ _ h.gne, Below.heap_setCell _ _ _ _ h.gne]; exact h.row
  · simp [World.setCell]

/-- The Reader has gone from w to w'. -/
def RTo (w w' : World) (b g : Nat) (d : List Int) (off last : Nat) (err : Int) : Prop :=
  Rst w' b g d off last err ∧ Kept (fun k => k = b) w w' ∧ w'.heap.size = w.heap.size

theorem RTo.ofDrewN {w w' : World} {b g off last m : Nat} {d : List Int} {err : Int} (h : RTo (w.drewN m) w' b g d off last err) : RTo w w' b g d off last err := ⟨h.1, h.2.1.ofDrewN, h.2.2⟩
theorem RTo.drewN {w w' : World} {b g off last m : Nat} {d : List Int} {err : Int} (h : RTo w w' b g d off last err) : RTo w (w'.drewN m) b g d off last err := ⟨h.1.drewN m, h.2.1.drewN m, h.2.2⟩

set_option maxHeartbeats 400000 in
theorem settle_ok (b g off last en : Nat) (d : List Int) (w : World) (h : Rst w b g d off last 0) (hen : en ≤ d.length) :
    Calls Try.prog 81 #[.pointer (some ⟨b, 0, none⟩), .int .i64 en, .bool true] w fun e w' => e = .returned (.bool true) ∧ RTo w w' b g d en off 0 := by
  have c1 := h.c1
  have c2 := h.c2
  have c3 := h.c3
  have f1 := h.free 1
  have f2 := h.free 2
  have R := hid_of (h.set2 (j1 := 2) (j2 := 1) (u1 := .int .i64 off) (u2 := .int .i64 en) (off' := en) (last' := off) (err' := 0) rfl hen)
  go_enter Try.func81, Try.ntmps81
  go_wp2
  go_ret
  exact ⟨rfl, R.out⟩

set_option maxHeartbeats 400000 in
theorem settle_bad (b g off last : Nat) (en : Int) (d : List Int) (w : World) (h : Rst w b g d off last 0) :
    Calls Try.prog 81 #[.pointer (some ⟨b, 0, none⟩), .int .i64 en, .bool false] w fun e w' => e = .returned (.bool false) ∧ RTo w w' b g d off off 2 := by
  have c1 := h.c1
  have c2 := h.c2
  have c3 := h.c3
  have f2 := h.free 2
  have f3 := h.free 3
  have R := hid_of (h.set2 (j1 := 2) (j2 := 3) (u1 := .int .i64 off) (u2 := .int .i64 2) (off' := off) (last' := off) (err' := 2) rfl h.le)
  go_enter Try.func81, Try.ntmps81
  go_wp2
  go_ret
  exact ⟨rfl, R.out⟩

set_option maxHeartbeats 400000 in
theorem settle_dead (b g off last : Nat) (en : Int) (ok : Bool) (d : List Int) (w : World) (h : Rst w b g d off last 2) :
    Calls Try.prog 81 #[.pointer (some ⟨b, 0, none⟩), .int .i64 en, .bool ok] w fun e w' => e = .returned (.bool false) ∧ RTo w w' b g d off last 2 := by
  have c3 := h.c3
  have R := hid_of h
  go_enter Try.func81, Try.ntmps81
  go_wp2
  go_ret
  exact ⟨rfl, R.out, Kept.refl _ _, rfl⟩

/-! What a number that was read says. -/
theorem decAt_bound : ∀ (f i acc : Nat) (l : List Int) (n k : Nat), f + i = 10 → acc < 128 ^ i → (∀ x ∈ l, 0 ≤ x ∧ x ≤ 255) → decAt f i acc l = some (n, k) → i < k ∧ k ≤ i + l.length ∧ k ≤ 10 ∧ n < 18446744073709551616 := by
  intro f
  induction f with
  | zero => intro i acc l n k _ _ _ h; cases h
  | succ f ih =>
    intro i acc l n k hf ha hr h
    cases l with
    | nil => cases h
    | cons y r =>
      have hy := hr y (by simp)
      rw [decAt] at h
      split at h
      · have hl : acc + (y - 128).toNat * 128 ^ i < 128 ^ (i + 1) := by
          rw [Nat.pow_succ]
          have : (y - 128).toNat * 128 ^ i ≤ 127 * 128 ^ i := Nat.mul_le_mul_right _ (by omega)
          omega
        have := ih (i + 1) _ r n k (by omega) hl (fun x hx => hr x (by simp [hx])) h
        simp only [List.length_cons]
        omega
      · split at h
        · rename_i h1 h2
          simp only [Option.some.injEq, Prod.mk.injEq] at h
          obtain ⟨rfl, rfl⟩ := h
          refine ⟨by omega, by simp, by omega, ?_⟩
          rcases Nat.lt_or_ge i 9 with h9 | h9
          · have h3 := pow_le9 i (by omega)
            rw [Nat.pow_succ] at h3
            have : y.toNat * 128 ^ i ≤ 127 * 128 ^ i := Nat.mul_le_mul_right _ (by omega)
            omega
          · obtain rfl : i = 9 := by omega
            simp [mayEnd] at h2
            obtain ⟨_, rfl⟩ := h2
            have : (128 : Nat) ^ 9 = 9223372036854775808 := by decide
            simp
            omega
        · cases h

theorem decl_bound {l : List Int} {n k : Nat} (hr : ∀ x ∈ l, 0 ≤ x ∧ x ≤ 255) (h : dec l = some (n, k)) : 0 < k ∧ k ≤ l.length ∧ k ≤ 10 ∧ n < 18446744073709551616 := by
  have := decAt_bound 10 0 0 l n k (by omega) (by decide) hr h
  omega

theorem Rst.dec_bound {w : World} {b g off last n k : Nat} {d : List Int} {err : Int} (h : Rst w b g d off last err) (hd : dec (d.drop off) = some (n, k)) : 0 < k ∧ off + k ≤ d.length ∧ k ≤ 10 ∧ n < 18446744073709551616 := by
  have := decl_bound (fun x hx => h.rng x (List.mem_of_mem_drop hx)) hd
  have h2 := h.le
  rw [List.length_drop] at this
  omega

theorem number_some (b g off last n k : Nat) (d : List Int) (err : Int) (w : World) (h : Rst w b g d off last err) (hd : dec (d.drop off) = some (n, k)) :
    Calls Try.prog 83 #[.pointer (some ⟨b, 0, none⟩)] w fun e w' => e = .returned (.tuple #[.int .u64 n, .int .i64 ((off + k : Nat) : Int), .bool true]) ∧ Drew w w' :=
  (number_any b g off last d err w h).mono fun e w' ⟨h1, h2⟩ => ⟨by rw [h1, hd]; rfl, h2⟩
theorem number_none (b g off last : Nat) (d : List Int) (err : Int) (w : World) (h : Rst w b g d off last err) (hd : dec (d.drop off) = none) :
    Calls Try.prog 83 #[.pointer (some ⟨b, 0, none⟩)] w fun e w' => e = .returned (.tuple #[.int .u64 0, .int .i64 0, .bool false]) ∧ Drew w w' :=
  (number_any b g off last d err w h).mono fun e w' ⟨h1, h2⟩ => ⟨by rw [h1, hd]; rfl, h2⟩

set_option maxHeartbeats 400000 in
theorem ruint_ok (b g off last n k : Nat) (d : List Int) (w : World) (h : Rst w b g d off last 0) (hd : dec (d.drop off) = some (n, k)) :
    Calls Try.prog 77 #[.pointer (some ⟨b, 0, none⟩)] w fun e w' => e = .returned (.int .u64 n) ∧ RTo w w' b g d (off + k) off 0 := by
  have hb := hid_of (h.dec_bound hd)
  have HD := hid_of hd
  have H := hid_of h
  clear hd h
  go_enter Try.func77, Try.ntmps77
  go_wp2_with (first
    | (go_at_call 83; refine (number_some b g off last n k d 0 w H.out HD.out).mono ?_; rintro e w1 ⟨rfl, m, rfl⟩)
    | (go_at_call 81; refine (settle_ok b g off last (off + k) d _ (H.out.drewN _) hb.out.2.1).mono ?_; rintro e w2 ⟨rfl, h2⟩; have R := hid_of h2.ofDrewN; clear h2))
  go_ret
  exact ⟨rfl, R.out⟩

set_option maxHeartbeats 400000 in
theorem ruint_bad (b g off last : Nat) (d : List Int) (w : World) (h : Rst w b g d off last 0) (hd : dec (d.drop off) = none) :
    Calls Try.prog 77 #[.pointer (some ⟨b, 0, none⟩)] w fun e w' => e = .returned (.int .u64 0) ∧ RTo w w' b g d off off 2 := by
  have HD := hid_of hd
  have H := hid_of h
  clear hd h
  go_enter Try.func77, Try.ntmps77
  go_wp2_with (first
    | (go_at_call 83; refine (number_none b g off last d 0 w H.out HD.out).mono ?_; rintro e w1 ⟨rfl, m, rfl⟩)
    | (go_at_call 81; refine (settle_bad b g off last 0 d _ (H.out.drewN _)).mono ?_; rintro e w2 ⟨rfl, h2⟩; have R := hid_of h2.ofDrewN; clear h2))
  go_ret
  exact ⟨rfl, R.out⟩

set_option maxHeartbeats 400000 in
theorem ruint_dead (b g off last : Nat) (d : List Int) (w : World) (h : Rst w b g d off last 2) :
    Calls Try.prog 77 #[.pointer (some ⟨b, 0, none⟩)] w fun e w' => e = .returned (.int .u64 0) ∧ RTo w w' b g d off last 2 := by
  have H := hid_of h
  clear h
  rcases hd : dec (d.drop off) with _ | ⟨n, k⟩
  all_goals
    have HD := hid_of hd
    clear hd
    go_enter Try.func77, Try.ntmps77
    go_wp2_with (first
      | (go_at_call 83; (first | (refine (number_none b g off last d 2 w H.out HD.out).mono ?_) | (refine (number_some b g off last _ _ d 2 w H.out HD.out).mono ?_)); rintro e w1 ⟨rfl, m, rfl⟩)
      | (go_at_call 81; refine (settle_dead b g off last _ _ d _ (H.out.drewN _)).mono ?_; rintro e w2 ⟨rfl, h2⟩; have R := hid_of h2.ofDrewN; clear h2))
    go_ret
    exact ⟨rfl, R.out⟩

end Go.Proofs.Ytofmijebinnejaa.Wr

/- The Reader: runs, Text, Bytes, Left; a Reader at an offset. Bounds on sizes. -/
namespace Go.Proofs.Ytofmijebinnejaa.Wr
open Go.RowKit

section
variable {P : Program} (w : World)

theorem run_str (src dst e : TypeId) (hs : P.underlying src = some (.slice e)) (he : P.underlying e = some (.int .u8)) (hd : P.underlying dst = some .string) (ao : Option Addr) (l : List Int) (cap : Nat)
    (hpos : 0 < l.length → ∃ ad, ao = some ad ∧ ∀ j v, (bs l)[j]? = some v → w.cell? (ad.add j) = some v) :
    (convert src dst (.slice ao l.length cap)).run P w = .ok (.string (strOfNums l)) w := by
  cases ao with
  | none =>
    obtain rfl : l = [] := by
      cases l with
      | nil => rfl
      | cons x r => obtain ⟨ad, h, _⟩ := hpos (by simp); cases h
    exact run_convert_bytes_nil w src e hs he 0 cap dst hd
  | some ad =>
    have hl : (loadCells ad l.length).run P w = .ok (l.map (Value.int .u8)).toArray w := by
      have := run_loadCells_list (P := P) w ad (bs l) (fun j v hj => by
        have h0 : 0 < l.length := by
          have := (List.getElem?_eq_some_iff.1 hj).1
          simp [bs] at this; omega
        obtain ⟨ad', h1, h2⟩ := hpos h0
        cases h1
        exact h2 j v hj)
      simpa [bs] using this
    rw [run_convert_bytes_string w src dst e _ l.length cap hs he hd, run_bytesToString w _ l.length cap l hl, foldl_push_bytes]
    simp [strOfNums, ByteArray.empty, ByteArray.emptyWithCapacity]
    rfl

theorem wp_str {o : Oper} {a : Act} {K : Act → World → Prop} {Q : Exit → Act → World → Prop} (src dst : TypeId) (x : Operand) (ho : o.op = .convert src dst x) (e : TypeId)
    (hs : P.underlying src = some (.slice e)) (he : P.underlying e = some (.int .u8)) (hd : P.underlying dst = some .string) (ao : Option Addr) (l : List Int) (cap : Nat) (hx : a.eval x = .slice ao l.length cap)
    (hpos : 0 < l.length → ∃ ad, ao = some ad ∧ ∀ j v, (bs l)[j]? = some v → w.cell? (ad.add j) = some v) (h : K (a.put o.dst (.string (strOfNums l))) w) : Oper.wp P o a w K Q := by
  have hr := run_str (P := P) w src dst e hs he hd ao l cap hpos
  unfold Oper.wp execOp
  simp only [ho, hx, Sem.run_bind, hr, Result.andThen_ok, Sem.run_pure]
  exact h

theorem wpList_str {ops : Array Oper} {rest : List Oper} {o : Oper} {a : Act} {Q : Exit → Act → World → Prop} (hgd : o.guard = none) (src dst : TypeId) (x : Operand) (ho : o.op = .convert src dst x) (e : TypeId)
    (hs : P.underlying src = some (.slice e)) (he : P.underlying e = some (.int .u8)) (hd : P.underlying dst = some .string) (ao : Option Addr) (l : List Int) (cap : Nat) (hx : a.eval x = .slice ao l.length cap)
    (hpos : 0 < l.length → ∃ ad, ao = some ad ∧ ∀ j v, (bs l)[j]? = some v → w.cell? (ad.add j) = some v) (h : wpList P ops Q rest (a.put o.dst (.string (strOfNums l))) w) : wpList P ops Q (o :: rest) a w :=
  wpList_plain hgd fun _ hK => wp_str w src dst x ho e hs he hd ao l cap hx hpos (hK _ _ h)
theorem wpList_str_n {ops : Array Oper} {rest : List Oper} {o : Oper} {a : Act} {Q : Exit → Act → World → Prop} (hgd : o.guard = none) (src dst : TypeId) (x : Operand) (ho : o.op = .convert src dst x) (e : TypeId)
    (hs : P.underlying src = some (.slice e)) (he : P.underlying e = some (.int .u8)) (hd : P.underlying dst = some .string) (ao : Option Addr) (l : List Int) (n cap : Nat) (hn : l.length = n) (hx : a.eval x = .slice ao n cap)
    (hpos : 0 < l.length → ∃ ad, ao = some ad ∧ ∀ j v, (bs l)[j]? = some v → w.cell? (ad.add j) = some v) (h : wpList P ops Q rest (a.put o.dst (.string (strOfNums l))) w) : wpList P ops Q (o :: rest) a w :=
  wpList_str w hgd src dst x ho e hs he hd ao l cap (by rw [hn]; exact hx) hpos h
end
theorem ret_i64 {a b : Int} (h : a = b) : Ending.returned (.int .i64 a) = Ending.returned (.int .i64 b) := by rw [h]
/-- A byte string: how many bytes its length takes, and its length. -/
def decRun (l : List Int) : Option (Nat × Nat) :=
  match dec l with
  | some (n, k) => if n ≤ l.length - k then some (k, n) else none
  | none => none
theorem decRun_some {l : List Int} {k n : Nat} (h : decRun l = some (k, n)) : dec l = some (n, k) ∧ n ≤ l.length - k := by
  unfold decRun at h
  split at h
  · split at h
    · rename_i n' k' he hn
      simp only [Option.some.injEq, Prod.mk.injEq] at h
      obtain ⟨rfl, rfl⟩ := h
      exact ⟨he, hn⟩
    · cases h
  · cases h
set_option maxHeartbeats 400000 in
theorem run_some (b g off last k n : Nat) (d : List Int) (err : Int) (w : World) (h : Rst w b g d off last err) (hd : decRun (d.drop off) = some (k, n)) :
    Calls Try.prog 80 #[.pointer (some ⟨b, 0, none⟩)] w fun e w' => e = .returned (.tuple #[.int .i64 ((off + k : Nat) : Int), .int .i64 ((off + k + n : Nat) : Int), .bool true]) ∧ Drew w w' := by
  obtain ⟨hd1, hd2⟩ := decRun_some hd
  have hb := h.dec_bound hd1
  rw [List.length_drop] at hd2
  have hsm := h.small
  have c0 := h.c0
  have HC := hid_of (number_some b g off last n k d err w h hd1)
  have hdd : decide ((d.length : Int) - ((off + k : Nat) : Int) < (n : Int)) = false := by simp; omega
  obtain ⟨hb0, hb1, hb2, hb3⟩ := hb
  clear hd hd1 h
  go_enter Try.func80, Try.ntmps80
  go_wp2_with (go_at_call 83; refine HC.out.mono ?_; rintro e w1 ⟨rfl, m, rfl⟩)
  go_ret3
  exact ⟨by simp, m, rfl⟩
set_option maxHeartbeats 400000 in
theorem run_none (b g off last : Nat) (d : List Int) (err : Int) (w : World) (h : Rst w b g d off last err) (hd : decRun (d.drop off) = none) :
    Calls Try.prog 80 #[.pointer (some ⟨b, 0, none⟩)] w fun e w' => e = .returned (.tuple #[.int .i64 0, .int .i64 0, .bool false]) ∧ Drew w w' := by
  have hsm := h.small
  have c0 := h.c0
  unfold decRun at hd
  rcases hq : dec (d.drop off) with _ | ⟨n, k⟩
  · have HC := hid_of (number_none b g off last d err w h hq)
    clear hd hq h
    go_enter Try.func80, Try.ntmps80
    go_wp2_with (go_at_call 83; refine HC.out.mono ?_; rintro e w1 ⟨rfl, m, rfl⟩)
    go_ret3
    exact ⟨rfl, m, rfl⟩
  · have HC := hid_of (number_some b g off last n k d err w h hq)
    have hb := h.dec_bound hq
    rw [hq] at hd
    simp only at hd
    split at hd
    · cases hd
    · rename_i hd2
      rw [List.length_drop] at hd2
      have hdd : decide ((d.length : Int) - ((off + k : Nat) : Int) < (n : Int)) = true := by simp; omega
      obtain ⟨hb0, hb1, hb2, hb3⟩ := hb
      clear hd hq h
      go_enter Try.func80, Try.ntmps80
      go_wp2_with (go_at_call 83; refine HC.out.mono ?_; rintro e w1 ⟨rfl, m, rfl⟩)
      go_ret3
      exact ⟨rfl, m, rfl⟩
set_option maxHeartbeats 400000 in
theorem newReader_any (ao : Option Addr) (l : List Int) (cap : Nat) (w : World) (hr : ∀ x ∈ l, 0 ≤ x ∧ x ≤ 255) (hl : l.length ≤ 140737488351232)
    (hpos : 0 < l.length → ∃ ad, ao = some ad ∧ ∀ j v, (bs l)[j]? = some v → w.cell? (ad.add j) = some v) :
    Calls Try.prog 61 #[.slice ao l.length cap] w fun e w' => ∃ b g, e = .returned (.pointer (some ⟨b, 0, none⟩)) ∧ Rst w' b g l 0 0 0 ∧ Below w.heap.size w w' ∧ w.heap.size ≤ b ∧ w.heap.size ≤ g := by
  have HC := hid_of (clone_any ao l cap w hl hpos)
  clear hpos
  go_enter Try.func61, Try.ntmps61
  go_wp2_with (go_at_call 79; refine HC.out.mono ?_; rintro e w1 ⟨rfl, h1, h2⟩; have H1 := hid_of h1; clear h1)
  go_ret
  have hs := lt_of_block H1.out
  refine ⟨_, _, rfl, ⟨heap_alloc_new _ _, ?_, hr, by omega, hl⟩, h2.alloc h2.size _, h2.size, Nat.le_refl _⟩
  rw [Below.heap_alloc _ _ _ hs]
  exact H1.out
set_option maxHeartbeats 400000 in
theorem left_any (b g off last : Nat) (d : List Int) (err : Int) (w : World) (h : Rst w b g d off last err) :
    Calls Try.prog 62 #[.pointer (some ⟨b, 0, none⟩)] w fun e w' => e = .returned (.int .i64 ((d.length - off : Nat) : Int)) ∧ Drew w w' := by
  have c0 := h.c0
  have c1 := h.c1
  have hle := h.le
  have hsm := h.small
  go_enter Try.func62, Try.ntmps62
  have a1 : IntKind.i64.wrap ((d.length : Int) - (off : Int)) = (d.length : Int) - (off : Int) := IntWalk.i64_in _ (by omega)
  go_wp2
  go_quiet (fail)
  go_wp2
  go_ret
  exact ⟨ret_i64 (by omega), nq, rfl⟩
theorem clone_n (ao : Option Addr) (l : List Int) (n cap : Nat) (w : World) (hn : l.length = n) (hl : l.length ≤ 140737488351232)
    (hpos : 0 < l.length → ∃ ad, ao = some ad ∧ ∀ j v, (bs l)[j]? = some v → w.cell? (ad.add j) = some v) :
    Calls Try.prog 79 #[.slice ao n cap] w fun e w' => e = .returned (.slice (some ⟨w.heap.size, 0, none⟩) n n) ∧
      w'.heap[w.heap.size]? = some (.cells (bs l).toArray 5 (0, 0)) ∧ Below w.heap.size w w' := by
  subst hn; exact clone_any ao l cap w hl hpos
/-- The cells of a part of the Reader's bytes. -/
theorem Rst.part {w : World} {b g off last : Nat} {d : List Int} {err : Int} (h : Rst w b g d off last err) (s n : Nat) (a : Nat) (ha : s < d.length → a = s) :
    0 < ((d.drop s).take n).length → ∃ ad, (some (⟨g, a, none⟩ : Addr)) = some ad ∧ ∀ j v, (bs ((d.drop s).take n))[j]? = some v → w.cell? (ad.add j) = some v := by
  intro h0
  have hs : s < d.length := by
    rcases Nat.lt_or_ge s d.length with h1 | h1
    · exact h1
    · rw [List.drop_eq_nil_of_le h1] at h0; simp at h0
  obtain rfl := ha hs
  refine ⟨_, rfl, fun j v hv => ?_⟩
  have hp : (⟨g, a, none⟩ : Addr).add j = ⟨g, a + j, none⟩ := by unfold Addr.add; split <;> simp_all
  rw [hp, cell_of_row _ _ _ _ _ _ h.row]
  simp only [bs, List.map_take, List.map_drop, List.getElem?_take, List.getElem?_drop] at hv
  split at hv
  · simpa [bs] using hv
  · cases hv
theorem ret_slice {a b n : Nat} (h : a = b) : Ending.returned (.slice (some ⟨a, 0, none⟩) n n) = Ending.returned (.slice (some ⟨b, 0, none⟩) n n) := by rw [h]
theorem rbytes_end {w w2 w3 : World} {b g off off' : Nat} {d l : List Int} (R : RTo w w2 b g d off' off 0) (R3 : w3.heap[w2.heap.size]? = some (.cells (bs l).toArray 5 (0, 0)) ∧ Below w2.heap.size w2 w3) :
    Rst w3 b g d off' off 0 ∧ w3.heap[w.heap.size]? = some (.cells (bs l).toArray 5 (0, 0)) ∧ Kept (fun k => k = b) w w3 := by
  obtain ⟨r1, r2, r3⟩ := R
  obtain ⟨q1, q2⟩ := R3
  have hg := r1.glt
  have hb := r1.blt
  rw [r3] at q1
  refine ⟨r1.same (q2.block b hb) (q2.block g hg), q1, ⟨q2.os.trans r2.os, q2.tape.trans r2.tape, q2.output.trans r2.output, Nat.le_trans r2.size q2.size, fun q hq hS => (q2.block q (by omega)).trans (r2.block q hq hS)⟩⟩
theorem RTo.st {w w' : World} {b g off last : Nat} {d : List Int} {err : Int} (h : RTo w w' b g d off last err) : Rst w' b g d off last err := h.1
theorem part_q {w : World} {b g off last s n : Nat} {d q : List Int} {err : Int} (hq : q = (d.drop s).take n) (h : Rst w b g d off last err) :
    0 < q.length → ∃ ad, (some (⟨g, s, none⟩ : Addr)) = some ad ∧ ∀ j v, (bs q)[j]? = some v → w.cell? (ad.add j) = some v := by
  rw [hq]; exact h.part s n s (fun _ => rfl)
set_option maxHeartbeats 400000 in
theorem rtext_ok (b g off last k n : Nat) (d : List Int) (w : World) (h : Rst w b g d off last 0) (hd : decRun (d.drop off) = some (k, n)) :
    Calls Try.prog 76 #[.pointer (some ⟨b, 0, none⟩)] w fun e w' => e = .returned (.string (strOfNums ((d.drop (off + k)).take n))) ∧ RTo w w' b g d (off + k + n) off 0 := by
  obtain ⟨hd1, hd2⟩ := decRun_some hd
  obtain ⟨hb0, hb1, hb2, hb3⟩ := h.dec_bound hd1
  rw [List.length_drop] at hd2
  have hsm := h.small
  have c0 := h.c0
  have HC := hid_of (run_some b g off last k n d 0 w h hd)
  have H := hid_of h
  have hen : off + k + n ≤ d.length := by omega
  clear hd hd1 h
  have hpl : ((d.drop (off + k)).take n).length = n := by rw [List.length_take, List.length_drop]; omega
  have HPL := hid_of hpl
  clear hpl
  by_cases hs : off + k = d.length
  · have hn0 : n = 0 := by omega
    subst hn0
    have HS := hid_of hs
    have hi1 : d.length ≤ off + k := by omega
    clear hs
    go_enter Try.func76, Try.ntmps76
    go_wp2_with (first
      | (go_at_call 80; refine HC.out.mono ?_; rintro e w1 ⟨rfl, m, rfl⟩)
      | (go_at_call 81; refine (settle_ok b g off last (off + k + 0) d _ (H.out.drewN _) hen).mono ?_; rintro e w2 ⟨rfl, h2⟩; have R := hid_of h2.ofDrewN; have c0' := h2.1.c0; clear h2)
      | (with_reducible refine wpList_str _ rfl 46 9 _ rfl 5 Try.underlying46 Try.underlying5 Try.underlying9 _ [] _ rfl (fun h0 => by simp at h0) ?_))
    go_ret
    refine ⟨?_, R.out⟩
    simp
  · have hs1 : off + k < d.length := by omega
    clear hs
    go_enter Try.func76, Try.ntmps76
    obtain ⟨q, hq⟩ : ∃ q, q = (d.drop (off + k)).take n := ⟨_, rfl⟩
    have HQ := hid_of hq
    rw [← hq]
    rw [← hq] at HPL
    have HPN : Hid (q.length = off + k + n - (off + k)) := hid_of (by have := HPL.out; omega)
    clear hq
    go_wp2_with (first
      | (go_at_call 80; refine HC.out.mono ?_; rintro e w1 ⟨rfl, m, rfl⟩)
      | (go_at_call 81; refine (settle_ok b g off last (off + k + n) d _ (H.out.drewN _) hen).mono ?_; rintro e w2 ⟨rfl, h2⟩; have R := hid_of h2.ofDrewN; have c0' := h2.1.c0; clear h2)
      | (with_reducible refine wpList_str_n _ rfl 46 9 _ rfl 5 Try.underlying46 Try.underlying5 Try.underlying9 (some ⟨g, off + k, none⟩) q (off + k + n - (off + k)) (d.length - (off + k)) HPN.out rfl (part_q HQ.out (RTo.st R.out)) ?_))
    go_ret
    exact ⟨rfl, R.out⟩
set_option maxHeartbeats 400000 in
theorem rtext_bad (b g off last : Nat) (d : List Int) (w : World) (h : Rst w b g d off last 0) (hd : decRun (d.drop off) = none) :
    Calls Try.prog 76 #[.pointer (some ⟨b, 0, none⟩)] w fun e w' => e = .returned (.string (strOfNums [])) ∧ RTo w w' b g d off off 2 := by
  have HC := hid_of (run_none b g off last d 0 w h hd)
  have H := hid_of h
  clear hd h
  go_enter Try.func76, Try.ntmps76
  go_wp2_with (first
    | (go_at_call 80; refine HC.out.mono ?_; rintro e w1 ⟨rfl, m, rfl⟩)
    | (go_at_call 81; refine (settle_bad b g off last 0 d _ (H.out.drewN _)).mono ?_; rintro e w2 ⟨rfl, h2⟩; have R := hid_of h2.ofDrewN; clear h2))
  go_ret
  exact ⟨rfl, R.out⟩
set_option maxHeartbeats 400000 in
theorem rtext_dead (b g off last : Nat) (d : List Int) (w : World) (h : Rst w b g d off last 2) :
    Calls Try.prog 76 #[.pointer (some ⟨b, 0, none⟩)] w fun e w' => e = .returned (.string (strOfNums [])) ∧ RTo w w' b g d off last 2 := by
  have H := hid_of h
  rcases hd : decRun (d.drop off) with _ | ⟨k, n⟩
  · have HC := hid_of (run_none b g off last d 2 w h hd)
    clear hd h
    go_enter Try.func76, Try.ntmps76
    go_wp2_with (first
      | (go_at_call 80; refine HC.out.mono ?_; rintro e w1 ⟨rfl, m, rfl⟩)
      | (go_at_call 81; refine (settle_dead b g off last _ _ d _ (H.out.drewN _)).mono ?_; rintro e w2 ⟨rfl, h2⟩; have R := hid_of h2.ofDrewN; clear h2))
    go_ret
    exact ⟨rfl, R.out⟩
  · have HC := hid_of (run_some b g off last k n d 2 w h hd)
    clear hd h
    go_enter Try.func76, Try.ntmps76
    go_wp2_with (first
      | (go_at_call 80; refine HC.out.mono ?_; rintro e w1 ⟨rfl, m, rfl⟩)
      | (go_at_call 81; refine (settle_dead b g off last _ _ d _ (H.out.drewN _)).mono ?_; rintro e w2 ⟨rfl, h2⟩; have R := hid_of h2.ofDrewN; clear h2))
    go_ret
    exact ⟨rfl, R.out⟩
set_option maxHeartbeats 400000 in
theorem rbytes_ok (b g off last k n : Nat) (d : List Int) (w : World) (h : Rst w b g d off last 0) (hd : decRun (d.drop off) = some (k, n)) :
    Calls Try.prog 63 #[.pointer (some ⟨b, 0, none⟩)] w fun e w' => e = .returned (.slice (some ⟨w.heap.size, 0, none⟩) n n) ∧ Rst w' b g d (off + k + n) off 0 ∧
      w'.heap[w.heap.size]? = some (.cells (bs ((d.drop (off + k)).take n)).toArray 5 (0, 0)) ∧ Kept (fun k => k = b) w w' := by
  obtain ⟨hd1, hd2⟩ := decRun_some hd
  obtain ⟨hb0, hb1, hb2, hb3⟩ := h.dec_bound hd1
  rw [List.length_drop] at hd2
  have hsm := h.small
  have c0 := h.c0
  have HC := hid_of (run_some b g off last k n d 0 w h hd)
  have H := hid_of h
  have hen : off + k + n ≤ d.length := by omega
  clear hd hd1 h
  have hpl : ((d.drop (off + k)).take n).length = n := by rw [List.length_take, List.length_drop]; omega
  have HPL := hid_of hpl
  have HPM : Hid (((d.drop (off + k)).take n).length ≤ 140737488351232) := hid_of (by omega)
  clear hpl
  by_cases hs : off + k = d.length
  · have hn0 : n = 0 := by omega
    subst hn0
    have HS := hid_of hs
    have hi1 : d.length ≤ off + k := by omega
    clear hs
    go_enter Try.func63, Try.ntmps63
    go_wp2_with (first
      | (go_at_call 80; refine HC.out.mono ?_; rintro e w1 ⟨rfl, m, rfl⟩)
      | (go_at_call 81; refine (settle_ok b g off last (off + k + 0) d _ (H.out.drewN _) hen).mono ?_; rintro e w2 ⟨rfl, h2⟩; have R := hid_of h2.ofDrewN; have c0' := h2.1.c0; clear h2)
      | (go_at_call 79; refine (clone_n (some ⟨g, 0, none⟩) ((d.drop (off + k)).take 0) 0 0 w2 HPL.out HPM.out (fun h0 => by simp at h0)).mono ?_; rintro e w3 ⟨rfl, h3⟩; have R3 := hid_of h3; clear h3))
    go_ret
    obtain ⟨r1, r2, r3⟩ := rbytes_end R.out R3.out
    exact ⟨ret_slice R.out.2.2, r1, r2, r3⟩
  · have hs1 : off + k < d.length := by omega
    clear hs
    go_enter Try.func63, Try.ntmps63
    go_wp2_with (first
      | (go_at_call 80; refine HC.out.mono ?_; rintro e w1 ⟨rfl, m, rfl⟩)
      | (go_at_call 81; refine (settle_ok b g off last (off + k + n) d _ (H.out.drewN _) hen).mono ?_; rintro e w2 ⟨rfl, h2⟩; have R := hid_of h2.ofDrewN; have c0' := h2.1.c0; clear h2)
      | (go_at_call 79; refine (clone_n (some ⟨g, off + k, none⟩) ((d.drop (off + k)).take n) n (d.length - (off + k)) w2 HPL.out HPM.out (R.out.1.part (off + k) n (off + k) (fun _ => rfl))).mono ?_; rintro e w3 ⟨rfl, h3⟩; have R3 := hid_of h3; clear h3))
    go_ret
    obtain ⟨r1, r2, r3⟩ := rbytes_end R.out R3.out
    exact ⟨ret_slice R.out.2.2, r1, r2, r3⟩
set_option maxHeartbeats 400000 in
theorem rbytes_bad (b g off last : Nat) (d : List Int) (w : World) (h : Rst w b g d off last 0) (hd : decRun (d.drop off) = none) :
    Calls Try.prog 63 #[.pointer (some ⟨b, 0, none⟩)] w fun e w' => e = .returned (.slice none 0 0) ∧ RTo w w' b g d off off 2 := by
  have HC := hid_of (run_none b g off last d 0 w h hd)
  have H := hid_of h
  clear hd h
  go_enter Try.func63, Try.ntmps63
  go_wp2_with (first
    | (go_at_call 80; refine HC.out.mono ?_; rintro e w1 ⟨rfl, m, rfl⟩)
    | (go_at_call 81; refine (settle_bad b g off last 0 d _ (H.out.drewN _)).mono ?_; rintro e w2 ⟨rfl, h2⟩; have R := hid_of h2.ofDrewN; clear h2))
  go_ret
  exact ⟨rfl, R.out⟩
set_option maxHeartbeats 400000 in
theorem rbytes_dead (b g off last : Nat) (d : List Int) (w : World) (h : Rst w b g d off last 2) :
    Calls Try.prog 63 #[.pointer (some ⟨b, 0, none⟩)] w fun e w' => e = .returned (.slice none 0 0) ∧ RTo w w' b g d off last 2 := by
  have H := hid_of h
  rcases hd : decRun (d.drop off) with _ | ⟨k, n⟩
  · have HC := hid_of (run_none b g off last d 2 w h hd)
    clear hd h
    go_enter Try.func63, Try.ntmps63
    go_wp2_with (first
      | (go_at_call 80; refine HC.out.mono ?_; rintro e w1 ⟨rfl, m, rfl⟩)
      | (go_at_call 81; refine (settle_dead b g off last _ _ d _ (H.out.drewN _)).mono ?_; rintro e w2 ⟨rfl, h2⟩; have R := hid_of h2.ofDrewN; clear h2))
    go_ret
    exact ⟨rfl, R.out⟩
  · have HC := hid_of (run_some b g off last k n d 2 w h hd)
    clear hd h
    go_enter Try.func63, Try.ntmps63
    go_wp2_with (first
      | (go_at_call 80; refine HC.out.mono ?_; rintro e w1 ⟨rfl, m, rfl⟩)
      | (go_at_call 81; refine (settle_dead b g off last _ _ d _ (H.out.drewN _)).mono ?_; rintro e w2 ⟨rfl, h2⟩; have R := hid_of h2.ofDrewN; clear h2))
    go_ret
    exact ⟨rfl, R.out⟩
/-- The Reader in block b: at an offset, or dead. -/
def RS (w : World) (b g : Nat) (d : List Int) : Option Nat → Prop
  | some off => ∃ last, last ≤ d.length ∧ Rst w b g d off last 0
  | none => ∃ off last, Rst w b g d off last 2
/-- A step of the Reader. -/
def RT (w w' : World) (b g : Nat) (d : List Int) (s : Option Nat) : Prop := RS w' b g d s ∧ Kept (fun k => k = b) w w' ∧ w'.heap.size = w.heap.size
theorem rt_some {w w' : World} {b g off last : Nat} {d : List Int} (h : RTo w w' b g d off last 0) (hl : last ≤ d.length) : RT w w' b g d (some off) := ⟨⟨last, hl, h.1⟩, h.2⟩
theorem rt_none {w w' : World} {b g off last : Nat} {d : List Int} (h : RTo w w' b g d off last 2) : RT w w' b g d none := ⟨⟨off, last, h.1⟩, h.2⟩
def uR (d : List Int) : Option Nat → Nat × Option Nat
  | none => (0, none)
  | some off => match dec (d.drop off) with
    | some (n, k) => (n, some (off + k))
    | none => (0, none)
def tR (d : List Int) : Option Nat → List Int × Option Nat
  | none => ([], none)
  | some off => match decRun (d.drop off) with
    | some (k, n) => ((d.drop (off + k)).take n, some (off + k + n))
    | none => ([], none)
theorem uR_any (b g : Nat) (d : List Int) (s : Option Nat) (w : World) (h : RS w b g d s) :
    Calls Try.prog 77 #[.pointer (some ⟨b, 0, none⟩)] w fun e w' => e = .returned (.int .u64 (uR d s).1) ∧ RT w w' b g d (uR d s).2 := by
  cases s with
  | none =>
    obtain ⟨off, last, h⟩ := h
    exact (ruint_dead b g off last d w h).mono fun e w' ⟨he, h1⟩ => ⟨he, rt_none h1⟩
  | some off =>
    obtain ⟨last, hl, h⟩ := h
    cases hd : dec (d.drop off) with
    | none =>
      have e1 : uR d (some off) = (0, none) := by simp only [uR, hd]
      rw [e1]
      exact (ruint_bad b g off last d w h hd).mono fun e w' ⟨he, h1⟩ => ⟨he, rt_none h1⟩
    | some x =>
      obtain ⟨n, k⟩ := x
      have e1 : uR d (some off) = (n, some (off + k)) := by simp only [uR, hd]
      rw [e1]
      exact (ruint_ok b g off last n k d w h hd).mono fun e w' ⟨he, h1⟩ => ⟨he, rt_some h1 h.le⟩
theorem tR_any (b g : Nat) (d : List Int) (s : Option Nat) (w : World) (h : RS w b g d s) :
    Calls Try.prog 76 #[.pointer (some ⟨b, 0, none⟩)] w fun e w' => e = .returned (.string (strOfNums (tR d s).1)) ∧ RT w w' b g d (tR d s).2 := by
  cases s with
  | none =>
    obtain ⟨off, last, h⟩ := h
    exact (rtext_dead b g off last d w h).mono fun e w' ⟨he, h1⟩ => ⟨he, rt_none h1⟩
  | some off =>
    obtain ⟨last, hl, h⟩ := h
    cases hd : decRun (d.drop off) with
    | none =>
      have e1 : tR d (some off) = ([], none) := by simp only [tR, hd]
      rw [e1]
      exact (rtext_bad b g off last d w h hd).mono fun e w' ⟨he, h1⟩ => ⟨he, rt_none h1⟩
    | some x =>
      obtain ⟨k, n⟩ := x
      have e1 : tR d (some off) = ((d.drop (off + k)).take n, some (off + k + n)) := by simp only [tR, hd]
      rw [e1]
      exact (rtext_ok b g off last k n d w h hd).mono fun e w' ⟨he, h1⟩ => ⟨he, rt_some h1 h.le⟩
theorem uR_lt {w : World} {b g : Nat} {d : List Int} {s : Option Nat} (h : RS w b g d s) : (uR d s).1 < 18446744073709551616 := by
  cases s with
  | none => show 0 < _; omega
  | some off =>
    obtain ⟨last, hl, h⟩ := h
    cases hd : dec (d.drop off) with
    | none => simp only [uR, hd]; omega
    | some x => simp only [uR, hd]; exact (h.dec_bound hd).2.2.2
end Go.Proofs.Ytofmijebinnejaa.Wr

/- An encoding is read as its number. No condition. -/
namespace Go.Proofs.Ytofmijebinnejaa.Wr
open Go.RowKit

theorem decAt_enc : ∀ (k n i acc : Nat) (r : List Int), n ≤ k → i < 10 → n < 128 ^ (10 - i) → n * 128 ^ i < 18446744073709551616 → 0 < n ∨ i = 0 → decAt (10 - i) i acc (enc n ++ r) = some (acc + n * 128 ^ i, i + (enc n).length) := by
  intro k
  induction k with
  | zero =>
    intro n i acc r h1 h2 h3 h4 h5
    obtain rfl : n = 0 := by omega
    obtain rfl : i = 0 := by omega
    rw [enc_lt (by omega)]; rfl
  | succ k ih =>
    intro n i acc r h1 h2 h3 h4 h5
    by_cases hn : n < 128
    · rw [enc_lt hn, List.singleton_append, decAt_cons i acc _ _ h2, if_neg (by omega)]
      have hm : mayEnd i (n : Int) = true := by
        unfold mayEnd
        rcases h5 with h5 | h5
        · by_cases h9 : i < 9
          · simp [h9]; omega
          · obtain rfl : i = 9 := by omega
            have : (128 : Nat) ^ 9 = 9223372036854775808 := by decide
            simp; omega
        · simp [h5]
      rw [if_pos hm]
      simp
    · have hi : i + 1 < 10 := by
        rcases Nat.lt_or_ge (i + 1) 10 with h | h
        · exact h
        · obtain rfl : i = 9 := by omega
          simp at h3; omega
      rw [enc_ge hn, List.cons_append, decAt_cons i acc _ _ h2, if_pos (by omega)]
      have e1 : (((n % 128 + 128 : Nat) : Int) - 128).toNat = n % 128 := by omega
      have e2 : 128 ^ (i + 1) = 128 ^ i * 128 := Nat.pow_succ 128 i
      have e3 : n / 128 * 128 ^ (i + 1) + n % 128 * 128 ^ i = n * 128 ^ i := by
        rw [e2, Nat.mul_comm (128 ^ i) 128, ← Nat.mul_assoc, ← Nat.add_mul, show n / 128 * 128 + n % 128 = n by omega]
      rw [e1, ih (n / 128) (i + 1) _ r (by omega) hi ?_ (by omega) (by left; omega)]
      · have q1 : acc + n % 128 * 128 ^ i + n / 128 * 128 ^ (i + 1) = acc + n * 128 ^ i := by rw [← e3, Nat.add_assoc, Nat.add_comm (n % 128 * 128 ^ i)]
        have q2 : i + 1 + (enc (n / 128)).length = i + ((enc (n / 128)).length + 1) := by omega
        rw [q1, q2, List.length_cons]
      · have e4 : 10 - i = 10 - (i + 1) + 1 := by omega
        rw [e4, Nat.pow_succ] at h3
        exact Nat.div_lt_of_lt_mul (by rw [Nat.mul_comm]; exact h3)
theorem dec_enc (n : Nat) (r : List Int) (h : n < 18446744073709551616) : dec (enc n ++ r) = some (n, (enc n).length) := by
  have hp : (128 : Nat) ^ (10 - 0) = 1180591620717411303424 := by decide
  have := decAt_enc n n 0 0 r (Nat.le_refl _) (by omega) (by rw [hp]; omega) (by rw [Nat.pow_zero]; omega) (Or.inr rfl)
  rw [Nat.pow_zero, Nat.mul_one, Nat.zero_add, Nat.zero_add] at this
  exact this
end Go.Proofs.Ytofmijebinnejaa.Wr

/- Journals, as mathematics: streams, heads, what a region holds. No condition but sizes. -/
namespace Go.Proofs.Ytofmijebinnejaa
open Wr

/-- A record as it is written, a stream, and what is read back from an offset on (with fuel). -/
def recE (x : List Int) : List Int := enc x.length ++ x
def streamF (R : List (List Int)) : List Int := R.flatMap recE
def recsF (d : List Int) : Nat → Nat → Option (List (List Int))
  | 0, _ => none
  | f + 1, o => if o = d.length then some [] else match decRun (d.drop o) with
    | some (k, n) => (recsF d f (o + k + n)).map fun r => (d.drop (o + k)).take n :: r
    | none => none
def jnT : List Int := [106, 111, 117, 114, 110, 97, 108]
def headB (n : Nat) : List Int := enc 7 ++ (jnT ++ enc n)
def headF (sz n : Nat) : List Int := headB n ++ List.replicate (sz - (headB n).length) 0
/-- The list that a region holds, from its head and its area. -/
def holdsF (head area : List Int) : Option (List (List Int)) :=
  if head.all (· == 0) = true then some [] else match decRun head with
    | some (k, m) => if (head.drop k).take m = jnT then (match dec (head.drop (k + m)) with
      | some (n, k2) => if (head.drop (k + m + k2)).all (· == 0) = true ∧ n ≤ area.length then recsF (area.take n) (n + 1) 0 else none
      | none => none) else none
    | none => none
theorem decRun_enc (n : Nat) (r : List Int) (h : n < 18446744073709551616) (hn : n ≤ r.length) : decRun (enc n ++ r) = some ((enc n).length, n) := by
  unfold decRun
  rw [dec_enc n r h]
  simp only [List.length_append]
  first
    | rw [if_pos (by omega)]
    | (simp; omega)
theorem streamF_cons (x : List Int) (R : List (List Int)) : streamF (x :: R) = enc x.length ++ (x ++ streamF R) := by
  simp [streamF, recE]
theorem recs_stream : ∀ (R : List (List Int)) (pre : List Int) (f : Nat), (∀ x ∈ R, x.length < 18446744073709551616) → R.length < f → recsF (pre ++ streamF R) f pre.length = some R
  | [], pre, f, _, hf => by
    obtain ⟨f, rfl⟩ : ∃ g, f = g + 1 := ⟨f - 1, by simp at hf; omega⟩
    rw [recsF, if_pos (by simp [streamF])]
  | x :: R, pre, f, hx, hf => by
    obtain ⟨f, rfl⟩ : ∃ g, f = g + 1 := ⟨f - 1, by simp at hf; omega⟩
    have hp := enc_length_pos x.length
    have ih := recs_stream R (pre ++ enc x.length ++ x) f (fun y hy => hx y (by simp [hy])) (by simp at hf; omega)
    rw [recsF, if_neg (by rw [streamF_cons]; simp only [List.length_append]; omega)]
    have e1 : (pre ++ streamF (x :: R)).drop pre.length = enc x.length ++ (x ++ streamF R) := by rw [streamF_cons, List.drop_left]
    have e2 : (pre ++ streamF (x :: R)).drop (pre.length + (enc x.length).length) = x ++ streamF R := by
      rw [← List.drop_drop, e1, List.drop_left]
    rw [e1, decRun_enc _ _ (hx x (by simp)) (by simp)]
    simp only [e2]
    rw [List.take_left]
    rw [show pre ++ streamF (x :: R) = (pre ++ enc x.length ++ x) ++ streamF R by rw [streamF_cons]; simp [List.append_assoc]]
    rw [show pre.length + (enc x.length).length + x.length = (pre ++ enc x.length ++ x).length by simp only [List.length_append]]
    rw [ih]
    rfl
theorem stream_len : ∀ R : List (List Int), R.length ≤ (streamF R).length
  | [] => by simp
  | x :: R => by
    have h := stream_len R
    have hp := enc_length_pos x.length
    rw [streamF_cons]
    simp only [List.length_cons, List.length_append]
    omega
theorem all_zero (n : Nat) : (List.replicate n (0 : Int)).all (· == 0) = true := by simp
theorem holds_head {sz n : Nat} {area : List Int} (hn : n < 18446744073709551616) (ha : n ≤ area.length) : holdsF (headF sz n) area = recsF (area.take n) (n + 1) 0 := by
  have e7 : enc 7 = [7] := enc_lt (by omega)
  have hz : ¬ (headF sz n).all (· == 0) = true := by
    unfold headF headB
    rw [e7]
    simp
  have e1 : headF sz n = enc 7 ++ (jnT ++ (enc n ++ List.replicate (sz - (headB n).length) 0)) := by
    unfold headF
    rw [show headB n = enc 7 ++ (jnT ++ enc n) from rfl]
    simp [List.append_assoc]
  have e2 : decRun (headF sz n) = some (1, 7) := by
    rw [e1, decRun_enc 7 _ (by omega) (by simp [jnT]), e7]
    rfl
  have e3 : (headF sz n).drop 1 = jnT ++ (enc n ++ List.replicate (sz - (headB n).length) 0) := by
    rw [e1, e7]; rfl
  have e4 : (headF sz n).drop (1 + 7) = enc n ++ List.replicate (sz - (headB n).length) 0 := by
    rw [← List.drop_drop, e3]; rfl
  unfold holdsF
  rw [if_neg hz, e2]
  simp only []
  rw [if_pos (by rw [e3]; rfl), e4, dec_enc n _ hn]
  simp only []
  rw [if_pos ⟨by rw [← List.drop_drop, e4, List.drop_left]; exact all_zero _, ha⟩]
/-- A region whose area begins with the stream of R holds R, whatever lies behind. -/
theorem hold_stream {sz : Nat} {R : List (List Int)} {rest : List Int} (hx : ∀ x ∈ R, x.length < 18446744073709551616) (hn : (streamF R).length < 18446744073709551616) : holdsF (headF sz (streamF R).length) (streamF R ++ rest) = some R := by
  rw [holds_head hn (by simp), List.take_left]
  have h := recs_stream R [] ((streamF R).length + 1) hx (by have := stream_len R; omega)
  simpa using h
/-- A region of zeros holds nothing. -/
theorem hold_zero {n : Nat} {area : List Int} : holdsF (List.replicate n 0) area = some [] := by
  unfold holdsF
  rw [if_pos (all_zero n)]
/-- The greatest length of a record that fits: of the first j lengths. -/
def bestL (room : Nat) : Nat → Int
  | 0 => -1
  | k + 1 => if k + (enc k).length ≤ room then (k : Int) else bestL room k
def leftF (R : List (List Int)) (area : Nat) : Int := bestL (area - (streamF R).length) (area - (streamF R).length)
theorem bestL_lt (room : Nat) : ∀ j, bestL room j < j ∧ -1 ≤ bestL room j
  | 0 => by simp [bestL]
  | j + 1 => by
    have h := bestL_lt room j
    rw [bestL]
    split <;> constructor <;> omega
theorem bestL_fits (room : Nat) : ∀ (j k : Nat), bestL room j = k → k + (enc k).length ≤ room
  | 0, k, h => by simp [bestL] at h
  | j + 1, k, h => by
    rw [bestL] at h
    split at h
    · rename_i hf
      have e : j = k := by omega
      rw [← e]; exact hf
    · exact bestL_fits room j k h
theorem bestL_max (room : Nat) : ∀ (j k : Nat), bestL room j < k → k < j → ¬ k + (enc k).length ≤ room
  | 0, k, _, h2 => by omega
  | j + 1, k, h, h2 => by
    rw [bestL] at h
    split at h
    · omega
    · rename_i hf
      by_cases e : k = j
      · rw [e]; exact hf
      · exact bestL_max room j k h (by omega)
/-- What is longer than Left doesn't fit; what is as long does. -/
theorem left_max {R : List (List Int)} {area : Nat} (ha : (streamF R).length ≤ area) (x : List Int) (h : leftF R area < x.length) : area < (streamF (R ++ [x])).length := by
  have hp := enc_length_pos x.length
  have hs : (streamF (R ++ [x])).length = (streamF R).length + ((enc x.length).length + x.length) := by simp [streamF, recE]
  rw [hs]
  by_cases hr : x.length < area - (streamF R).length
  · have := bestL_max _ _ x.length h hr
    omega
  · omega
theorem left_fits {R : List (List Int)} {area : Nat} (ha : (streamF R).length ≤ area) (x : List Int) (h : leftF R area = x.length) : (streamF (R ++ [x])).length ≤ area := by
  have hs : (streamF (R ++ [x])).length = (streamF R).length + ((enc x.length).length + x.length) := by simp [streamF, recE]
  have := bestL_fits _ _ x.length h
  rw [hs]
  omega
theorem stream_append (R S : List (List Int)) : streamF (R ++ S) = streamF R ++ streamF S := by simp [streamF]
end Go.Proofs.Ytofmijebinnejaa

/- Text, Bytes of the Writer. Bounds on sizes. -/
namespace Go.Proofs.Ytofmijebinnejaa.Wr
open Go.RowKit

set_option maxHeartbeats 400000 in
theorem text_any (s : ByteArray) (b B : Nat) (v : Value) (l : List Int) (w : World) (h : Wst B b w v l) (hs : s.size ≤ 70000000000000) (hl : l.length ≤ 70000000000000) (hB : B ≤ w.heap.size) :
    Calls Try.prog 82 #[.pointer (some ⟨b, 0, none⟩), .string s] w fun e w' => e = .returned (.tuple #[]) ∧
      ∃ v', Wst B b w' v' (l ++ enc s.size ++ strBytes s) ∧ Kept (fun k => k = b ∨ v.ownBlock = some k) w w' ∧ (v'.ownBlock = v.ownBlock ∨ ∀ g, v'.ownBlock = some g → w.heap.size ≤ g) := by
  obtain ⟨i0, hi, hz0, hz1, hz2⟩ := info_parts Try.infoU8
  have hbl := lt_of_block h.blk
  have hel := enc_length_10 s.size (by omega)
  go_enter Try.func82, Try.ntmps82
  go_wp2_with (first
    | (go_at_call 66; refine (uint_any s.size b B v l w (by omega) h (by omega) hB).mono ?_; rintro e w1 ⟨rfl, v1, h1, hk1, ho1⟩; have c0 := cell_of_one h1.blk; have c1 := free_of_one h1.blk; have H1 := hid_of h1; have HK1 := hid_of hk1; have HO1 := hid_of ho1; have hBw : B ≤ w1.heap.size := Nat.le_trans hB hk1.size; clear h1 hk1 ho1)
    | (at_builtin; with_reducible refine wpList_append_src _ rfl _ _ 46 9 rfl B 5 i0 (.int .u8 0) 1 1 Try.underlying46 hi hz0 hz1 hz2 rfl (by decide) v1 (l ++ enc s.size).length (bs (l ++ enc s.size)) rfl H1.out.own (.string s) s.size (bs (strBytes s)) rfl (src_str s _) (by rw [List.length_append]; unfold maxLen; omega) (by rw [List.length_append]; omega) hBw ?_
       intro v2 w2 hown2 hg2 _ hat2
       have k0 : w2.cell? ⟨b, 0, none⟩ = some v1 := (hg2.cell_far ⟨b, 0, none⟩ (lt_of_block H1.out.blk) (Ne.symm H1.out.ne)).trans c0
       have k1 : w2.frozen? ⟨b, 0, none⟩ = false := (hg2.frozen_far ⟨b, 0, none⟩ (lt_of_block H1.out.blk) (Ne.symm H1.out.ne)).trans c1
       have R := hid_of (wst_store (l2 := l ++ enc s.size ++ strBytes s) H1.out (by rw [bs_append _ (strBytes s)]; exact hown2) (by simp [strBytes_length, Nat.add_assoc]) hg2 hat2)
       obtain ⟨ao, cap, rfl⟩ := own_shape hown2
       clear hown2 hg2 hat2 c0 c1))
  go_end0
  obtain ⟨R1, R2, R3⟩ := R.out
  simp only [List.length_append] at R1 R2 R3
  have ho1 := HO1.out
  have hk1 := HK1.out
  exact ⟨rfl, _, R1, kept_two hk1 R2 ho1, own_two hk1.size ho1 R3⟩
set_option maxHeartbeats 400000 in
theorem bytes_any (ao : Option Addr) (m : List Int) (cap : Nat) (b B : Nat) (v : Value) (l : List Int) (w : World) (h : Wst B b w v l) (hs : m.length ≤ 70000000000000) (hl : l.length ≤ 70000000000000) (hB : B ≤ w.heap.size)
    (hsrc1 : ∀ w1, Kept (fun k => k = b ∨ v.ownBlock = some k) w w1 → Src Try.prog 1 46 (.slice ao m.length cap) m.length (bs m) w1) :
    Calls Try.prog 71 #[.pointer (some ⟨b, 0, none⟩), .slice ao m.length cap] w fun e w' => e = .returned (.tuple #[]) ∧
      ∃ v', Wst B b w' v' (l ++ enc m.length ++ m) ∧ Kept (fun k => k = b ∨ v.ownBlock = some k) w w' ∧ (v'.ownBlock = v.ownBlock ∨ ∀ g, v'.ownBlock = some g → w.heap.size ≤ g) := by
  obtain ⟨i0, hi, hz0, hz1, hz2⟩ := info_parts Try.infoU8
  have hbl := lt_of_block h.blk
  have hel := enc_length_10 m.length (by omega)
  have HS1 := hid_of hsrc1
  clear hsrc1
  go_enter Try.func71, Try.ntmps71
  go_wp2_with (first
    | (go_at_call 66; refine (uint_any m.length b B v l w (by omega) h (by omega) hB).mono ?_; rintro e w1 ⟨rfl, v1, h1, hk1, ho1⟩; have c0 := cell_of_one h1.blk; have c1 := free_of_one h1.blk; have H1 := hid_of h1; have HK1 := hid_of hk1; have HO1 := hid_of ho1; have hBw : B ≤ w1.heap.size := Nat.le_trans hB hk1.size; clear h1 hk1 ho1)
    | (at_builtin; with_reducible refine wpList_append_src _ rfl _ _ 46 46 rfl B 5 i0 (.int .u8 0) 1 1 Try.underlying46 hi hz0 hz1 hz2 rfl (by decide) v1 (l ++ enc m.length).length (bs (l ++ enc m.length)) rfl H1.out.own (.slice ao m.length cap) m.length (bs m) rfl (HS1.out _ HK1.out) (by rw [List.length_append]; unfold maxLen; omega) (by rw [List.length_append]; omega) hBw ?_
       intro v2 w2 hown2 hg2 _ hat2
       have k0 : w2.cell? ⟨b, 0, none⟩ = some v1 := (hg2.cell_far ⟨b, 0, none⟩ (lt_of_block H1.out.blk) (Ne.symm H1.out.ne)).trans c0
       have k1 : w2.frozen? ⟨b, 0, none⟩ = false := (hg2.frozen_far ⟨b, 0, none⟩ (lt_of_block H1.out.blk) (Ne.symm H1.out.ne)).trans c1
       have R := hid_of (wst_store (l2 := l ++ enc m.length ++ m) H1.out (by rw [bs_append _ m]; exact hown2) (by simp [Nat.add_assoc]) hg2 hat2)
       obtain ⟨ao2, cap2, rfl⟩ := own_shape hown2
       clear hown2 hg2 hat2 c0 c1))
  go_end0
  obtain ⟨R1, R2, R3⟩ := R.out
  simp only [List.length_append] at R1 R2 R3
  have ho1 := HO1.out
  have hk1 := HK1.out
  exact ⟨rfl, _, R1, kept_two hk1 R2 ho1, own_two hk1.size ho1 R3⟩
theorem text_ws (s : ByteArray) (b B : Nat) (l : List Int) (w0 w : World) (hs : s.size ≤ 70000000000000) (h : WS B b w0 w l) (hl : l.length ≤ 70000000000000) :
    Calls Try.prog 82 #[.pointer (some ⟨b, 0, none⟩), .string s] w fun e w' => e = .returned (.tuple #[]) ∧ WS B b w0 w' (l ++ enc s.size ++ strBytes s) := by
  have hB := h.size
  obtain ⟨h1, h2, h3, v, hv⟩ := h
  exact (text_any s b B v l w hv hs hl hB).mono fun e w' ⟨he, v', hv', hk, _⟩ => ⟨he, WS.step h1 h2 h3 hv hv' hk⟩
theorem bytes_ws (ao : Option Addr) (m : List Int) (cap : Nat) (b B : Nat) (l : List Int) (w0 w : World) (h : WS B b w0 w l) (hs : m.length ≤ 70000000000000) (hl : l.length ≤ 70000000000000)
    (hsrc : ∀ w1, Below B w w1 → Src Try.prog 1 46 (.slice ao m.length cap) m.length (bs m) w1) :
    Calls Try.prog 71 #[.pointer (some ⟨b, 0, none⟩), .slice ao m.length cap] w fun e w' => e = .returned (.tuple #[]) ∧ WS B b w0 w' (l ++ enc m.length ++ m) := by
  have hB := h.size
  obtain ⟨h1, h2, h3, v, hv⟩ := h
  exact (bytes_any ao m cap b B v l w hv hs hl hB fun w1 hk => hsrc w1 (hk.below hB fun k hk2 => hk2.elim (fun e => by omega) (fun e => (hv.own.lt k e).1))).mono fun e w' ⟨he, v', hv', hk, _⟩ => ⟨he, WS.step h1 h2 h3 hv hv' hk⟩
end Go.Proofs.Ytofmijebinnejaa.Wr

/- Slices of elements of one cell: what a slice reads as, a slice of the call's own, append of the one onto the other. Bounds on sizes alone. -/
namespace Go.Proofs.Ytofmijebinnejaa
open Go.RowKit

theorem hid_of {p : Prop} (h : p) : Hid p := h
theorem bel_alloc (w : World) (o : Obj) : Below w.heap.size w (w.alloc o) := (Below.refl _ _).alloc (Nat.le_refl _) o
theorem bel_fst {w w' : World} {o : Obj} (h : Below (w.alloc o).heap.size (w.alloc o) w') : Below w.heap.size w w' :=
  (bel_alloc w o).trans (h.mono (by simp))

theorem bel_drewN {B : Nat} {w w' : World} (h : Below B w w') (n : Nat) : Below B w (w'.drewN n) := ⟨h.os, h.tape, h.output, h.size, h.block⟩
/-- A slice type S over an element type E of one cell. -/
structure Elem (P : Program) (S E : TypeId) (z : Value) (eb : Nat) : Prop where
  und : P.underlying S = some (.slice E)
  info : (P.info? E).map (fun i => (i.zero, i.size, i.bytes)) = some (some z, 1, eb)
  one : z.cells.size = 1

/-- The slice v reads as the cells xs. -/
def Rd (w : World) (v : Value) (xs : List Value) : Prop :=
  ∃ ao cap, v = .slice ao xs.length cap ∧ xs.length ≤ cap ∧ cap ≤ 9223372036854775807 ∧ (0 < xs.length → ∃ g o, ao = some ⟨g, o, none⟩ ∧ g < w.heap.size ∧ ∀ j u, xs[j]? = some u → w.cell? ⟨g, o + j, none⟩ = some u)
theorem Rd.later {w w' : World} {v : Value} {l : List Value} {B : Nat} (h : Rd w v l) (hb : Below B w w') (hB : w.heap.size ≤ B) : Rd w' v l := by
  obtain ⟨ao, cap, h1, h2, h3, h4⟩ := h
  refine ⟨ao, cap, h1, h2, h3, fun h0 => ?_⟩
  obtain ⟨g, o, q1, q2, q3⟩ := h4 h0
  exact ⟨g, o, q1, Nat.lt_of_lt_of_le q2 hb.size, fun j u hu => (hb.cell (p := ⟨g, o + j, none⟩) (by show g < B; omega)).trans (q3 j u hu)⟩
theorem Rd.at {w w' : World} {v : Value} {l : List Value} (h : Rd w v l) (hb : Below w.heap.size w w') : Rd w' v l := h.later hb (Nat.le_refl _)

theorem spot_none {w : World} {x : Addr} {u : Value} (h : w.cell? x = some u) : x = ⟨x.block, x.off, none⟩ := by
  obtain ⟨b, o, s⟩ := x
  cases s with
  | none => rfl
  | some s =>
    exfalso
    unfold World.cell? at h
    split at h <;> simp at h

/-- What the walk is told of a slice of integers that came in. -/
def IsRow (k : IntKind) (w : World) (a : Option Addr) (len cap : Nat) (zs : List Int) : Prop :=
  (a = none ∧ len = 0 ∧ cap = 0 ∧ zs = []) ∨
  ∃ x, a = some x ∧ len ≤ cap ∧ cap ≤ maxLen ∧ zs.length = cap ∧ (∀ i, i < zs.length → w.cell? (x.add i) = some (.int k (zs.getD i 0))) ∧ ∀ n ∈ zs, (Lit.int k n).wf = true

/-- A row of integers that came in, as a list. -/
theorem IsRow.rd {k : IntKind} {w : World} {a : Option Addr} {len cap : Nat} {zs : List Int} (h : IsRow k w a len cap zs) :
    ∃ l : List Int, l.length = len ∧ (∀ y ∈ l, (Lit.int k y).wf = true) ∧ Rd w (.slice a len cap) (l.map (Value.int k)) := by
  rcases h with ⟨rfl, rfl, rfl, rfl⟩ | ⟨x, rfl, h1, h2, h3, h4, h5⟩
  · exact ⟨[], rfl, by simp, none, 0, rfl, by simp, by omega, fun h => by simp at h⟩
  · unfold maxLen at h2
    have htl : (zs.take len).length = len := by rw [List.length_take]; omega
    refine ⟨zs.take len, htl, fun y hy => h5 y (List.mem_of_mem_take hy), some x, cap, by rw [List.length_map, htl], by rw [List.length_map]; omega, by omega, fun h0 => ?_⟩
    rw [List.length_map, htl] at h0
    have h6 := h4 0 (by omega)
    rw [show x.add 0 = x by rfl] at h6
    have hx := spot_none h6
    refine ⟨x.block, x.off, by rw [← hx], World.block_lt_of_cell? w _ h6, fun j u hu => ?_⟩
    have hj : j < len := by
      have := (List.getElem?_eq_some_iff.1 hu).1
      simp at this; omega
    have h7 := h4 j (by omega)
    rw [hx, Addr.add_mid] at h7
    rw [h7]
    simp only [List.getElem?_map, List.getElem?_take, hj, if_true] at hu
    rw [List.getElem?_eq_getElem (by omega)] at hu
    simp only [Option.map_some, Option.some.injEq] at hu
    rw [← hu]
    simp [List.getD, show j < zs.length by omega]

theorem Rd.srcs {P : Program} {S E : TypeId} {z : Value} {eb : Nat} (T : Elem P S E z eb) {w : World} {v : Value} {l : List Value} (h : Rd w v l) (h1 : ∀ u ∈ l, u.oneCell' = true) : Src P 1 S v l.length l w := by
  obtain ⟨ao, cap, rfl, h2, h3, h4⟩ := h
  cases ao with
  | none =>
    cases l with
    | nil => exact Src.ofNil _ T.und cap
    | cons x r => obtain ⟨g, o, q, _⟩ := h4 (by simp); cases q
  | some a =>
    refine Src.ofSlice _ T.und a l.length cap l (by simp) (fun j u hu => ?_) h1
    have h0 : 0 < l.length := by
      have := (List.getElem?_eq_some_iff.1 hu).1
      omega
    obtain ⟨g, o, q1, q2, q3⟩ := h4 h0
    cases q1
    rw [Addr.add_mid]; exact q3 j u hu

theorem own_shape {w : World} {base e size n : Nat} {v : Value} {xs : List Value} (h : w.ownsRow base e size v n xs) : ∃ ao cap, v = .slice ao n cap := by
  rcases h.2 with ⟨h1, h2⟩ | ⟨g, cap, cur, h1, _⟩
  · exact ⟨none, 0, by rw [h1, h2]⟩
  · exact ⟨_, cap, h1⟩

/-- A slice of the call's own that holds l; below B the world is as w0 was. -/
def Ow (E : TypeId) (B : Nat) (w0 w : World) (v : Value) (l : List Value) : Prop := B ≤ w0.heap.size ∧ Below B w0 w ∧ w.ownsRow B E 1 v l.length l
section
variable {E : TypeId} {B : Nat} {w0 w w' : World} {v : Value} {l : List Value}
theorem Ow.size (h : Ow E B w0 w v l) : B ≤ w.heap.size := Nat.le_trans h.1 h.2.1.size
theorem Ow.own (h : Ow E B w0 w v l) : w.ownsRow B E 1 v l.length l := h.2.2
theorem Ow.bel (h : Ow E B w0 w v l) : Below B w0 w := h.2.1
theorem Ow.alloc (h : Ow E B w0 w v l) (o : Obj) : Ow E B w0 (w.alloc o) v l := ⟨h.1, h.2.1.alloc h.size _, h.2.2.alloc o⟩
theorem Ow.drew (h : Ow E B w0 w v l) : Ow E B w0 w.drew v l := ⟨h.1, h.2.1.drew, h.2.2.drew⟩
theorem Ow.app {n : Nat} {v' : Value} {m : List Value} (h : Ow E B w0 w v l) (hown : w'.ownsRow B E 1 v' n (l ++ m)) (hn : n = l.length + m.length) (hg : w.grownBy w' v.ownBlock) : Ow E B w0 w' v' (l ++ m) := by
  subst hn
  refine ⟨h.1, h.2.1.grown hg h.size (fun k hk => (h.own.lt k hk).1), ?_⟩
  rw [List.length_append]
  exact hown
/-- What is owned stays owned where the row's block is as it was. -/
theorem own_same {w w' : World} {base e size n : Nat} {v : Value} {xs : List Value} (h : w.ownsRow base e size v n xs) (hs : ∀ k, v.ownBlock = some k → w'.heap[k]? = w.heap[k]?) : w'.ownsRow base e size v n xs := by
  obtain ⟨h1, h2⟩ := h
  refine ⟨h1, ?_⟩
  rcases h2 with h2 | ⟨g, cap, cur, hv, hb, hg, r⟩
  · exact .inl h2
  · exact .inr ⟨g, cap, cur, hv, hb, (hs g (by rw [hv]; rfl)).trans hg, r⟩
theorem Ow.later (h : Ow E B w0 w v l) (hb : Below w.heap.size w w') : Ow E B w0 w' v l :=
  ⟨h.1, h.2.1.trans (hb.mono h.size), own_same h.own fun k hk => hb.block k (h.own.lt k hk).2⟩
theorem ow_made {n g : Nat} (hown : w'.ownsRow w.heap.size E 1 (.slice (some ⟨g, 0, none⟩) 0 n) 0 []) (hgrow : w.grownBy w' none) : Ow E w.heap.size w w' (.slice (some ⟨g, 0, none⟩) 0 n) [] :=
  ⟨Nat.le_refl _, (Below.refl _ _).grown hgrow (Nat.le_refl _) (fun k h => by cases h), hown⟩
theorem ow_empty (E : TypeId) (w : World) : Ow E w.heap.size w (w.alloc (.cells #[] E)) (.slice (some ⟨w.heap.size, 0, none⟩) 0 0) [] :=
  ⟨Nat.le_refl _, bel_alloc w _, rfl, .inr ⟨w.heap.size, 0, #[], rfl, Nat.le_refl _, heap_alloc_new w _, Nat.le_refl _, by unfold maxLen; omega, rfl, rfl⟩⟩
theorem ow_nil (E : TypeId) (w : World) : Ow E w.heap.size w w (.slice none 0 0) [] := ⟨Nat.le_refl _, Below.refl _ _, World.ownsRow_nil _ _ _ _⟩
theorem Ow.start (h : Ow E B w0 w v l) {B2 : Nat} {w2 : World} (hB : B2 ≤ w2.heap.size) (hb : Below B2 w2 w0) (hle : B2 ≤ B) : Ow E B2 w2 w v l := by
  refine ⟨hB, hb.trans (h.bel.mono hle), h.own.1, ?_⟩
  rcases h.own.2 with h2 | ⟨g, cap, cur, hv, hb2, hg, r⟩
  · exact .inl h2
  · exact .inr ⟨g, cap, cur, hv, Nat.le_trans hle hb2, hg, r⟩
theorem Ow.rd (h : Ow E B w0 w v l) (_hl : l.length ≤ 140737488355328) : Rd w v l := by
  rcases h.own.2 with ⟨h1, h2⟩ | ⟨g, c, cur, h1, _, hg, hnc, hcm, _, ht⟩
  · exact ⟨none, 0, by rw [h1, h2], by omega, by omega, fun h => by omega⟩
  · unfold maxLen at hcm
    refine ⟨_, _, h1, hnc, by omega, fun h0 => ⟨g, 0, rfl, lt_of_block hg, fun j u hu => ?_⟩⟩
    have := World.news_of_block hg j u (by
      rw [← ht, List.getElem?_take] at hu
      split at hu
      · exact hu
      · cases hu)
    rw [Addr.add_mid] at this
    exact this
end

/-- A slice over a block that was made last. -/
theorem rd_new {w : World} {l : List Value} {n : Nat} {cs : Array Value} {E : TypeId} {m : Nat × Nat} (hn : n = l.length) (hc : cs = l.toArray) (h : l.length ≤ 9223372036854775807) : Rd (w.alloc (.cells cs E m)) (.slice (some ⟨w.heap.size, 0, none⟩) n n) l := by
  subst hn hc
  refine ⟨_, _, rfl, Nat.le_refl _, h, fun _ => ⟨_, _, rfl, by simp, fun j u hu => ?_⟩⟩
  have := World.news_of_block (heap_alloc_new w (.cells l.toArray E m)) j u (by simpa using hu)
  rw [Addr.add_mid] at this
  exact this

/-- append of a row. -/
theorem wpList_app {P : Program} {S E : TypeId} {z : Value} {eb : Nat} (T : Elem P S E z eb) {ops : Array Oper} {rest : List Oper} {o : Oper} {a : Act} {w : World} {Q : Exit → Act → World → Prop} (hgd : o.guard = none) (s x : Operand)
    (ho : o.op = .call { callee := .builtin .append, args := #[s, x], argTypes := #[S, S] })
    {B : Nat} {w0 : World} {v : Value} {l : List Value} (hv : a.eval s = v) (H : Ow E B w0 w v l) {vx : Value} {m : List Value} (hx : a.eval x = vx) (L : Rd w vx m) (h1 : ∀ u ∈ m, u.oneCell' = true) (hl : (l.length + m.length) * eb ≤ 140737488355328) (hl2 : l.length + m.length ≤ 140737488355328)
    (h : ∀ (ao : Option Addr) (n cap : Nat) (w' : World), n = l.length + m.length → Ow E B w0 w' (.slice ao n cap) (l ++ m) → wpList P ops Q rest (a.put o.dst (.slice ao n cap)) w') :
    wpList P ops Q (o :: rest) a w := by
  obtain ⟨i0, hi, hz0, hz1, hz2⟩ := info_parts T.info
  refine wpList_append_src _ hgd s x S S ho B E i0 z 1 eb T.und hi hz0 hz1 hz2 T.one (by decide) v l.length l hv H.own vx m.length m hx (L.srcs T h1) (by unfold maxLen; omega) (by omega) H.size ?_
  intro v2 w2 hown hg _ _
  have H2 := H.app hown rfl hg
  obtain ⟨ao, cap, rfl⟩ := own_shape hown
  exact h ao _ cap w2 rfl H2

/-- Between w and w' nothing has turned but the blocks of S and new ones. -/
structure Kept (S : Nat → Prop) (w w' : World) : Prop where
  os : w'.os = w.os
  tape : w'.tape = w.tape
  output : w'.output = w.output
  size : w.heap.size ≤ w'.heap.size
  block : ∀ k, k < w.heap.size → ¬ S k → w'.heap[k]? = w.heap[k]?
theorem Kept.below {S : Nat → Prop} {w w' : World} {B : Nat} (h : Kept S w w') (hB : B ≤ w.heap.size) (hS : ∀ k, S k → B ≤ k) : Below B w w' :=
  ⟨h.os, h.tape, h.output, h.size, fun k hk => h.block k (by omega) (fun hs => by have := hS k hs; omega)⟩
theorem Kept.drew {S : Nat → Prop} {w w' : World} (h : Kept S w w') : Kept S w w'.drew := ⟨h.os, h.tape, h.output, h.size, h.block⟩
theorem Kept.drewN {S : Nat → Prop} {w w' : World} (h : Kept S w w') (n : Nat) : Kept S w (w'.drewN n) := ⟨h.os, h.tape, h.output, h.size, h.block⟩
theorem Kept.refl (S : Nat → Prop) (w : World) : Kept S w w := ⟨rfl, rfl, rfl, Nat.le_refl _, fun _ _ _ => rfl⟩
theorem Kept.trans {S : Nat → Prop} {w w1 w2 : World} (h : Kept S w w1) (h2 : Kept S w1 w2) : Kept S w w2 :=
  ⟨h2.os.trans h.os, h2.tape.trans h.tape, h2.output.trans h.output, Nat.le_trans h.size h2.size, fun k h1 hs => (h2.block k (Nat.lt_of_lt_of_le h1 h.size) hs).trans (h.block k h1 hs)⟩
theorem Kept.ofBelow {S : Nat → Prop} {w w' : World} (h : Below w.heap.size w w') : Kept S w w' := ⟨h.os, h.tape, h.output, h.size, fun k h1 _ => h.block k h1⟩
theorem Kept.set (w : World) (b o : Nat) (v : Value) : Kept (fun k => k = b) w (w.setCell ⟨b, o, none⟩ v) :=
  ⟨rfl, rfl, rfl, by simp, fun k _ hk => Below.heap_setCell _ _ _ _ hk⟩

theorem blk_setCell {w : World} {g k t : Nat} {cur : List Value} {u : Value} (h : w.heap[g]? = some (.cells cur.toArray t (0, 0))) :
    (w.setCell ⟨g, k, none⟩ u).heap[g]? = some (.cells (cur.set k u).toArray t (0, 0)) := by
  have hlt := lt_of_block h
  have h' : w.heap[g] = .cells cur.toArray t (0, 0) := by simpa [Array.getElem?_eq_getElem hlt] using h
  show (w.heap.modify g _)[g]? = _
  rw [Array.getElem?_eq_getElem (by simpa using hlt), Array.getElem_modify_self, h']
  simp

/-- What make has laid, as a whole block. -/
theorem made_row {w : World} {B g e n : Nat} {z : Value} {xs : List Value} (h : w.ownsRow B e 1 (.slice (some ⟨g, 0, none⟩) n n) n xs) (hx : xs = (madeCells #[z] n).toList := by (first | rfl | simp)) :
    w.heap[g]? = some (.cells (List.replicate n z).toArray e (0, 0)) := by
  obtain ⟨hn0, hn1⟩ := h
  rcases hn1 with ⟨h, _⟩ | ⟨g, cap', cur, h, _, hg, _, _, hsz, ht⟩
  · cases h
  · cases h
    rw [hg]
    have e : cur.toList = (madeCells #[z] n).toList := by
      rw [← hx, ← ht, List.take_of_length_le (by simp [hsz])]
    rw [toList_madeCells_one] at e
    rw [← e]
end Go.Proofs.Ytofmijebinnejaa

/- Rows of structs of two cells: what a slice reads as, a slice of the call's own, append. Bounds on sizes alone. -/
namespace Go.Proofs.Ytofmijebinnejaa
open Go.RowKit

abbrev PV := Value × Value
/-- The cells of a list of pairs. -/
def prs (l : List PV) : List Value := l.flatMap fun t => [t.1, t.2]
theorem prs_length (l : List PV) : (prs l).length = l.length * 2 := by
  induction l with
  | nil => rfl
  | cons t r ih => simp only [prs, List.flatMap_cons, List.length_append, List.length_cons, List.length_nil] at ih ⊢; omega
theorem prs_append (a b : List PV) : prs (a ++ b) = prs a ++ prs b := by simp [prs]
theorem prs_get : ∀ (l : List PV) (i : Nat) (t : PV), l[i]? = some t → (prs l)[i * 2]? = some t.1 ∧ (prs l)[i * 2 + 1]? = some t.2 := by
  intro l
  induction l with
  | nil => intro i t h; simp at h
  | cons s r ih =>
    intro i t h
    cases i with
    | zero => simp at h; subst h; exact ⟨rfl, rfl⟩
    | succ i =>
      have h1 := ih i t (by simpa using h)
      have e : prs (s :: r) = s.1 :: s.2 :: prs r := rfl
      rw [e, show (i + 1) * 2 = i * 2 + 1 + 1 by omega]
      exact h1
/-- The slice v reads as the pairs l. -/
def PRd (w : World) (v : Value) (l : List PV) : Prop :=
  ∃ ao cap, v = .slice ao l.length cap ∧ l.length ≤ cap ∧ cap ≤ 9223372036854775807 ∧ (0 < l.length → ∃ g o, ao = some ⟨g, o, none⟩ ∧ g < w.heap.size ∧ ∀ i t, l[i]? = some t → w.cell? ⟨g, o + i * 2, none⟩ = some t.1 ∧ w.cell? ⟨g, o + i * 2 + 1, none⟩ = some t.2)
theorem PRd.later {w w' : World} {v : Value} {l : List PV} {B : Nat} (h : PRd w v l) (hb : Below B w w') (hB : w.heap.size ≤ B) : PRd w' v l := by
  obtain ⟨ao, cap, h1, h2, h3, h4⟩ := h
  refine ⟨ao, cap, h1, h2, h3, fun h0 => ?_⟩
  obtain ⟨g, o, q1, q2, q3⟩ := h4 h0
  refine ⟨g, o, q1, Nat.lt_of_lt_of_le q2 hb.size, fun i t ht => ?_⟩
  obtain ⟨r1, r2⟩ := q3 i t ht
  exact ⟨(hb.cell (p := ⟨g, o + i * 2, none⟩) (by show g < B; omega)).trans r1, (hb.cell (p := ⟨g, o + i * 2 + 1, none⟩) (by show g < B; omega)).trans r2⟩
theorem PRd.at {w w' : World} {v : Value} {l : List PV} (h : PRd w v l) (hb : Below w.heap.size w w') : PRd w' v l := h.later hb (Nat.le_refl _)
theorem prd_nil (w : World) : PRd w (.slice none 0 0) [] := ⟨none, 0, rfl, Nat.le_refl _, by omega, fun h => by simp at h⟩
theorem PRd.cut {w : World} {ao : Option Addr} {n cap : Nat} {l : List PV} (h : PRd w (.slice ao n cap) l) : n = l.length ∧ n ≤ cap ∧ cap ≤ 9223372036854775807 := by
  obtain ⟨_, _, e, h2, h3, _⟩ := h
  simp only [Value.slice.injEq] at e
  omega
theorem PRd.get {w : World} {ao : Option Addr} {n cap : Nat} {l : List PV} (h : PRd w (.slice ao n cap) l) {i : Nat} {t : PV} (hi : l[i]? = some t) : ∃ g o, ao = some ⟨g, o, none⟩ ∧ w.cell? ⟨g, o + i * 2, none⟩ = some t.1 ∧ w.cell? ⟨g, o + i * 2 + 1, none⟩ = some t.2 := by
  obtain ⟨_, _, e, h2, h3, h4⟩ := h
  simp only [Value.slice.injEq] at e
  obtain ⟨rfl, _, rfl⟩ := e
  obtain ⟨g, o, q1, _, q3⟩ := h4 (by have := (List.getElem?_eq_some_iff.1 hi).1; omega)
  exact ⟨g, o, q1, q3 i t hi⟩

/-- A slice of the call's own that holds l; below B the world is as w0 was. -/
def OP (E : TypeId) (B : Nat) (w0 w : World) (v : Value) (l : List PV) : Prop := B ≤ w0.heap.size ∧ Below B w0 w ∧ w.ownsRow B E 2 v l.length (prs l)
section
variable {E : TypeId} {B : Nat} {w0 w w' : World} {v : Value} {l : List PV}
theorem OP.size (h : OP E B w0 w v l) : B ≤ w.heap.size := Nat.le_trans h.1 h.2.1.size
theorem OP.own (h : OP E B w0 w v l) : w.ownsRow B E 2 v l.length (prs l) := h.2.2
theorem OP.bel (h : OP E B w0 w v l) : Below B w0 w := h.2.1
theorem OP.app {n : Nat} {v' : Value} {m : List PV} (h : OP E B w0 w v l) (hown : w'.ownsRow B E 2 v' n (prs l ++ prs m)) (hn : n = l.length + m.length) (hg : w.grownBy w' v.ownBlock) : OP E B w0 w' v' (l ++ m) := by
  subst hn
  refine ⟨h.1, h.2.1.grown hg h.size (fun k hk => (h.own.lt k hk).1), ?_⟩
  rw [List.length_append, prs_append]
  exact hown
theorem own_same2 {w w' : World} {base e size n : Nat} {v : Value} {xs : List Value} (h : w.ownsRow base e size v n xs) (hs : ∀ k, v.ownBlock = some k → w'.heap[k]? = w.heap[k]?) : w'.ownsRow base e size v n xs := by
  obtain ⟨h1, h2⟩ := h
  refine ⟨h1, ?_⟩
  rcases h2 with h2 | ⟨g, cap, cur, hv, hb, hg, r⟩
  · exact .inl h2
  · exact .inr ⟨g, cap, cur, hv, hb, (hs g (by rw [hv]; rfl)).trans hg, r⟩
theorem OP.later (h : OP E B w0 w v l) (hb : Below w.heap.size w w') : OP E B w0 w' v l :=
  ⟨h.1, h.2.1.trans (hb.mono h.size), own_same2 h.own fun k hk => hb.block k (h.own.lt k hk).2⟩
theorem op_made {n g : Nat} (hown : w'.ownsRow w.heap.size E 2 (.slice (some ⟨g, 0, none⟩) 0 n) 0 []) (hgrow : w.grownBy w' none) : OP E w.heap.size w w' (.slice (some ⟨g, 0, none⟩) 0 n) [] :=
  ⟨Nat.le_refl _, (Below.refl _ _).grown hgrow (Nat.le_refl _) (fun k h => by cases h), hown⟩
theorem op_nil (E : TypeId) (w : World) : OP E w.heap.size w w (.slice none 0 0) [] := ⟨Nat.le_refl _, Below.refl _ _, ⟨by simp [prs], .inl ⟨rfl, rfl⟩⟩⟩
theorem op_empty (E : TypeId) (w : World) : OP E w.heap.size w (w.alloc (.cells #[] E)) (.slice (some ⟨w.heap.size, 0, none⟩) 0 0) [] :=
  ⟨Nat.le_refl _, bel_alloc w _, by simp [prs], .inr ⟨w.heap.size, 0, #[], rfl, Nat.le_refl _, heap_alloc_new w _, Nat.le_refl _, by unfold maxLen; omega, rfl, rfl⟩⟩
theorem OP.start (h : OP E B w0 w v l) {B2 : Nat} {w2 : World} (hB : B2 ≤ w2.heap.size) (hb : Below B2 w2 w0) (hle : B2 ≤ B) : OP E B2 w2 w v l := by
  refine ⟨hB, hb.trans (h.bel.mono hle), h.own.1, ?_⟩
  rcases h.own.2 with h2 | ⟨g, cap, cur, hv, hb2, hg, r⟩
  · exact .inl h2
  · exact .inr ⟨g, cap, cur, hv, Nat.le_trans hle hb2, hg, r⟩
theorem OP.prd (h : OP E B w0 w v l) : PRd w v l := by
  rcases h.own.2 with ⟨h1, h2⟩ | ⟨g, c, cur, h1, _, hg, hnc, hcm, _, ht⟩
  · exact ⟨none, 0, by rw [h1, h2], by omega, by omega, fun h => by omega⟩
  · unfold maxLen at hcm
    refine ⟨_, _, h1, hnc, by omega, fun h0 => ⟨g, 0, rfl, lt_of_block hg, fun i t hi => ?_⟩⟩
    have hil := (List.getElem?_eq_some_iff.1 hi).1
    obtain ⟨g1, g2⟩ := prs_get l i t hi
    have q : ∀ j u, (prs l)[j]? = some u → w.cell? ⟨g, 0 + j, none⟩ = some u := fun j u hu => by
      have := World.news_of_block hg j u (by
        rw [← ht, List.getElem?_take] at hu
        split at hu
        · exact hu
        · cases hu)
      rw [Addr.add_mid] at this
      exact this
    exact ⟨q _ _ g1, q _ _ g2⟩
end
theorem own_shapeP {w : World} {base e size n : Nat} {v : Value} {xs : List Value} (h : w.ownsRow base e size v n xs) : ∃ ao cap, v = .slice ao n cap := by
  rcases h.2 with ⟨h1, h2⟩ | ⟨g, cap, cur, h1, _⟩
  · exact ⟨none, 0, by rw [h1, h2]⟩
  · exact ⟨_, cap, h1⟩
/-- A slice type S over a struct type E of two cells. -/
structure Elem2 (P : Program) (S E : TypeId) (z : Value) (eb : Nat) : Prop where
  und : P.underlying S = some (.slice E)
  info : (P.info? E).map (fun i => (i.zero, i.size, i.bytes)) = some (some z, 2, eb)
  two : z.cells.size = 2
theorem PRd.src {P : Program} {S E : TypeId} {z : Value} {eb : Nat} (T : Elem2 P S E z eb) {w : World} {v : Value} {l : List PV} (h : PRd w v l) (h1 : ∀ u ∈ prs l, u.oneCell' = true) : Src P 2 S v l.length (prs l) w := by
  obtain ⟨ao, cap, rfl, h2, h3, h4⟩ := h
  by_cases h0 : 0 < l.length
  · obtain ⟨g, o, rfl, hg, hc⟩ := h4 h0
    refine Src.ofSlice _ T.und _ _ _ (prs l) (prs_length l) (fun j u hu => ?_) h1
    have hj : j < l.length * 2 := by rw [← prs_length]; exact (List.getElem?_eq_some_iff.1 hu).1
    obtain ⟨t, ht⟩ : ∃ t, l[j / 2]? = some t := ⟨_, List.getElem?_eq_getElem (by omega)⟩
    obtain ⟨c1, c2⟩ := hc _ t ht
    obtain ⟨g1, g2⟩ := prs_get l _ t ht
    rw [Addr.add_mid]
    rcases Nat.mod_two_eq_zero_or_one j with hm | hm
    · rw [show j / 2 * 2 = j by omega] at c1 g1
      rw [c1]; exact g1.symm.trans hu
    · rw [show o + j / 2 * 2 + 1 = o + j by omega] at c2
      rw [show j / 2 * 2 + 1 = j by omega] at g2
      rw [c2]; exact g2.symm.trans hu
  · obtain rfl : l = [] := by cases l with
      | nil => rfl
      | cons a r => simp at h0
    cases ao with
    | none => exact Src.ofNil _ T.und _
    | some a => exact Src.ofSlice _ T.und a _ _ [] rfl (fun j u hu => by simp at hu) (by simp)
/-- append of one pair that has just been laid. -/
theorem wpList_pr {P : Program} {S E : TypeId} {z : Value} {eb : Nat} (T : Elem2 P S E z eb) {ops : Array Oper} {rest : List Oper} {o : Oper} {a : Act} {w : World} {Q : Exit → Act → World → Prop} (hgd : o.guard = none) (s x : Operand)
    (ho : o.op = .call { callee := .builtin .append, args := #[s, x], argTypes := #[S, S] })
    {B : Nat} {w0 : World} {v : Value} {l : List PV} (hv : a.eval s = v) (H : OP E B w0 w v l) {vx : Value} {m : List PV} (hx : a.eval x = vx) (L : PRd w vx m) (h1 : ∀ u ∈ prs m, u.oneCell' = true) (hl : (l.length + m.length) * eb ≤ 140737488355328) (hl2 : l.length + m.length ≤ 140737488355328)
    (h : ∀ (ao : Option Addr) (n cap : Nat) (w' : World), n = l.length + m.length → OP E B w0 w' (.slice ao n cap) (l ++ m) → w.grownBy w' v.ownBlock → wpList P ops Q rest (a.put o.dst (.slice ao n cap)) w') :
    wpList P ops Q (o :: rest) a w := by
  obtain ⟨i0, hi, hz0, hz1, hz2⟩ := info_parts T.info
  refine wpList_append_src _ hgd s x S S ho B E i0 z 2 eb T.und hi hz0 hz1 hz2 T.two (by decide) v l.length (prs l) hv H.own vx m.length (prs m) hx (L.src T h1) (by unfold maxLen; omega) (by omega) H.size ?_
  intro v2 w2 hown hg _ _
  have H2 := H.app (m := m) hown rfl hg
  obtain ⟨ao, cap, rfl⟩ := own_shapeP hown
  exact h ao _ cap w2 rfl H2 hg
theorem prd_new {w : World} {u v : Value} {E : TypeId} {m : Nat × Nat} : PRd (w.alloc (.cells #[u, v] E m)) (.slice (some ⟨w.heap.size, 0, none⟩) 1 1) [(u, v)] := by
  refine ⟨_, _, rfl, Nat.le_refl _, by simp, fun _ => ⟨_, _, rfl, by simp, fun i t hi => ?_⟩⟩
  have : i = 0 := by have := (List.getElem?_eq_some_iff.1 hi).1; simp at this; omega
  subst this
  simp only [List.getElem?_cons_zero, Option.some.injEq] at hi
  subst hi
  have hb := heap_alloc_new w (.cells #[u, v] E m)
  have c0 := World.news_of_block hb 0 u rfl
  have c1 := World.news_of_block hb 1 v rfl
  rw [Addr.add_mid] at c0 c1
  exact ⟨c0, c1⟩
end Go.Proofs.Ytofmijebinnejaa

/- Rows that lie in the blocks of a set; rows that grow. Bounds on sizes alone. -/
namespace Go.Proofs.Ytofmijebinnejaa
open Go.RowKit

theorem set_blk {w : World} {b k a : Nat} {v : Value} (hne : a ≠ b) : (w.setCell ⟨a, k, none⟩ v).heap[b]? = w.heap[b]? := Below.heap_setCell w ⟨a, k, none⟩ v b (fun h => hne h.symm)
theorem cell_blk {w : World} {b j : Nat} {cs : List Value} {E : TypeId} {m : Nat × Nat} {v : Value} (hb : w.heap[b]? = some (.cells cs.toArray E m)) (h : cs[j]? = some v) : w.cell? ⟨b, j, none⟩ = some v := by
  have := World.news_of_block hb j v (by simpa using h)
  rw [Addr.add_mid, Nat.zero_add] at this
  exact this
theorem fr_blk {w : World} {b : Nat} {cs : List Value} {E : TypeId} (hb : w.heap[b]? = some (.cells cs.toArray E (0, 0))) (j : Nat) : w.frozen? ⟨b, j, none⟩ = false := by
  simp [World.frozen?, hb]
/-- The row of a slice lies in a block of S. -/
def In (S : Nat → Prop) (v : Value) : Prop := ∀ (a : Addr) (n c : Nat), v = .slice (some a) n c → S a.block
theorem In.mono {S T : Nat → Prop} {v : Value} (h : In S v) (hs : ∀ k, S k → T k) : In T v := fun a n c e => hs _ (h a n c e)
theorem in_nil (S : Nat → Prop) : In S (.slice none 0 0) := fun a n c e => by cases e
theorem Rd.keepS {S : Nat → Prop} {w w' : World} {v : Value} {l : List Value} (h : Rd w v l) (hB : In S v) (hs : w.heap.size ≤ w'.heap.size) (hk : ∀ k, S k → k < w.heap.size → w'.heap[k]? = w.heap[k]?) : Rd w' v l := by
  obtain ⟨ao, cap, e, h2, h3, h4⟩ := h
  refine ⟨ao, cap, e, h2, h3, fun h0 => ?_⟩
  obtain ⟨g, o, rfl, hg, hc⟩ := h4 h0
  have hb := hk g (hB _ _ _ e) hg
  exact ⟨g, o, rfl, by omega, fun i t ht => (World.cell?_of_block (w := w) hb).trans (hc i t ht)⟩
theorem PRd.keepS {S : Nat → Prop} {w w' : World} {v : Value} {l : List PV} (h : PRd w v l) (hB : In S v) (hs : w.heap.size ≤ w'.heap.size) (hk : ∀ k, S k → k < w.heap.size → w'.heap[k]? = w.heap[k]?) : PRd w' v l := by
  obtain ⟨ao, cap, e, h2, h3, h4⟩ := h
  refine ⟨ao, cap, e, h2, h3, fun h0 => ?_⟩
  obtain ⟨g, o, rfl, hg, hc⟩ := h4 h0
  have hb := hk g (hB _ _ _ e) hg
  refine ⟨g, o, rfl, by omega, fun i t ht => ?_⟩
  obtain ⟨c0, c1⟩ := hc i t ht
  exact ⟨(World.cell?_of_block (w := w) hb).trans c0, (World.cell?_of_block (w := w) hb).trans c1⟩
theorem Rd.keepN {S : Nat → Prop} {w w' : World} {v : Value} {l : List Value} (h : Rd w v l) (hB : 0 < l.length → In S v) (hs : w.heap.size ≤ w'.heap.size) (hk : ∀ k, S k → k < w.heap.size → w'.heap[k]? = w.heap[k]?) : Rd w' v l := by
  obtain ⟨ao, cap, e, h2, h3, h4⟩ := h
  refine ⟨ao, cap, e, h2, h3, fun h0 => ?_⟩
  obtain ⟨g, o, rfl, hg, hc⟩ := h4 h0
  have hb := hk g (hB h0 _ _ _ e) hg
  exact ⟨g, o, rfl, by omega, fun i t ht => (World.cell?_of_block (w := w) hb).trans (hc i t ht)⟩
theorem Rd.inlt {w : World} {v : Value} {l : List Value} (h : Rd w v l) (h0 : 0 < l.length) : In (fun k => k < w.heap.size) v := by
  obtain ⟨ao, cap, rfl, h2, h3, h4⟩ := h
  obtain ⟨g, o, rfl, hg, hc⟩ := h4 h0
  intro a n c e
  simp only [Value.slice.injEq, Option.some.injEq] at e
  rw [← e.1]
  exact hg
def Keeps (S : Nat → Prop) (w w' : World) : Prop := w.heap.size ≤ w'.heap.size ∧ ∀ k, S k → k < w.heap.size → w'.heap[k]? = w.heap[k]?
theorem keeps_bel {S : Nat → Prop} {B : Nat} {w w' : World} (h : Below B w w') (hs : ∀ k, S k → k < B) : Keeps S w w' := ⟨h.size, fun k hk _ => h.block k (hs k hk)⟩
theorem keeps_belw {S : Nat → Prop} {w w' : World} (h : Below w.heap.size w w') : Keeps S w w' := ⟨h.size, fun k _ hl => h.block k hl⟩
theorem keeps_alloc (S : Nat → Prop) (w : World) (o : Obj) : Keeps S w (w.alloc o) := ⟨(bel_alloc w o).size, fun k _ hk => (bel_alloc w o).block k hk⟩
theorem keeps_set {S : Nat → Prop} (w : World) (p j : Nat) (v : Value) (hs : ¬ S p) : Keeps S w (w.setCell ⟨p, j, none⟩ v) := ⟨by simp, fun k hk _ => Below.heap_setCell _ _ _ _ (fun e => hs ((show k = p from e) ▸ hk))⟩
theorem keeps_kept {S T : Nat → Prop} {w w' : World} (h : Kept T w w') (hs : ∀ k, S k → ¬ T k) : Keeps S w w' := ⟨h.size, fun k hk hl => h.block k hl (hs k hk)⟩
theorem keeps_grown {S : Nat → Prop} {w w' : World} {row : Option Nat} (h : w.grownBy w' row) (hs : ∀ k, S k → row ≠ some k) : Keeps S w w' := ⟨h.size, fun k hk hlt => h.block k hlt (fun e => hs k hk e.symm)⟩
theorem Keeps.trans {S : Nat → Prop} {w w1 w2 : World} (h : Keeps S w w1) (k : Keeps S w1 w2) : Keeps S w w2 := ⟨Nat.le_trans h.1 k.1, fun x hx hl => (k.2 x hx (Nat.lt_of_lt_of_le hl h.1)).trans (h.2 x hx hl)⟩
theorem Kept.mono {S T : Nat → Prop} {w w' : World} (h : Kept S w w') (hs : ∀ k, S k → T k) : Kept T w w' := ⟨h.os, h.tape, h.output, h.size, fun k hk hn => h.block k hk (fun e => hn (hs k e))⟩
theorem Kept.grown {S : Nat → Prop} {w w1 w2 : World} {row : Option Nat} (h : Kept S w w1) (g : w1.grownBy w2 row) (hr : ∀ k, row = some k → S k ∨ w.heap.size ≤ k) : Kept S w w2 :=
  ⟨g.os.trans h.os, g.tape.trans h.tape, g.output.trans h.output, Nat.le_trans h.size g.size, fun k hk hn => (g.block k (Nat.lt_of_lt_of_le hk h.size) (fun e => by rcases hr k e.symm with h1 | h1; exact hn h1; omega)).trans (h.block k hk hn)⟩
theorem Kept.alloc {S : Nat → Prop} {w w1 : World} (h : Kept S w w1) (o : Obj) : Kept S w (w1.alloc o) := h.trans (Kept.ofBelow (bel_alloc w1 o))
theorem Kept.setCell {S : Nat → Prop} {w w1 : World} (h : Kept S w w1) (p j : Nat) (v : Value) (hp : S p ∨ w.heap.size ≤ p) : Kept S w (w1.setCell ⟨p, j, none⟩ v) :=
  ⟨h.os, h.tape, h.output, by simpa using h.size, fun k hk hn => (set_blk (fun e => by subst e; rcases hp with h1 | h1; exact hn h1; omega)).trans (h.block k hk hn)⟩
theorem own_blkL {W : World} {B e s n k : Nat} {v : Value} {xs : List Value} (ho : W.ownsRow B e s v n xs) (hk : v.ownBlock = some k) : ∃ cur, W.heap[k]? = some (.cells cur e (0, 0)) := by
  rcases ho.2 with ⟨e, _⟩ | ⟨q, cap, cur, e, _, h2, _⟩
  · rw [e] at hk; cases hk
  · rw [e] at hk
    simp only [Value.ownBlock, Option.some.injEq] at hk
    subst hk
    exact ⟨_, h2⟩
/-- A row has grown, in its block or in a new one. -/
structure GA (B : Nat) (E : TypeId) (sz : Nat) (W w4 : World) (v v' : Value) (n : Nat) (xs : List Value) : Prop where
  own : w4.ownsRow B E sz v' n xs
  gr : W.grownBy w4 v.ownBlock
  fr : v'.ownBlock = v.ownBlock ∨ v'.ownBlock = some W.heap.size
theorem step_gen {P : Program} {ops : Array Oper} {o : Oper} {a : Act} {w : World} {K : Act → World → Prop} {Q : Exit → Act → World → Prop} {F : Prop} (S E : TypeId) (z : Value) (eb sz : Nat) (hu : P.underlying S = some (.slice E)) (hi : (P.info? E).map (fun i => (i.zero, i.size, i.bytes)) = some (some z, sz, eb)) (hz : z.cells.size = sz) (hp : 0 < sz) (hgd : o.guard = none) (s x : Operand)
    (ho : o.op = .call { callee := .builtin .append, args := #[s, x], argTypes := #[S, S] })
    {B : Nat} {v : Value} {n : Nat} {l : List Value} (hv : a.eval s = v) (H : w.ownsRow B E sz v n l) (hB : B ≤ w.heap.size) {vx : Value} {m : Nat} {news : List Value} (hx : a.eval x = vx) (L : Src P sz S vx m news w) (hl : (n + m) * eb ≤ 140737488355328) (hl2 : n + m ≤ 140737488355328)
    (h : ∀ (ao : Option Addr) (cap : Nat) (w' : World), GA B E sz w w' v (.slice ao (n + m) cap) (n + m) (l ++ news) → K (a.put o.dst (.slice ao (n + m) cap)) w') :
    if Region.wanted o (yielded ops a.tmps) = true then Oper.wp P o a w K Q else F := by
  obtain ⟨i0, hi, hz0, hz1, hz2⟩ := info_parts hi
  refine step_append_src _ hgd s x S S ho B E i0 z sz eb hu hi hz0 hz1 hz2 hz hp v n l hv H vx m news hx L (by unfold maxLen; omega) (by omega) hB ?_
  intro v2 w2 hown hg _ hf
  obtain ⟨ao, cap, rfl⟩ := own_shape hown
  exact h ao cap w2 ⟨hown, hg, hf⟩
theorem wpList_gen {P : Program} {ops : Array Oper} {rest : List Oper} {o : Oper} {a : Act} {w : World} {Q : Exit → Act → World → Prop} (S E : TypeId) (z : Value) (eb sz : Nat) (hu : P.underlying S = some (.slice E)) (hi : (P.info? E).map (fun i => (i.zero, i.size, i.bytes)) = some (some z, sz, eb)) (hz : z.cells.size = sz) (hp : 0 < sz) (hgd : o.guard = none) (s x : Operand)
    (ho : o.op = .call { callee := .builtin .append, args := #[s, x], argTypes := #[S, S] })
    {B : Nat} {v : Value} {n : Nat} {l : List Value} (hv : a.eval s = v) (H : w.ownsRow B E sz v n l) (hB : B ≤ w.heap.size) {vx : Value} {m : Nat} {news : List Value} (hx : a.eval x = vx) (L : Src P sz S vx m news w) (hl : (n + m) * eb ≤ 140737488355328) (hl2 : n + m ≤ 140737488355328)
    (h : ∀ (ao : Option Addr) (cap : Nat) (w' : World), GA B E sz w w' v (.slice ao (n + m) cap) (n + m) (l ++ news) → wpList P ops Q rest (a.put o.dst (.slice ao (n + m) cap)) w') :
    wpList P ops Q (o :: rest) a w := by
  obtain ⟨i0, hi, hz0, hz1, hz2⟩ := info_parts hi
  refine wpList_append_src _ hgd s x S S ho B E i0 z sz eb hu hi hz0 hz1 hz2 hz hp v n l hv H vx m news hx L (by unfold maxLen; omega) (by omega) hB ?_
  intro v2 w2 hown hg _ hf
  obtain ⟨ao, cap, rfl⟩ := own_shape hown
  exact h ao cap w2 ⟨hown, hg, hf⟩
theorem ga_bel {B E sz n : Nat} {W w4 : World} {v v' : Value} {xs l : List Value} {n0 : Nat} (h : GA B E sz W w4 v v' n xs) (h0 : W.ownsRow B E sz v n0 l) (hB : B ≤ W.heap.size) : Below B W w4 :=
  ⟨h.gr.os, h.gr.tape, h.gr.output, h.gr.size, fun k hk => h.gr.block k (by omega) (fun e => by have := (h0.lt k e.symm).1; omega)⟩
/-- A row of another type stays. -/
theorem ga_own {B B2 E e2 sz s2 n n0 m : Nat} {W w4 : World} {v v' v2 : Value} {xs l xs2 : List Value} (h : GA B E sz W w4 v v' n xs) (h0 : W.ownsRow B E sz v n0 l) (h2 : W.ownsRow B2 e2 s2 v2 m xs2) (he : e2 ≠ E) : w4.ownsRow B2 e2 s2 v2 m xs2 :=
  own_same h2 fun k hk => h.gr.block k (h2.lt k hk).2 (fun e => by
    obtain ⟨c1, h1⟩ := own_blkL h2 hk
    obtain ⟨c2, h3⟩ := own_blkL h0 e.symm
    rw [h1] at h3
    simp only [Option.some.injEq, Obj.cells.injEq] at h3
    exact he h3.2.1)
end Go.Proofs.Ytofmijebinnejaa
