/- The contracts of the Writer's other methods. No condition but bounds on sizes. -/
import Derived.Test.YtoogcafceghdjaaWireBase
import Derived.Test.YtoogcafceghdjaaAppOwn
import Derived.Laws.Bits64
namespace Go.Proofs.Ytoogcafceghdjaa.Wr
open Go.RowKit

theorem own_shape {w : World} {base e size n : Nat} {v : Value} {xs : List Value} (h : w.ownsRow base e size v n xs) : ∃ ao cap, v = .slice ao n cap := by
  rcases h.2 with ⟨h1, h2⟩ | ⟨g, cap, cur, h1, _⟩
  · exact ⟨none, 0, by rw [h1, h2]⟩
  · exact ⟨_, cap, h1⟩

/-- What is owned, as cells behind its address. -/
theorem own_src {w : World} {base e n cap : Nat} {ao : Option Addr} {xs : List Value} (h : w.ownsRow base e 1 (.slice ao n cap) n xs) : 0 < n → ∃ ad, ao = some ad ∧ ∀ j u, xs[j]? = some u → w.cell? (ad.add j) = some u := by
  intro h0
  rcases h.2 with ⟨h1, h2⟩ | ⟨g, cap', cur, h1, _⟩
  · omega
  · cases h1
    exact ⟨_, rfl, h.cells rfl⟩

theorem Wst.alloc {B b : Nat} {w : World} {v : Value} {l : List Int} (h : Wst B b w v l) (o : Obj) : Wst B b (w.alloc o) v l :=
  ⟨by rw [Below.heap_alloc _ _ _ (lt_of_block h.blk)]; exact h.blk, h.own.alloc o⟩

/-- What the last store of a Writer's method leaves. -/
theorem wst_store {B b n2 : Nat} {w1 w2 : World} {v1 v2 : Value} {l1 l2 : List Int} (h : Wst B b w1 v1 l1) (hown : w2.ownsRow B 5 1 v2 n2 (bs l2)) (hn : n2 = l2.length) (hg : w1.grownBy w2 v1.ownBlock)
    (hat : v2.ownBlock = v1.ownBlock ∨ v2.ownBlock = some w1.heap.size) :
    Wst B b (w2.setCell ⟨b, 0, none⟩ v2) v2 l2 ∧ Kept (fun k => k = b ∨ v1.ownBlock = some k) w1 (w2.setCell ⟨b, 0, none⟩ v2) ∧ (v2.ownBlock = v1.ownBlock ∨ ∀ g, v2.ownBlock = some g → w1.heap.size ≤ g) := by
  subst hn
  have hbl := lt_of_block h.blk
  have hblk2 : w2.heap[b]? = some (.cells #[v1] 44 (0, 0)) := (hg.block b hbl (Ne.symm h.ne)).trans h.blk
  refine ⟨⟨one_setCell (v := v1) hblk2, ownsRow_setCell_other hown ?_ _⟩, ⟨hg.os, hg.tape, hg.output, ?_, ?_⟩, ?_⟩
  · intro e
    rcases hat with hat | hat
    · rw [hat] at e; exact h.ne e
    · rw [hat] at e
      have : w1.heap.size = b := by simpa using e
      omega
  · show w1.heap.size ≤ (w2.heap.modify _ _).size
    rw [Array.size_modify]; exact hg.size
  · intro q hq hS
    rw [Below.heap_setCell _ _ _ _ (fun e => hS (Or.inl e)), hg.block q hq (fun e => hS (Or.inr e.symm))]
  · rcases hat with hat | hat
    · exact Or.inl hat
    · refine Or.inr fun g hgg => ?_
      rw [hat] at hgg
      have : w1.heap.size = g := by simpa using hgg
      omega

theorem Kept.trans {S T : Nat → Prop} {a b c : World} (h : Kept S a b) (k : Kept T b c) (hST : ∀ q, q < a.heap.size → T q → S q) : Kept S a c :=
  ⟨k.os.trans h.os, k.tape.trans h.tape, k.output.trans h.output, Nat.le_trans h.size k.size, fun q hq hS => (k.block q (by have := h.size; omega) (fun ht => hS (hST q hq ht))).trans (h.block q hq hS)⟩
theorem Kept.of_alloc {S : Nat → Prop} {a c : World} {o : Obj} (k : Kept S (a.alloc o) c) : Kept S a c :=
  ⟨k.os, k.tape, k.output, by have := k.size; simp at this; omega, fun q hq hS => (k.block q (by simp; omega) hS).trans (Below.heap_alloc _ _ _ hq)⟩

/-- The bytes of a string. -/
def strBytes (s : ByteArray) : List Int := s.data.toList.map fun b => (b.toNat : Int)
theorem strBytes_length (s : ByteArray) : (strBytes s).length = s.size := by simp [strBytes]
theorem byteCells_eq (s : ByteArray) : byteCells s = bs (strBytes s) := by simp [byteCells, bs, strBytes]

theorem src_str (s : ByteArray) (w : World) : Src Try.prog 1 9 (.string s) s.size (bs (strBytes s)) w := by
  have := Src.ofString (P := Try.prog) w Try.underlying9 s
  rwa [byteCells_eq] at this
theorem src_slice (ao : Option Addr) (m : List Int) (cap : Nat) (w : World) (h : 0 < m.length → ∃ ad, ao = some ad ∧ ∀ j v, (bs m)[j]? = some v → w.cell? (ad.add j) = some v) (hnil : ao = none → cap = 0) :
    Src Try.prog 1 30 (.slice ao m.length cap) m.length (bs m) w := by
  cases m with
  | nil =>
    cases ao with
    | none => exact Src.ofNil w Try.underlying30 cap
    | some ad => exact Src.ofSlice w Try.underlying30 ad 0 cap [] rfl (fun j u hu => absurd hu (by simp)) (fun u hu => absurd hu (by simp))
  | cons x r =>
    obtain ⟨ad, rfl, hc⟩ := h (by simp)
    exact Src.ofSlice w Try.underlying30 ad _ cap _ (by simp [bs]) hc (bs_one _)

theorem kept_two {b : Nat} {v v1 : Value} {w w1 w2 : World} (h1 : Kept (fun k => k = b ∨ v.ownBlock = some k) w w1) (h2 : Kept (fun k => k = b ∨ v1.ownBlock = some k) w1 w2)
    (ho : v1.ownBlock = v.ownBlock ∨ ∀ g, v1.ownBlock = some g → w.heap.size ≤ g) : Kept (fun k => k = b ∨ v.ownBlock = some k) w w2 :=
  h1.trans h2 fun q hq hT => by
    rcases hT with hT | hT
    · exact Or.inl hT
    · rcases ho with ho | ho
      · exact Or.inr (ho ▸ hT)
      · have := ho q hT; omega
theorem own_two {v v1 v2 : Value} {w w1 : World} (hs : w.heap.size ≤ w1.heap.size) (h1 : v1.ownBlock = v.ownBlock ∨ ∀ g, v1.ownBlock = some g → w.heap.size ≤ g) (h2 : v2.ownBlock = v1.ownBlock ∨ ∀ g, v2.ownBlock = some g → w1.heap.size ≤ g) :
    v2.ownBlock = v.ownBlock ∨ ∀ g, v2.ownBlock = some g → w.heap.size ≤ g := by
  rcases h2 with h2 | h2
  · rw [h2]; exact h1
  · exact Or.inr fun g hg => Nat.le_trans hs (h2 g hg)

set_option maxHeartbeats 400000 in
theorem text_any (s : ByteArray) (b B : Nat) (v : Value) (l : List Int) (w : World) (h : Wst B b w v l) (hs : s.size ≤ 70000000000000) (hl : l.length ≤ 70000000000000) (hB : B ≤ w.heap.size) :
    Calls Try.prog 48 #[.pointer (some ⟨b, 0, none⟩), .string s] w fun e w' => e = .returned (.tuple #[]) ∧
      ∃ v', Wst B b w' v' (l ++ enc s.size ++ strBytes s) ∧ Kept (fun k => k = b ∨ v.ownBlock = some k) w w' ∧ (v'.ownBlock = v.ownBlock ∨ ∀ g, v'.ownBlock = some g → w.heap.size ≤ g) := by
  obtain ⟨i0, hi, hz0, hz1, hz2⟩ := info_parts Try.infoU8
  have hbl := lt_of_block h.blk
  have hel := enc_length_10 s.size (by omega)
  go_enter Try.func48, Try.ntmps48
  go_wp2_with (first
    | (go_at_call 45; refine (uint_any s.size b B v l w (by omega) h (by omega) hB).mono ?_; rintro e w1 ⟨rfl, v1, h1, hk1, ho1⟩; have c0 := cell_of_one h1.blk; have c1 := free_of_one h1.blk; have H1 := hid_of h1; have HK1 := hid_of hk1; have HO1 := hid_of ho1; have hBw : B ≤ w1.heap.size := Nat.le_trans hB hk1.size; clear h1 hk1 ho1)
    | (at_builtin; with_reducible refine wpList_append_src _ rfl _ _ 30 9 rfl B 5 i0 (.int .u8 0) 1 1 Try.underlying30 hi hz0 hz1 hz2 rfl (by decide) v1 (l ++ enc s.size).length (bs (l ++ enc s.size)) rfl H1.out.own (.string s) s.size (bs (strBytes s)) rfl (src_str s _) (by rw [List.length_append]; unfold maxLen; omega) (by rw [List.length_append]; omega) hBw ?_
       intro v2 w2 hown2 hg2 _ hat2
       have k0 : w2.cell? ⟨b, 0, none⟩ = some v1 := (hg2.cell_far ⟨b, 0, none⟩ (lt_of_block H1.out.blk) (Ne.symm H1.out.ne)).trans c0
       have k1 : w2.frozen? ⟨b, 0, none⟩ = false := (hg2.frozen_far ⟨b, 0, none⟩ (lt_of_block H1.out.blk) (Ne.symm H1.out.ne)).trans c1
       have R := hid_of (wst_store (l2 := l ++ enc s.size ++ strBytes s) H1.out (by rw [bs_append _ (strBytes s)]; exact hown2) (by simp [strBytes_length, Nat.add_assoc]) hg2 hat2)
       obtain ⟨ao, cap, rfl⟩ := own_shape hown2
       clear hown2 hg2 hat2 c0 c1))
  go_end0
  obtain ⟨R1, R2, R3⟩ := R.out
  simp only [List.length_append] at R1 R2 R3
  have ho1 := HO1.out
  have hk1 := HK1.out
  exact ⟨rfl, _, R1, kept_two hk1 R2 ho1, own_two hk1.size ho1 R3⟩

/-- Zigzag. -/
def zig (n : Int) : Nat := if 0 ≤ n then (2 * n).toNat else (-2 * n - 1).toNat
theorem zig_lt (n : Int) (h0 : -9223372036854775808 ≤ n) (h1 : n ≤ 9223372036854775807) : zig n < 18446744073709551616 := by
  unfold zig; split <;> omega

theorem xor_ones (x : Nat) (h : x < 18446744073709551616) : 18446744073709551615 ^^^ x = 18446744073709551615 - x := by
  have h1 : (BitVec.allOnes 64 ^^^ BitVec.ofNat 64 x).toNat = (~~~ (BitVec.ofNat 64 x)).toNat := by rw [BitVec.allOnes_xor]
  rw [BitVec.toNat_xor, BitVec.toNat_not, BitVec.toNat_allOnes, BitVec.toNat_ofNat, Nat.mod_eq_of_lt (by omega)] at h1
  simpa using h1

theorem zig_neg (n : Int) (h0 : -9223372036854775808 ≤ n) (h1 : n < 0) : bits BinOp.xor IntKind.u64 (if IntKind.u64.signed = true then -1 else IntKind.u64.max) (IntKind.u64.wrap (IntKind.u64.wrap n * 2)) = (zig n : Int) := by
  have e1 : IntKind.u64.wrap (IntKind.u64.wrap n * 2) = ((2 * n + 18446744073709551616).toNat : Int) := by
    rw [IntKind.wrap_u64, IntKind.wrap_u64]; omega
  have e2 : (if IntKind.u64.signed = true then -1 else IntKind.u64.max) = ((18446744073709551615 : Nat) : Int) := by decide
  rw [e1, e2, bits_xor_u64_nat _ _ (by omega) (by omega), xor_ones _ (by omega)]
  unfold zig
  rw [if_neg (by omega)]
  omega

theorem zig_pos (n : Int) (h1 : ¬ n < 0) : n * 2 = (zig n : Int) := by
  unfold zig; rw [if_pos (by omega)]; omega

set_option maxHeartbeats 400000 in
theorem int_any (n : Int) (b B : Nat) (v : Value) (l : List Int) (w : World) (h0 : -9223372036854775808 ≤ n) (h1 : n ≤ 9223372036854775807) (h : Wst B b w v l) (hl : l.length ≤ 70000000000000) (hB : B ≤ w.heap.size) :
    Calls Try.prog 46 #[.pointer (some ⟨b, 0, none⟩), .int .i64 n] w fun e w' => e = .returned (.tuple #[]) ∧
      ∃ v', Wst B b w' v' (l ++ enc (zig n)) ∧ Kept (fun k => k = b ∨ v.ownBlock = some k) w w' ∧ (v'.ownBlock = v.ownBlock ∨ ∀ g, v'.ownBlock = some g → w.heap.size ≤ g) := by
  have hz := zig_lt n h0 h1
  by_cases hn : n < 0
  · have HZ := hid_of (zig_neg n h0 hn)
    go_enter Try.func46, Try.ntmps46
    go_wp2_with (go_at_call 45; rw [HZ.out]; refine (uint_any (zig n) b B v l w hz h (by omega) hB).mono ?_; rintro e w1 ⟨rfl, v1, h1, hk1, ho1⟩; have R := hid_of (And.intro h1 (And.intro hk1 ho1)); clear h1 hk1 ho1)
    go_end0
    exact ⟨rfl, v1, R.out⟩
  · have HZ := hid_of (zig_pos n hn)
    go_enter Try.func46, Try.ntmps46
    go_wp2_with (go_at_call 45; rw [HZ.out]; refine (uint_any (zig n) b B v l w hz h (by omega) hB).mono ?_; rintro e w1 ⟨rfl, v1, h1, hk1, ho1⟩; have R := hid_of (And.intro h1 (And.intro hk1 ho1)); clear h1 hk1 ho1)
    go_end0
    exact ⟨rfl, v1, R.out⟩

set_option maxHeartbeats 400000 in
theorem data_any (b B : Nat) (v : Value) (l : List Int) (w : World) (h : Wst B b w v l) (hl : l.length ≤ 140737488351232) :
    Calls Try.prog 22 #[.pointer (some ⟨b, 0, none⟩)] w fun e w' => e = .returned (.slice (some ⟨w.heap.size, 0, none⟩) l.length l.length) ∧
      w'.heap[w.heap.size]? = some (.cells (bs l).toArray 5 (0, 0)) ∧ Below w.heap.size w w' := by
  obtain ⟨ao, cap, rfl⟩ := own_shape h.own
  have c0 := cell_of_one h.blk
  have hsrc := hid_of (own_src h.own)
  go_enter Try.func22, Try.ntmps22
  go_wp2_with (go_at_call 49; refine (clone_any ao l cap w hl hsrc.out).mono ?_; rintro e w1 ⟨rfl, h1, h2⟩; have H1 := hid_of h1; clear h1)
  go_ret
  exact ⟨rfl, H1.out, h2⟩

end Go.Proofs.Ytoogcafceghdjaa.Wr
