/- The Writer during a call: what it holds, and what else has stayed. Bounds on sizes alone. -/
import Derived.Test.YtoogcafceghdjaaLatEnc
import Derived.Test.YtoogcafceghdjaaWireRdC
import Derived.Test.YtoogcafceghdjaaLatRow
namespace Go.Proofs.Ytoogcafceghdjaa
open Go.RowKit

/-- From wa to w the Writer alone has turned; it holds l. -/
structure WK (B b : Nat) (wa : World) (va : Value) (w : World) (l : List Int) : Prop where
  ex : ∃ v, Wr.Wst B b w v l ∧ Wr.Kept (fun k => k = b ∨ va.ownBlock = some k) wa w ∧ (v.ownBlock = va.ownBlock ∨ ∀ g, v.ownBlock = some g → wa.heap.size ≤ g)
  hb : B ≤ b
  hB : B ≤ wa.heap.size
  hv : ∀ g, va.ownBlock = some g → B ≤ g
section
variable {B b : Nat} {wa w w' : World} {va v : Value} {l l' : List Int}
theorem WK.start (h : Wr.Wst B b w v l) (hb : B ≤ b) (hB : B ≤ w.heap.size) : WK B b w v w l :=
  ⟨⟨v, h, Wr.Kept.refl _ _, .inl rfl⟩, hb, hB, fun g hg => (h.own.lt g hg).1⟩
theorem WK.bel (h : WK B b wa va w l) : Below B wa w := by
  obtain ⟨v, _, h2, _⟩ := h.ex
  refine h2.below h.hB fun k hk => ?_
  rcases hk with rfl | hk
  · exact h.hb
  · exact h.hv k hk
theorem WK.size (h : WK B b wa va w l) : wa.heap.size ≤ w.heap.size := h.bel.size
theorem WK.step (h : WK B b wa va w l) (h1 : Wr.Wst B b w v l) (h0 : Wr.Kept (fun k => k = b ∨ va.ownBlock = some k) wa w) (h2 : v.ownBlock = va.ownBlock ∨ ∀ g, v.ownBlock = some g → wa.heap.size ≤ g) (k : WK B b w v w' l') : WK B b wa va w' l' := by
  obtain ⟨v', k1, k2, k3⟩ := k.ex
  exact ⟨⟨v', k1, Wr.kept_two h0 k2 h2, Wr.own_two h0.size h2 k3⟩, h.hb, h.hB, h.hv⟩
/-- A call that starts behind. -/
theorem WK.call (h : WK B b wa va w l) {f : Nat} {args : Array Value} {E : Ending} (hc : ∀ v, Wr.Wst B b w v l → Calls Try.prog f args w fun e w' => e = E ∧ WK B b w v w' l') : Calls Try.prog f args w fun e w' => e = E ∧ WK B b wa va w' l' := by
  obtain ⟨v, h1, h2, h3⟩ := h.ex
  exact (hc v h1).mono fun e w' ⟨q1, q2⟩ => ⟨q1, h.step h1 h2 h3 q2⟩
theorem WK.alloc (h : WK B b wa va w l) (o : Obj) : WK B b wa va (w.alloc o) l := by
  obtain ⟨v, h1, h2, h3⟩ := h.ex
  have b0 := bel_alloc w o
  exact ⟨⟨v, h1.alloc o, ⟨h2.os, h2.tape, h2.output, Nat.le_trans h2.size b0.size, fun k hk hn => (b0.block k (Nat.lt_of_lt_of_le hk h2.size)).trans (h2.block k hk hn)⟩, h3⟩, h.hb, h.hB, h.hv⟩
/-- The anchor a block earlier. -/
theorem WK.of_alloc {o : Obj} (h : WK B b (wa.alloc o) va w l) (hB : B ≤ wa.heap.size) : WK B b wa va w l := by
  obtain ⟨v, h1, h2, h3⟩ := h.ex
  exact ⟨⟨v, h1, h2.of_alloc, h3.imp_right fun h g hg => Nat.le_trans (by simp) (h g hg)⟩, h.hb, hB, h.hv⟩
theorem WK.blk (h : WK B b wa va w l) {k : Nat} (hk : k < wa.heap.size) (h1 : k ≠ b) (h2 : va.ownBlock ≠ some k) : w.heap[k]? = wa.heap[k]? := by
  obtain ⟨v, _, h3, _⟩ := h.ex
  refine h3.block k hk fun hs => ?_
  rcases hs with rfl | hs
  · exact h1 rfl
  · exact h2 hs
theorem uint_wk (n : Nat) (h : WK B b wa va w l) (hn : n < 18446744073709551616) (hl : l.length ≤ 60000000000000) :
    Calls Try.prog 45 #[.pointer (some ⟨b, 0, none⟩), .int .u64 n] w fun e w' => e = .returned (.tuple #[]) ∧ WK B b wa va w' (l ++ Wr.enc n) :=
  h.call fun v hv => (Wr.uint_any n b B v l w hn hv (by omega) (Nat.le_trans h.hB h.size)).mono fun e w' ⟨q1, v', q2⟩ => ⟨q1, ⟨v', q2⟩, h.hb, Nat.le_trans h.hB h.size, fun g hg => (hv.own.lt g hg).1⟩
theorem int_wk (n : Int) (h : WK B b wa va w l) (hn : R64 n) (hl : l.length ≤ 60000000000000) :
    Calls Try.prog 46 #[.pointer (some ⟨b, 0, none⟩), .int .i64 n] w fun e w' => e = .returned (.tuple #[]) ∧ WK B b wa va w' (l ++ Wr.enc (Wr.zig n)) :=
  h.call fun v hv => (Wr.int_any n b B v l w hn.1 hn.2 hv (by omega) (Nat.le_trans h.hB h.size)).mono fun e w' ⟨q1, v', q2⟩ => ⟨q1, ⟨v', q2⟩, h.hb, Nat.le_trans h.hB h.size, fun g hg => (hv.own.lt g hg).1⟩
theorem text_wk (x : Str) (bx : ByteArray) (hbx : bx = ba x) (h : WK B b wa va w l) (hx : x.length ≤ 16) (hl : l.length ≤ 60000000000000) :
    Calls Try.prog 48 #[.pointer (some ⟨b, 0, none⟩), .string bx] w fun e w' => e = .returned (.tuple #[]) ∧ WK B b wa va w' (l ++ txE x) := by
  subst hbx
  have hs : (ba x).size = x.length := by simp [ba, ByteArray.size]
  refine h.call fun v hv => (Wr.text_any (ba x) b B v l w hv (by omega) (by omega) (Nat.le_trans h.hB h.size)).mono fun e w' ⟨q1, v', q2⟩ => ⟨q1, ⟨v', ?_⟩, h.hb, Nat.le_trans h.hB h.size, fun g hg => (hv.own.lt g hg).1⟩
  rw [hs, List.append_assoc] at q2
  exact q2
end
end Go.Proofs.Ytoogcafceghdjaa
