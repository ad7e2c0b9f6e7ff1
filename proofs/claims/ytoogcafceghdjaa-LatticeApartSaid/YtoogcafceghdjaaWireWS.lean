/- The Writer as a whole. No condition but bounds on sizes. -/
import Derived.Test.YtoogcafceghdjaaWireWriter
namespace Go.Proofs.Ytoogcafceghdjaa.Wr
open Go.RowKit

/-- The Writer in block b holds l; below B the world is as w0 was. -/
def WS (B b : Nat) (w0 w : World) (l : List Int) : Prop := B ≤ b ∧ B ≤ w0.heap.size ∧ Below B w0 w ∧ ∃ v, Wst B b w v l

theorem WS.size {B b : Nat} {w0 w : World} {l : List Int} (h : WS B b w0 w l) : B ≤ w.heap.size := Nat.le_trans h.2.1 h.2.2.1.size
theorem WS.step {B b : Nat} {w0 w w' : World} {v v' : Value} {l l' : List Int} (h1 : B ≤ b) (h2 : B ≤ w0.heap.size) (h3 : Below B w0 w) (hv : Wst B b w v l) (hv' : Wst B b w' v' l') (hk : Kept (fun k => k = b ∨ v.ownBlock = some k) w w') : WS B b w0 w' l' :=
  ⟨h1, h2, h3.trans (hk.below (Nat.le_trans h2 h3.size) (fun k hk => hk.elim (fun e => by omega) (fun e => (hv.own.lt k e).1))), v', hv'⟩

theorem uint_ws (n : Nat) (b B : Nat) (l : List Int) (w0 w : World) (hn : n < 18446744073709551616) (h : WS B b w0 w l) (hl : l.length ≤ 140737488300000) :
    Calls Try.prog 45 #[.pointer (some ⟨b, 0, none⟩), .int .u64 n] w fun e w' => e = .returned (.tuple #[]) ∧ WS B b w0 w' (l ++ enc n) := by
  have hB := h.size
  obtain ⟨h1, h2, h3, v, hv⟩ := h
  exact (uint_any n b B v l w hn hv hl hB).mono fun e w' ⟨he, v', hv', hk, _⟩ => ⟨he, WS.step h1 h2 h3 hv hv' hk⟩
theorem int_ws (n : Int) (b B : Nat) (l : List Int) (w0 w : World) (n0 : -9223372036854775808 ≤ n) (n1 : n ≤ 9223372036854775807) (h : WS B b w0 w l) (hl : l.length ≤ 70000000000000) :
    Calls Try.prog 46 #[.pointer (some ⟨b, 0, none⟩), .int .i64 n] w fun e w' => e = .returned (.tuple #[]) ∧ WS B b w0 w' (l ++ enc (zig n)) := by
  have hB := h.size
  obtain ⟨h1, h2, h3, v, hv⟩ := h
  exact (int_any n b B v l w n0 n1 hv hl hB).mono fun e w' ⟨he, v', hv', hk, _⟩ => ⟨he, WS.step h1 h2 h3 hv hv' hk⟩
theorem text_ws (s : ByteArray) (b B : Nat) (l : List Int) (w0 w : World) (hs : s.size ≤ 70000000000000) (h : WS B b w0 w l) (hl : l.length ≤ 70000000000000) :
    Calls Try.prog 48 #[.pointer (some ⟨b, 0, none⟩), .string s] w fun e w' => e = .returned (.tuple #[]) ∧ WS B b w0 w' (l ++ enc s.size ++ strBytes s) := by
  have hB := h.size
  obtain ⟨h1, h2, h3, v, hv⟩ := h
  exact (text_any s b B v l w hv hs hl hB).mono fun e w' ⟨he, v', hv', hk, _⟩ => ⟨he, WS.step h1 h2 h3 hv hv' hk⟩
theorem data_ws (b B : Nat) (l : List Int) (w0 w : World) (h : WS B b w0 w l) (hl : l.length ≤ 140737488351232) :
    Calls Try.prog 22 #[.pointer (some ⟨b, 0, none⟩)] w fun e w' => e = .returned (.slice (some ⟨w.heap.size, 0, none⟩) l.length l.length) ∧
      w'.heap[w.heap.size]? = some (.cells (bs l).toArray 5 (0, 0)) ∧ WS B b w0 w' l := by
  obtain ⟨h1, h2, h3, v, hv⟩ := h
  refine (data_any b B v l w hv hl).mono fun e w' ⟨he, hr, hb⟩ => ⟨he, hr, h1, h2, h3.trans (hb.mono (Nat.le_trans h2 h3.size)), v, ?_⟩
  exact ⟨(hb.block b (lt_of_block hv.blk)).trans hv.blk, own_same hv.own fun k hk => hb.block k (hv.own.lt k hk).2⟩

theorem ws_new (w : World) : WS w.heap.size w.heap.size w (w.alloc (.cells #[.slice none 0 0] 44)) [] :=
  ⟨Nat.le_refl _, Nat.le_refl _, (Below.refl _ _).alloc (Nat.le_refl _) _, .slice none 0 0, ⟨heap_alloc_new _ _, World.ownsRow_nil _ _ _ _⟩⟩

/-- A row, as cells behind its address. -/
theorem row_src {w : World} {g : Nat} {l : List Int} (h : w.heap[g]? = some (.cells (bs l).toArray 5 (0, 0))) : 0 < l.length → ∃ ad, (some (⟨g, 0, none⟩ : Addr)) = some ad ∧ ∀ j v, (bs l)[j]? = some v → w.cell? (ad.add j) = some v :=
  fun _ => ⟨_, rfl, fun j v hv => World.news_of_block h j v (by simpa using hv)⟩

end Go.Proofs.Ytoogcafceghdjaa.Wr
