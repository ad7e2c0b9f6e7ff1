/- The Writer as a whole, and the examples of the chapter: awake returns true. No condition. -/
import Derived.Test.YtijjaoabkbeeeaaWireReader3
namespace Go.Proofs.Ytijjaoabkbeeeaa
open Go.RowKit

/-- The Writer in block b holds l; below B the world is as w0 was. -/
def WS (B b : Nat) (w0 w : World) (l : List Int) : Prop := B ≤ b ∧ B ≤ w0.heap.size ∧ Below B w0 w ∧ ∃ v, Wst B b w v l

theorem WS.size {B b : Nat} {w0 w : World} {l : List Int} (h : WS B b w0 w l) : B ≤ w.heap.size := Nat.le_trans h.2.1 h.2.2.1.size
theorem WS.step {B b : Nat} {w0 w w' : World} {v v' : Value} {l l' : List Int} (h1 : B ≤ b) (h2 : B ≤ w0.heap.size) (h3 : Below B w0 w) (hv : Wst B b w v l) (hv' : Wst B b w' v' l') (hk : Kept (fun k => k = b ∨ v.ownBlock = some k) w w') : WS B b w0 w' l' :=
  ⟨h1, h2, h3.trans (hk.below (Nat.le_trans h2 h3.size) (fun k hk => hk.elim (fun e => by omega) (fun e => (hv.own.lt k e).1))), v', hv'⟩

theorem uint_ws (n : Nat) (b B : Nat) (l : List Int) (w0 w : World) (hn : n < 18446744073709551616) (h : WS B b w0 w l) (hl : l.length ≤ 140737488300000) :
    Calls Try.prog 28 #[.pointer (some ⟨b, 0, none⟩), .int .u64 n] w fun e w' => e = .returned (.tuple #[]) ∧ WS B b w0 w' (l ++ enc n) := by
  have hB := h.size
  obtain ⟨h1, h2, h3, v, hv⟩ := h
  exact (uint_any n b B v l w hn hv hl hB).mono fun e w' ⟨he, v', hv', hk, _⟩ => ⟨he, WS.step h1 h2 h3 hv hv' hk⟩
theorem int_ws (n : Int) (b B : Nat) (l : List Int) (w0 w : World) (n0 : -9223372036854775808 ≤ n) (n1 : n ≤ 9223372036854775807) (h : WS B b w0 w l) (hl : l.length ≤ 70000000000000) :
    Calls Try.prog 29 #[.pointer (some ⟨b, 0, none⟩), .int .i64 n] w fun e w' => e = .returned (.tuple #[]) ∧ WS B b w0 w' (l ++ enc (zig n)) := by
  have hB := h.size
  obtain ⟨h1, h2, h3, v, hv⟩ := h
  exact (int_any n b B v l w n0 n1 hv hl hB).mono fun e w' ⟨he, v', hv', hk, _⟩ => ⟨he, WS.step h1 h2 h3 hv hv' hk⟩
theorem bool_ws (x : Bool) (b B : Nat) (l : List Int) (w0 w : World) (h : WS B b w0 w l) (hl : l.length ≤ 70000000000000) :
    Calls Try.prog 30 #[.pointer (some ⟨b, 0, none⟩), .bool x] w fun e w' => e = .returned (.tuple #[]) ∧ WS B b w0 w' (l ++ [if x then 1 else 0]) := by
  have hB := h.size
  obtain ⟨h1, h2, h3, v, hv⟩ := h
  exact (bool_any x b B v l w hv (by omega) hB).mono fun e w' ⟨he, v', hv', hk, _⟩ => ⟨he, WS.step h1 h2 h3 hv hv' hk⟩
theorem text_ws (s : ByteArray) (b B : Nat) (l : List Int) (w0 w : World) (hs : s.size ≤ 70000000000000) (h : WS B b w0 w l) (hl : l.length ≤ 70000000000000) :
    Calls Try.prog 31 #[.pointer (some ⟨b, 0, none⟩), .string s] w fun e w' => e = .returned (.tuple #[]) ∧ WS B b w0 w' (l ++ enc s.size ++ strBytes s) := by
  have hB := h.size
  obtain ⟨h1, h2, h3, v, hv⟩ := h
  exact (text_any s b B v l w hv hs hl hB).mono fun e w' ⟨he, v', hv', hk, _⟩ => ⟨he, WS.step h1 h2 h3 hv hv' hk⟩
theorem data_ws (b B : Nat) (l : List Int) (w0 w : World) (h : WS B b w0 w l) (hl : l.length ≤ 140737488351232) :
    Calls Try.prog 27 #[.pointer (some ⟨b, 0, none⟩)] w fun e w' => e = .returned (.slice (some ⟨w.heap.size, 0, none⟩) l.length l.length) ∧
      w'.heap[w.heap.size]? = some (.cells (bs l).toArray 5 (0, 0)) ∧ WS B b w0 w' l := by
  obtain ⟨h1, h2, h3, v, hv⟩ := h
  refine (data_any b B v l w hv hl).mono fun e w' ⟨he, hr, hb⟩ => ⟨he, hr, h1, h2, h3.trans (hb.mono (Nat.le_trans h2 h3.size)), v, ?_⟩
  exact ⟨(hb.block b (lt_of_block hv.blk)).trans hv.blk, own_same hv.own fun k hk => hb.block k (hv.own.lt k hk).2⟩

theorem ws_new (w : World) : WS w.heap.size w.heap.size w (w.alloc (.cells #[.slice none 0 0] 48)) [] :=
  ⟨Nat.le_refl _, Nat.le_refl _, (Below.refl _ _).alloc (Nat.le_refl _) _, .slice none 0 0, ⟨heap_alloc_new _ _, World.ownsRow_nil _ _ _ _⟩⟩

/-- A row, as cells behind its address. -/
theorem row_src {w : World} {g : Nat} {l : List Int} (h : w.heap[g]? = some (.cells (bs l).toArray 5 (0, 0))) : 0 < l.length → ∃ ad, (some (⟨g, 0, none⟩ : Addr)) = some ad ∧ ∀ j v, (bs l)[j]? = some v → w.cell? (ad.add j) = some v :=
  fun _ => ⟨_, rfl, fun j v hv => World.news_of_block h j v (by simpa using hv)⟩

theorem ws_e1 {B b : Nat} {w0 w : World} (h : WS B b w0 w ([] ++ enc 128)) : WS B b w0 w [128, 1] := by
  have e1 : enc 128 = [128, 1] := by rw [enc_ge (by omega), enc_lt (by omega)]; rfl
  rw [e1] at h; exact h
theorem ws_e2 {B b : Nat} {w0 w : World} (h : WS B b w0 w ([128, 1] ++ enc (zig (-1)))) : WS B b w0 w [128, 1, 1] := by
  have e2 : enc (zig (-1)) = [1] := by rw [show zig (-1) = 1 by decide, enc_lt (by omega)]; rfl
  rw [e2] at h; exact h
theorem ws_e4 {B b : Nat} {w0 w : World} (h : WS B b w0 w ([128, 1, 1, 1] ++ enc (ByteArray.mk #[97, 98]).size ++ strBytes ⟨#[97, 98]⟩)) : WS B b w0 w [128, 1, 1, 1, 2, 97, 98] := by
  have e3 : enc (ByteArray.mk #[97, 98]).size = [2] := by rw [show (ByteArray.mk #[97, 98]).size = 2 from rfl, enc_lt (by omega)]; rfl
  rw [e3] at h; exact h
theorem str7 : strOfNums [128, 1, 1, 1, 2, 97, 98] = ⟨#[128, 1, 1, 1, 2, 97, 98]⟩ := by decide
theorem data7 (b B : Nat) (w0 w : World) (h : WS B b w0 w [128, 1, 1, 1, 2, 97, 98]) :
    Calls Try.prog 27 #[.pointer (some ⟨b, 0, none⟩)] w fun e w' => e = .returned (.slice (some ⟨w.heap.size, 0, none⟩) 7 7) ∧
      w'.heap[w.heap.size]? = some (.cells (bs [128, 1, 1, 1, 2, 97, 98]).toArray 5 (0, 0)) ∧ Below B w0 w' :=
  (data_ws b B _ w0 w h (by simp)).mono fun e w' ⟨he, h1, h2⟩ => ⟨he, h1, h2.2.2.1⟩

theorem exR1 (w : World) (B : Nat) (w0 : World) (hB : B ≤ w0.heap.size) (hb : Below B w0 w) :
    Calls Try.prog 14 #[.slice (some ⟨w.heap.size, 0, none⟩) 2 2] (w.alloc (.cells #[.int .u8 128, .int .u8 0] 5)) fun e w' => ∃ b g, e = .returned (.pointer (some ⟨b, 0, none⟩)) ∧ Rst w' b g [128, 0] 0 0 0 ∧ Below B w0 w' ∧ B ≤ b :=
  (newReader_any _ [128, 0] 2 _ (by simp) (by simp) (row_src (heap_alloc_new _ _))).mono fun e w' ⟨b, g, he, h1, h2, h3, _⟩ =>
    ⟨b, g, he, h1, (hb.alloc (Nat.le_trans hB hb.size) _).trans (h2.mono (by have := hb.size; simp; omega)), by have := hb.size; simp at h3; omega⟩
theorem exR2 (w : World) (B : Nat) (w0 : World) (hB : B ≤ w0.heap.size) (hb : Below B w0 w) :
    Calls Try.prog 14 #[.slice (some ⟨w.heap.size, 0, none⟩) 3 3] (w.alloc (.cells #[.int .u8 2, .int .u8 0, .int .u8 0] 5)) fun e w' => ∃ b g, e = .returned (.pointer (some ⟨b, 0, none⟩)) ∧ Rst w' b g [2, 0, 0] 0 0 0 ∧ Below B w0 w' ∧ B ≤ b :=
  (newReader_any _ [2, 0, 0] 3 _ (by simp) (by simp) (row_src (heap_alloc_new _ _))).mono fun e w' ⟨b, g, he, h1, h2, h3, _⟩ =>
    ⟨b, g, he, h1, (hb.alloc (Nat.le_trans hB hb.size) _).trans (h2.mono (by have := hb.size; simp; omega)), by have := hb.size; simp at h3; omega⟩
theorem RTo.bel {w w' w0 : World} {b g off last B : Nat} {d : List Int} {err : Int} (h : RTo w w' b g d off last err) (hb : Below B w0 w) (hB : B ≤ w0.heap.size) (hbb : B ≤ b) : Below B w0 w' :=
  hb.trans (h.2.1.below (Nat.le_trans hB hb.size) (fun k hk => by omega))
theorem ex1_uint (b g : Nat) (w : World) (h : Rst w b g [128, 0] 0 0 0) :
    Calls Try.prog 20 #[.pointer (some ⟨b, 0, none⟩)] w fun e w' => e = .returned (.int .u64 0) ∧ RTo w w' b g [128, 0] 0 0 2 := ruint_bad b g 0 0 _ w h (by decide)
theorem ex1_off (b g : Nat) (w : World) (h : Rst w b g [128, 0] 0 0 2) :
    Calls Try.prog 17 #[.pointer (some ⟨b, 0, none⟩)] w fun e w' => e = .returned (.int .i64 0) ∧ w = w' := offset_any b g 0 0 _ 2 w h
theorem ex1_left (b g : Nat) (w : World) (h : Rst w b g [128, 0] 0 0 2) :
    Calls Try.prog 18 #[.pointer (some ⟨b, 0, none⟩)] w fun e w' => e = .returned (.int .i64 2) ∧ Drew w w' := left_any b g 0 0 _ 2 w h
theorem ex2_count (b g : Nat) (w : World) (h : Rst w b g [2, 0, 0] 0 0 0) :
    Calls Try.prog 32 #[.pointer (some ⟨b, 0, none⟩)] w fun e w' => e = .returned (.int .i64 2) ∧ RTo w w' b g [2, 0, 0] 1 0 0 := rcount_ok b g 0 0 2 1 _ w h (by decide) (by decide)
theorem ex2_left (b g : Nat) (w : World) (h : Rst w b g [2, 0, 0] 1 0 0) :
    Calls Try.prog 18 #[.pointer (some ⟨b, 0, none⟩)] w fun e w' => e = .returned (.int .i64 2) ∧ Drew w w' := left_any b g 1 0 _ 0 w h
theorem ex2_end (b g : Nat) (w : World) (h : Rst w b g [2, 0, 0] 1 0 0) :
    Calls Try.prog 19 #[.pointer (some ⟨b, 0, none⟩)] w fun e w' => e = .returned (.int .i64 2) ∧ Drew w w' := end_bad b g 1 0 _ 0 w h (Or.inr ⟨rfl, by decide⟩)

set_option maxHeartbeats 1600000 in
theorem awake_any (w : World) : Calls Try.prog 10 #[] w fun e w' => e = .returned (.bool true) ∧ Below w.heap.size w w' := by
  have H0 := hid_of (ws_new w)
  go_enter Try.func10, Try.ntmps10
  go_wp2_with (first
    | (go_at_call 28; refine (uint_ws 128 w.heap.size w.heap.size [] w _ (by omega) H0.out (by simp)).mono ?_; rintro e w1 ⟨rfl, h1⟩; have H1 := hid_of (ws_e1 h1); clear h1)
    | (go_at_call 29; refine (int_ws (-1) w.heap.size w.heap.size [128, 1] w _ (by omega) (by omega) H1.out (by simp)).mono ?_; rintro e w2 ⟨rfl, h2⟩; have H2 := hid_of (ws_e2 h2); clear h2)
    | (go_at_call 30; refine (bool_ws true w.heap.size w.heap.size [128, 1, 1] w _ H2.out (by simp)).mono ?_; rintro e w3 ⟨rfl, h3⟩; have H3 := hid_of (show WS _ _ _ _ [128, 1, 1, 1] from h3); clear h3)
    | (go_at_call 31; refine (text_ws ⟨#[97, 98]⟩ w.heap.size w.heap.size [128, 1, 1, 1] w _ (by decide) H3.out (by simp)).mono ?_; rintro e w4 ⟨rfl, h4⟩; have H4 := hid_of (ws_e4 h4); clear h4)
    | (go_at_call 27; refine (data7 w.heap.size w.heap.size w _ H4.out).mono ?_; rintro e w5 ⟨rfl, h5, hb5⟩; have H5 := hid_of h5; have HB5 := hid_of hb5; clear h5 hb5)
    | (with_reducible refine wpList_str_n _ rfl 25 9 _ rfl 5 Try.underlying25 Try.underlying5 Try.underlying9 _ [128, 1, 1, 1, 2, 97, 98] 7 _ rfl rfl (row_src H5.out) ?_; rw [str7])
    | (go_at_call 14; (first
        | ((with_reducible refine (exR1 w5 w.heap.size w (Nat.le_refl _) HB5.out).mono ?_); rintro e w6 ⟨rb, rg, rfl, h6, hb6, hbb6⟩; have H6 := hid_of h6; have HB6 := hid_of hb6; have HBB6 := hid_of hbb6; clear h6 hb6 hbb6)
        | (refine (exR2 (w7.drewN m8) w.heap.size w (Nat.le_refl _) (below_drewN (RTo.bel H7.out HB6.out (Nat.le_refl _) HBB6.out) m8)).mono ?_; rintro e w9 ⟨qb, qg, rfl, h9, hb9, hbb9⟩; have H9 := hid_of h9; have HB9 := hid_of hb9; have HBB9 := hid_of hbb9; clear h9 hb9 hbb9)))
    | (go_at_call 20; refine (ex1_uint rb rg w6 H6.out).mono ?_; rintro e w7 ⟨rfl, h7⟩; have H7 := hid_of h7; clear h7)
    | (go_at_call 17; refine (ex1_off rb rg w7 H7.out.1).mono ?_; rintro e w' ⟨rfl, rfl⟩)
    | (go_at_call 32; refine (ex2_count qb qg w9 H9.out).mono ?_; rintro e w10 ⟨rfl, h10⟩; have H10 := hid_of h10; clear h10)
    | (go_at_call 16; (first
        | ((with_reducible refine (err_any rb rg 0 0 [128, 0] 2 w7 (RTo.st H7.out)).mono ?_); rintro e w' ⟨rfl, rfl⟩)
        | ((with_reducible refine (err_any qb qg 1 0 [2, 0, 0] 0 w10 (RTo.st H10.out)).mono ?_); rintro e w' ⟨rfl, rfl⟩)))
    | (go_at_call 18; (first
        | ((with_reducible refine (ex1_left rb rg w7 (RTo.st H7.out)).mono ?_); rintro e w' ⟨rfl, m8, rfl⟩)
        | ((with_reducible refine (ex2_left qb qg w10 (RTo.st H10.out)).mono ?_); rintro e w' ⟨rfl, m11, rfl⟩)))
    | (go_at_call 19; refine (ex2_end qb qg _ (Rst.drewN (RTo.st H10.out) m11)).mono ?_; rintro e w' ⟨rfl, m12, rfl⟩))
  go_ret
  refine ⟨rfl, ?_⟩
  exact below_drewN (RTo.bel H10.out HB9.out (Nat.le_refl _) HBB9.out) _

end Go.Proofs.Ytijjaoabkbeeeaa
