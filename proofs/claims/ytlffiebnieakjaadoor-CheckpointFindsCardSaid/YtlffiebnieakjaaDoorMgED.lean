/- Texts in one: CkOp, CkSv, CkS0, CkS1, CkS2, CkS3, CkS4, CkS5, CkS6, CkSa, CkSt2, CkLv. -/
import Derived.Test.YtlffiebnieakjaaDoorMgEC
set_option linter.unusedVariables false
set_option linter.unusedSimpArgs false
/- Checkpoint: Open. Bounds on sizes alone. -/
namespace Go.Proofs.YtlffiebnieakjaaDoor
open Go.RowKit
set_option maxRecDepth 100000
set_option maxHeartbeats 6400000

/-- A store in a law's run, on the disk in block b. -/
def CKR (B : Nat) (T : Nat → Prop) (w : World) (cb b : Nat) (M : DM) (f n i : Nat) (c : List Int) (g : Nat) (wk : Bool) : Prop := ∃ U : Nat → Prop, (∀ k, U k → B ≤ k ∧ k < w.heap.size ∧ ¬ T k) ∧ SK U w cb b f n M.sz i c g wk ∧ DR B (fun k => T k ∨ U k) w b M
theorem slot_some {dg : List Int → List Int} {h d c : List Int} {g : Nat} (e : slotF dg h d = some (c, g)) : 1 ≤ g ∧ g ≤ maxG ∧ c.length ≤ d.length := by
  unfold slotF at e
  simp only [] at e
  split at e
  · cases e
  · rename_i hn
    cases e
    exact ⟨by omega, by omega, by rw [List.length_take]; omega⟩
/-- The newest behind the first slot. -/
def nw1 (a : Option (List Int × Nat)) : List Int × Nat × Nat := match a with
  | none => ([], 0, 1)
  | some x => (x.1, x.2, 0)
theorem newest_step {a b : Option (List Int × Nat)} (hb : ∀ x, b = some x → 1 ≤ x.2) : newestF a b = if (nw1 a).2.1 < (b.getD ([], 0)).2 then ((b.getD ([], 0)).1, (b.getD ([], 0)).2, 1) else nw1 a := by
  cases a with
  | none =>
    cases b with
    | none => rfl
    | some y =>
      have := hb y rfl
      show (y.1, y.2, 1) = if 0 < y.2 then (y.1, y.2, 1) else ([], 0, 1)
      rw [if_pos (by omega)]
  | some x =>
    cases b with
    | none =>
      show (x.1, x.2, 0) = if x.2 < 0 then _ else (x.1, x.2, 0)
      rw [if_neg (by omega)]
    | some y =>
      show (if x.2 ≥ y.2 then (x.1, x.2, 0) else (y.1, y.2, 1)) = if x.2 < y.2 then (y.1, y.2, 1) else (x.1, x.2, 0)
      by_cases h : x.2 < y.2
      · rw [if_pos h, if_neg (by omega)]
      · rw [if_neg h, if_pos (by omega)]
theorem body_len {M : DM} (hok : M.Ok) {f n : Nat} (hf : f + n ≤ M.secs.length) (hn : 1 ≤ n) : (areaF (bodC M f) (n - 1)).length = (n - 1) * M.sz := areaF_len _ fun i hi => flat_con hok (by omega)
abbrev stRow0 : List Value := [.pointer none, .int .i64 0, .int .i64 0, .int .i64 0, .pointer none, .int .i64 0, .int .i64 0, .int .i64 0, .int .i64 1, .slice none 0 0, .int .i64 0, .bool true]
abbrev stRow1 (b f n z i : Nat) (vs : Value) (g : Nat) : List Value := [.pointer (some ⟨b, 0, none⟩), .int .i64 f, .int .i64 n, .int .i64 z, .pointer none, .int .i64 0, .int .i64 0, .int .i64 0, .int .i64 i, vs, .int .i64 g, .bool true]
abbrev stRowG (b f fn n z i : Nat) (vs : Value) (g : Nat) (wk : Bool) : List Value := [.pointer (some ⟨b, 0, none⟩), .int .i64 f, .int .i64 n, .int .i64 z, .pointer (some ⟨b, 0, none⟩), .int .i64 (fn : Nat), .int .i64 n, .int .i64 z, .int .i64 i, vs, .int .i64 g, .bool wk]
theorem row_set4_0 {w : World} {cb t : Nat} {a0 a1 a2 a3 : Value} {r : List Value} (v0 v1 v2 v3 : Value) (h : w.heap[cb]? = some (.cells (a0 :: a1 :: a2 :: a3 :: r).toArray t (0, 0))) : ((((w.setCell ⟨cb, 0, none⟩ v0).setCell ⟨cb, 1, none⟩ v1).setCell ⟨cb, 2, none⟩ v2).setCell ⟨cb, 3, none⟩ v3).heap[cb]? = some (.cells (v0 :: v1 :: v2 :: v3 :: r).toArray t (0, 0)) := blk_setCell (blk_setCell (blk_setCell (blk_setCell h)))
theorem row_set4_4 {w : World} {cb t : Nat} {b0 b1 b2 b3 a0 a1 a2 a3 : Value} {r : List Value} (v0 v1 v2 v3 : Value) (h : w.heap[cb]? = some (.cells (b0 :: b1 :: b2 :: b3 :: a0 :: a1 :: a2 :: a3 :: r).toArray t (0, 0))) : ((((w.setCell ⟨cb, 4, none⟩ v0).setCell ⟨cb, 5, none⟩ v1).setCell ⟨cb, 6, none⟩ v2).setCell ⟨cb, 7, none⟩ v3).heap[cb]? = some (.cells (b0 :: b1 :: b2 :: b3 :: v0 :: v1 :: v2 :: v3 :: r).toArray t (0, 0)) := blk_setCell (blk_setCell (blk_setCell (blk_setCell h)))
theorem bel_set4 {w w0 : World} {cb o B : Nat} (h : Below B w0 w) (hb : B ≤ cb) (v0 v1 v2 v3 : Value) : Below B w0 ((((w.setCell ⟨cb, o, none⟩ v0).setCell ⟨cb, o + 1, none⟩ v1).setCell ⟨cb, o + 2, none⟩ v2).setCell ⟨cb, o + 3, none⟩ v3) := (((h.setCell (p := ⟨cb, o, none⟩) hb _).setCell (p := ⟨cb, o + 1, none⟩) hb _).setCell (p := ⟨cb, o + 2, none⟩) hb _).setCell (p := ⟨cb, o + 3, none⟩) hb _
theorem keeps_setC {S : Nat → Prop} (cb o : Nat) (w : World) (v : Value) (hS : ∀ k, S k → k ≠ cb) : Keeps S w (w.setCell ⟨cb, o, none⟩ v) := by
  have h := Kept.set w cb o v
  exact ⟨h.size, fun k hk hl => h.block k hl (hS k hk)⟩
theorem keeps_set4 {S : Nat → Prop} (cb o : Nat) (w : World) (v0 v1 v2 v3 : Value) (hS : ∀ k, S k → k ≠ cb) : Keeps S w ((((w.setCell ⟨cb, o, none⟩ v0).setCell ⟨cb, o + 1, none⟩ v1).setCell ⟨cb, o + 2, none⟩ v2).setCell ⟨cb, o + 3, none⟩ v3) :=
  (((keeps_setC cb o w v0 hS).trans (keeps_setC cb _ _ v1 hS)).trans (keeps_setC cb _ _ v2 hS)).trans (keeps_setC cb _ _ v3 hS)
theorem keeps_set3 {S : Nat → Prop} (cb : Nat) (w : World) (v0 v1 v2 : Value) (hS : ∀ k, S k → k ≠ cb) : Keeps S w (((w.setCell ⟨cb, 8, none⟩ v0).setCell ⟨cb, 9, none⟩ v1).setCell ⟨cb, 10, none⟩ v2) :=
  ((keeps_setC cb _ w v0 hS).trans (keeps_setC cb _ _ v1 hS)).trans (keeps_setC cb _ _ v2 hS)
theorem nil_crS (T : Nat → Prop) (w : World) : CR T w (.slice none 0 0) [] := ⟨⟨none, 0, rfl, Nat.le_refl _, by omega, fun h => by simp [by8] at h⟩, fun h => by simp at h⟩
theorem newest_ok {a a2 : Option (List Int × Nat)} {R : Nat} (h1 : ∀ x, a = some x → x.1.length ≤ R ∧ x.2 ≤ maxG) (h2 : ∀ x, a2 = some x → x.1.length ≤ R ∧ x.2 ≤ maxG) : (newestF a a2).1.length ≤ R ∧ (newestF a a2).2.1 ≤ maxG ∧ (newestF a a2).2.2 ≤ 1 := by
  cases a with
  | none =>
    cases a2 with
    | none => exact ⟨Nat.zero_le _, Nat.zero_le _, Nat.le_refl _⟩
    | some y => exact ⟨(h2 y rfl).1, (h2 y rfl).2, Nat.le_refl _⟩
  | some x =>
    cases a2 with
    | none => exact ⟨(h1 x rfl).1, (h1 x rfl).2, Nat.zero_le _⟩
    | some y =>
      show (if x.2 ≥ y.2 then (x.1, x.2, 0) else (y.1, y.2, 1) : List Int × Nat × Nat).1.length ≤ R ∧ (if x.2 ≥ y.2 then (x.1, x.2, 0) else (y.1, y.2, 1) : List Int × Nat × Nat).2.1 ≤ maxG ∧ (if x.2 ≥ y.2 then (x.1, x.2, 0) else (y.1, y.2, 1) : List Int × Nat × Nat).2.2 ≤ 1
      split
      · exact ⟨(h1 x rfl).1, (h1 x rfl).2, Nat.zero_le _⟩
      · exact ⟨(h2 y rfl).1, (h2 y rfl).2, Nat.le_refl _⟩
section
variable {B : Nat} {T : Nat → Prop} {b : Nat} {M : DM} {f ct : Nat} {w : World}
theorem open_fin {n z cb : Nat} {a a2 : Option (List Int × Nat)} {N : List Int × Nat × Nat} (h : DR B T w b M) (t : TR B T w) (hreg : f + ct ≤ M.secs.length ∧ 4 ≤ ct) (ha : a = slD M f n) (ha2 : a2 = slD M (f + n) n) (hN : N = newestF a a2) (hz : z = M.sz) (hn : n = ct / 2) (hcb : w.heap.size ≤ cb) (x : Option Addr) (k m : Nat) (wr : World) (hx : wr.heap[cb]? = some (.cells (stRow b f n z N.2.2 (.slice x k m) N.2.1 true).toArray 72 (0, 0))) (hr : CR (fun k => w.heap.size ≤ k ∧ k ≠ cb) wr (.slice x k m) N.1) (hb : Below w.heap.size w wr) : ∃ cb', Ending.returned (.tuple #[.pointer (some ⟨cb, 0, none⟩), .int .i64 0]) = .returned (.tuple #[.pointer (some ⟨cb', 0, none⟩), .int .i64 0]) ∧ CKR B T wr cb' b M f n N.2.2 N.1 N.2.1 true ∧ Below w.heap.size w wr := by
  have hok := h.ok
  have hsl := hok.secs
  have hB := t.hB
  obtain ⟨n1, n2, n3⟩ := newest_ok (a := a) (a2 := a2) (R := (n - 1) * M.sz) (fun y hy => by
    have h9 := slot_some (c := y.1) (g := y.2) (by rw [ha, slD] at hy; exact hy)
    rw [body_len hok (by omega) (by omega)] at h9
    exact ⟨h9.2.2, h9.2.1⟩) (fun y hy => by
    have h9 := slot_some (c := y.1) (g := y.2) (by rw [ha2, slD] at hy; exact hy)
    rw [body_len hok (by omega) (by omega)] at h9
    exact ⟨h9.2.2, h9.2.1⟩)
  rw [← hN] at n1 n2 n3
  refine ⟨cb, rfl, ⟨fun k => w.heap.size ≤ k ∧ k < wr.heap.size, fun k hk => ⟨by omega, hk.2, fun ht => by have := t.lt k ht; omega⟩, ⟨⟨x, k, m, by rw [← hz]; exact hx, hr.lt.mono fun k hk => ⟨⟨hk.1.1, hk.2⟩, hk.1.2⟩⟩, ⟨hcb, lt_of_block hx⟩, n3, ⟨by omega, by omega, hok.sz, by omega⟩, n1, n2⟩, ?_⟩, hb⟩
  obtain ⟨SD, h1, h2⟩ := h
  exact ⟨SD, IG.keep h1 ⟨hb.size, fun k _ hl => hb.block k hl⟩, fun k hk => ⟨(h2 k hk).1, Nat.lt_of_lt_of_le (h2 k hk).2.1 hb.size, fun e => by
    rcases e with e | e
    · exact (h2 k hk).2.2 e
    · have := (h2 k hk).2.1; omega⟩⟩
theorem open_yes (h : DR B T w b M) (t : TR B T w) (hreg : f + ct ≤ M.secs.length ∧ 4 ≤ ct) (hz1 : 64 ≤ M.sz) (ho : M.off = false) (hc : M.cache.length ≤ 100000) (hr : RngM M) (hG : Sh.Glob w) :
    Calls Tryd.prog 14 #[.pointer (some ⟨b, 0, none⟩), .int .i64 f, .int .i64 ct] w fun e w' => ∃ cb, e = .returned (.tuple #[.pointer (some ⟨cb, 0, none⟩), .int .i64 0]) ∧ CKR B T w' cb b M f (ct / 2) (newestF (slD M f (ct / 2)) (slD M (f + ct / 2) (ct / 2))).2.2 (newestF (slD M f (ct / 2)) (slD M (f + ct / 2) (ct / 2))).1 (newestF (slD M f (ct / 2)) (slD M (f + ct / 2) (ct / 2))).2.1 true ∧ Below w.heap.size w w' := by
  have hok := h.ok
  have hsl := hok.secs
  have hz4 := hok.sz
  obtain ⟨n, hn⟩ : ∃ n, n = ct / 2 := ⟨_, rfl⟩
  have hn2 : 2 ≤ n ∧ 2 * n ≤ ct := by omega
  obtain ⟨z, hz⟩ : ∃ z, z = M.sz := ⟨_, rfl⟩
  obtain ⟨L, hL⟩ : ∃ L, L = M.secs.length := ⟨_, rfl⟩
  have CN := hid_of (fun (X : World) (hX : Below w.heap.size w X) => show Calls Tryd.prog 12 #[.pointer (some ⟨b, 0, none⟩)] X (fun e w' => e = .returned (.int .i64 (L : Nat)) ∧ Below X.heap.size X w') from by rw [hL]; exact (h.bel0 hX).sectors)
  have CZ := hid_of (fun (X : World) (hX : Below w.heap.size w X) => show Calls Tryd.prog 19 #[.pointer (some ⟨b, 0, none⟩)] X (fun e w' => e = .returned (.int .i64 (z : Nat)) ∧ Below X.heap.size X w') from by rw [hz]; exact (h.bel0 hX).size)
  have CD := hid_of (fun (X : World) (hX : Below w.heap.size w X) => show Calls Tryd.prog 27 #[.pointer (some ⟨b, 0, none⟩)] X (fun e w' => e = .returned (.bool false) ∧ Below X.heap.size X w') from by rw [← ho]; exact (h.bel0 hX).down)
  have CL := hid_of (fun (X : World) (hX : Below w.heap.size w X) (fs : Nat) (hfs : fs + n ≤ M.secs.length) => load_any fs n z X (h.bel0 hX) hz.symm (by omega) (by omega) hfs ho hc hr (hG.bel hX hG.two))
  have l1 : ¬ (f : Int) < 0 := by omega
  have l2 : ¬ (ct : Int) < 4 := by omega
  have l3 : IntKind.i64.wrap ((L : Int) - (f : Int)) = (L : Int) - (f : Int) := IntWalk.i64_in _ (by omega)
  have l4 : ¬ (L : Int) - (f : Int) < (ct : Int) := by omega
  have l5 : ¬ (z : Int) < 64 := by omega
  have l6 : (ct : Int).tdiv 2 = (n : Int) := by rw [Int.tdiv_eq_ediv_of_nonneg (by omega)]; omega
  have l7 : IntKind.i64.wrap (n : Int) = (n : Int) := IntWalk.i64_in _ (by omega)
  have ct9 : ct ≤ 65536 := by omega
  have f9 : f ≤ 65536 := by omega
  obtain ⟨a, ha⟩ : ∃ a, a = slD M f n := ⟨_, rfl⟩
  obtain ⟨a2, ha2⟩ : ∃ a, a = slD M (f + n) n := ⟨_, rfl⟩
  obtain ⟨N, hN⟩ : ∃ N, N = newestF a a2 := ⟨_, rfl⟩
  rw [← hn, ← ha, ← ha2, ← hN]
  obtain ⟨p, hp⟩ : ∃ p : List Int × Nat, p = a.getD ([], 0) := ⟨_, rfl⟩
  obtain ⟨p2, hp2⟩ : ∃ p : List Int × Nat, p = a2.getD ([], 0) := ⟨_, rfl⟩
  obtain ⟨fn, hfn⟩ : ∃ fn, fn = f + n := ⟨_, rfl⟩
  have CL0 := hid_of (fun (X : World) (hX : Below w.heap.size w X) => show Calls Tryd.prog 33 #[slV b f n z] X (fun e w' => ∃ x k c, e = .returned (.tuple #[.slice x k c, .int .i64 (p.2 : Nat)]) ∧ CR (fun k => X.heap.size ≤ k) w' (.slice x k c) p.1 ∧ Below X.heap.size X w') from by
    have h9 := CL.out X hX f (by omega)
    rw [← ha] at h9
    rw [hp]
    exact h9)
  have CL1 := hid_of (fun (X : World) (hX : Below w.heap.size w X) => show Calls Tryd.prog 33 #[slV b fn n z] X (fun e w' => ∃ x k c, e = .returned (.tuple #[.slice x k c, .int .i64 (p2.2 : Nat)]) ∧ CR (fun k => X.heap.size ≤ k) w' (.slice x k c) p2.1 ∧ Below X.heap.size X w') from by
    have h9 := CL.out X hX (f + n) (by omega)
    rw [← ha2, ← hfn] at h9
    rw [hp2]
    exact h9)
  have g1 : ∀ x, a = some x → 1 ≤ x.2 := fun x hx => (slot_some (c := x.1) (g := x.2) (by rw [ha, slD] at hx; exact hx)).1
  have g2 : ∀ x, a2 = some x → 1 ≤ x.2 := fun x hx => (slot_some (c := x.1) (g := x.2) (by rw [ha2, slD] at hx; exact hx)).1
  have HST0 := hid_of (show (0 < p.2 → nw1 a = (p.1, p.2, 0)) ∧ (¬ 0 < p.2 → nw1 a = ([], 0, 1)) from by
    rw [hp]
    cases a with
    | none => exact ⟨fun h => absurd h (Nat.lt_irrefl 0), fun _ => rfl⟩
    | some x => exact ⟨fun _ => rfl, fun h => absurd (g1 x rfl) (by exact fun h2 => h h2)⟩)
  have HST1 := hid_of (show ((nw1 a).2.1 < p2.2 → N = (p2.1, p2.2, 1)) ∧ (¬ (nw1 a).2.1 < p2.2 → N = nw1 a) from by
    rw [hN, newest_step g2, hp2]
    exact ⟨fun h => if_pos h, fun h => if_neg h⟩)
  have m1 : IntKind.i64.wrap (0 * (n : Int)) = 0 := by rw [Int.zero_mul]; rfl
  have m2 : IntKind.i64.wrap ((f : Int) + 0) = (f : Int) := by rw [Int.add_zero]; exact IntWalk.i64_in _ (by omega)
  have m3 : IntKind.i64.wrap (1 * (n : Int)) = (n : Int) := by rw [Int.one_mul]; exact IntWalk.i64_in _ (by omega)
  have m4 : IntKind.i64.wrap ((f : Int) + (n : Int)) = (fn : Int) := by rw [show (f : Int) + (n : Int) = (fn : Int) by omega]; exact IntWalk.i64_in _ (by omega)
  have m5 : (f : Int) + (n : Int) = (fn : Int) := by omega
  have HFN := hid_of hfn
  have FIN0 := hid_of (fun (cb : Nat) (hcb : w.heap.size ≤ cb) => open_fin (cb := cb) h t hreg ha ha2 hN hz hn hcb)
  clear hn ha ha2 hN hp hp2 hfn g1 g2 h t hreg hok hsl hz4 hL hr hc ho hG hz CL
  go_enter Tryd.func14, Tryd.ntmps14
  go_wp2_with (first
    | (go_at_call 12; (((with_reducible refine (CN.out w (Below.refl _ _)).mono ?_); (rintro e w1 ⟨rfl, q1⟩)); have B1 := hid_of q1; clear q1))
    | (go_at_call 19; (((with_reducible refine (CZ.out w1 B1.out).mono ?_); (rintro e w2 ⟨rfl, q1⟩)); have B2 := hid_of (B1.out.trans (q1.mono B1.out.size)); clear q1))
    | (go_at_call 27; (((with_reducible refine (CD.out w2 B2.out).mono ?_); (rintro e w3 ⟨rfl, q1⟩)); have B3 := hid_of (B2.out.trans (q1.mono B2.out.size)); clear q1)))
  obtain ⟨cb, hcb⟩ : ∃ cb, cb = w3.heap.size := ⟨_, rfl⟩
  have HCB := hid_of hcb
  have HLE := hid_of (show w.heap.size ≤ cb by rw [hcb]; exact B3.out.size)
  have R0 := hid_of (show (w3.alloc (.cells #[.pointer none, .int .i64 0, .int .i64 0, .int .i64 0, .pointer none, .int .i64 0, .int .i64 0, .int .i64 0, .int .i64 1, .slice none 0 0, .int .i64 0, .bool true] 72)).heap[cb]? = some (.cells (stRow0).toArray 72 (0, 0)) from by rw [hcb]; exact heap_alloc_new w3 _)
  have B4 := hid_of (B3.out.trans ((bel_alloc w3 (.cells #[.pointer none, .int .i64 0, .int .i64 0, .int .i64 0, .pointer none, .int .i64 0, .int .i64 0, .int .i64 0, .int .i64 1, .slice none 0 0, .int .i64 0, .bool true] 72)).mono B3.out.size))
  have FIN := hid_of (FIN0.out cb HLE.out)
  rw [← hcb]
  clear hcb FIN0
  go_loopw [38] (fun iv wr => (iv = .int .i64 0 ∧ Hid (wr.heap[cb]? = some (.cells (stRow0).toArray 72 (0, 0))) ∧ Hid (Below w.heap.size w wr)) ∨ (iv = .int .i64 1 ∧ (∃ x k m, Hid (wr.heap[cb]? = some (.cells (stRow1 b f n z (nw1 a).2.2 (.slice x k m) (nw1 a).2.1).toArray 72 (0, 0))) ∧ Hid (CR (fun k => w.heap.size ≤ k ∧ k ≠ cb) wr (.slice x k m) (nw1 a).1)) ∧ Hid (Below w.heap.size w wr)) ∨ (iv = .int .i64 2 ∧ (∃ x k m, Hid (wr.heap[cb]? = some (.cells (stRow b f n z N.2.2 (.slice x k m) N.2.1 true).toArray 72 (0, 0))) ∧ Hid (CR (fun k => w.heap.size ≤ k ∧ k ≠ cb) wr (.slice x k m) N.1)) ∧ Hid (Below w.heap.size w wr))) (fun iv _ => 2 - (intOf iv).toNat)
  case atStart => exact Or.inl ⟨rfl, R0, B4⟩
  case round =>
    rcases hrel with ⟨rfl, hx, hb⟩ | ⟨rfl, ⟨x, k, m, hx, hr⟩, hb⟩ | ⟨rfl, ⟨x, k, m, hx, hr⟩, hb⟩
    · by_cases hgt : 0 < p.2
      · have d1 : decide (0 < (p.2 : Int)) = true := decide_eq_true (by omega)
        have d2 : 0 < (p.2 : Int) := by omega
        have HY : Hid ((nw1 a) = (p.1, p.2, 0)) := hid_of (HST0.out.1 hgt)
        have HGT := hid_of hgt
        clear hgt
        go_wp2
        have bd := hid_of hb.out.drew
        have rd := hid_of (show wr.drew.heap[cb]? = _ from hx.out)
        go_region_with (go_at_call 19; (((with_reducible refine (CZ.out wr.drew bd.out).mono ?_); (rintro e w5 ⟨rfl, q1⟩)); have B5 := hid_of (bd.out.trans (q1.mono bd.out.size)); have R5 := hid_of ((q1.block cb (lt_of_block rd.out)).trans rd.out); obtain ⟨y0, y1, y2, y3⟩ := And.intro (cell_blk R5.out (j := 0) rfl) (And.intro (cell_blk R5.out (j := 1) rfl) (And.intro (cell_blk R5.out (j := 2) rfl) (cell_blk R5.out (j := 3) rfl))); have f0 := frozen_of_row w5 cb 0 _ _ R5.out; have f1 := frozen_of_row w5 cb 1 _ _ R5.out; have f2 := frozen_of_row w5 cb 2 _ _ R5.out; have f3 := frozen_of_row w5 cb 3 _ _ R5.out; have R6 := hid_of (show ((((w5.setCell ⟨cb, 0, none⟩ (.pointer (some ⟨b, 0, none⟩))).setCell ⟨cb, 1, none⟩ (.int .i64 (f : Nat))).setCell ⟨cb, 2, none⟩ (.int .i64 (n : Nat))).setCell ⟨cb, 3, none⟩ (.int .i64 (z : Nat))).heap[cb]? = some (.cells ([.pointer (some ⟨b, 0, none⟩), .int .i64 (f : Nat), .int .i64 (n : Nat), .int .i64 (z : Nat), .pointer none, .int .i64 0, .int .i64 0, .int .i64 0, .int .i64 1, .slice none 0 0, .int .i64 0, .bool true] : List Value).toArray 72 (0, 0)) from row_set4_0 _ _ _ _ R5.out); have B6 := hid_of (show Below w.heap.size w ((((w5.setCell ⟨cb, 0, none⟩ (.pointer (some ⟨b, 0, none⟩))).setCell ⟨cb, 1, none⟩ (.int .i64 (f : Nat))).setCell ⟨cb, 2, none⟩ (.int .i64 (n : Nat))).setCell ⟨cb, 3, none⟩ (.int .i64 (z : Nat))) from bel_set4 B5.out HLE.out _ _ _ _); clear q1))
        all_goals go_wp2_with (go_at_call 33; (((with_reducible refine (CL0.out ((((w5.setCell ⟨cb, 0, none⟩ (.pointer (some ⟨b, 0, none⟩))).setCell ⟨cb, 1, none⟩ (.int .i64 (f : Nat))).setCell ⟨cb, 2, none⟩ (.int .i64 (n : Nat))).setCell ⟨cb, 3, none⟩ (.int .i64 (z : Nat))) B6.out).mono ?_); (rintro e w7 ⟨lx, lk, lm, rfl, q1, q2⟩)); have R7 := hid_of ((q2.block cb (lt_of_block R6.out)).trans R6.out); have B7 := hid_of (B6.out.trans (q2.mono B6.out.size)); have L7 := hid_of (show CR (fun k => w.heap.size ≤ k ∧ k ≠ cb) w7 (.slice lx lk lm) p.1 from q1.mono fun k hk => ⟨Nat.le_trans B6.out.size hk, fun e => by have := lt_of_block R6.out; subst e; exact Nat.lt_irrefl _ (Nat.lt_of_lt_of_le this hk)⟩); have v8 := cell_blk R7.out (j := 8) rfl; have v9 := cell_blk R7.out (j := 9) rfl; have v10 := cell_blk R7.out (j := 10) rfl; have g8 := frozen_of_row w7 cb 8 _ _ R7.out; have g9 := frozen_of_row w7 cb 9 _ _ R7.out; have g10 := frozen_of_row w7 cb 10 _ _ R7.out; clear q1 q2))
        all_goals go_roundw
        case rel =>
          have R8 := hid_of (show (((w7.setCell ⟨cb, 8, none⟩ (.int .i64 0)).setCell ⟨cb, 9, none⟩ (.slice lx lk lm)).setCell ⟨cb, 10, none⟩ (.int .i64 (p.2 : Nat))).heap[cb]? = some (.cells (stRow1 b f n z 0 (.slice lx lk lm) p.2).toArray 72 (0, 0)) from blk_setCell (blk_setCell (blk_setCell R7.out)))
          refine Or.inr (Or.inl ⟨by go_num, ⟨lx, lk, lm, ?_, ?_⟩, hid_of (((B7.out.setCell (p := ⟨cb, 8, none⟩) HLE.out _).setCell (p := ⟨cb, 9, none⟩) HLE.out _).setCell (p := ⟨cb, 10, none⟩) HLE.out _)⟩)
          · rw [HY.out]; exact R8
          · rw [HY.out]; exact hid_of (L7.out.keep (keeps_set3 cb w7 _ _ _ (fun k hk => hk.2)))
        case measure => decide
      · have d1 : decide (0 < (p.2 : Int)) = false := decide_eq_false (by omega)
        have d2 : ¬ 0 < (p.2 : Int) := by omega
        have HY : Hid ((nw1 a) = ([], 0, 1)) := hid_of (HST0.out.2 hgt)
        clear hgt
        go_wp2
        have bd := hid_of hb.out.drew
        have rd := hid_of (show wr.drew.heap[cb]? = _ from hx.out)
        go_region_with (go_at_call 19; (((with_reducible refine (CZ.out wr.drew bd.out).mono ?_); (rintro e w5 ⟨rfl, q1⟩)); have B5 := hid_of (bd.out.trans (q1.mono bd.out.size)); have R5 := hid_of ((q1.block cb (lt_of_block rd.out)).trans rd.out); obtain ⟨y0, y1, y2, y3⟩ := And.intro (cell_blk R5.out (j := 0) rfl) (And.intro (cell_blk R5.out (j := 1) rfl) (And.intro (cell_blk R5.out (j := 2) rfl) (cell_blk R5.out (j := 3) rfl))); have f0 := frozen_of_row w5 cb 0 _ _ R5.out; have f1 := frozen_of_row w5 cb 1 _ _ R5.out; have f2 := frozen_of_row w5 cb 2 _ _ R5.out; have f3 := frozen_of_row w5 cb 3 _ _ R5.out; have R6 := hid_of (show ((((w5.setCell ⟨cb, 0, none⟩ (.pointer (some ⟨b, 0, none⟩))).setCell ⟨cb, 1, none⟩ (.int .i64 (f : Nat))).setCell ⟨cb, 2, none⟩ (.int .i64 (n : Nat))).setCell ⟨cb, 3, none⟩ (.int .i64 (z : Nat))).heap[cb]? = some (.cells ([.pointer (some ⟨b, 0, none⟩), .int .i64 (f : Nat), .int .i64 (n : Nat), .int .i64 (z : Nat), .pointer none, .int .i64 0, .int .i64 0, .int .i64 0, .int .i64 1, .slice none 0 0, .int .i64 0, .bool true] : List Value).toArray 72 (0, 0)) from row_set4_0 _ _ _ _ R5.out); have B6 := hid_of (show Below w.heap.size w ((((w5.setCell ⟨cb, 0, none⟩ (.pointer (some ⟨b, 0, none⟩))).setCell ⟨cb, 1, none⟩ (.int .i64 (f : Nat))).setCell ⟨cb, 2, none⟩ (.int .i64 (n : Nat))).setCell ⟨cb, 3, none⟩ (.int .i64 (z : Nat))) from bel_set4 B5.out HLE.out _ _ _ _); clear q1))
        all_goals go_wp2_with (go_at_call 33; (((with_reducible refine (CL0.out ((((w5.setCell ⟨cb, 0, none⟩ (.pointer (some ⟨b, 0, none⟩))).setCell ⟨cb, 1, none⟩ (.int .i64 (f : Nat))).setCell ⟨cb, 2, none⟩ (.int .i64 (n : Nat))).setCell ⟨cb, 3, none⟩ (.int .i64 (z : Nat))) B6.out).mono ?_); (rintro e w7 ⟨lx, lk, lm, rfl, q1, q2⟩)); have R7 := hid_of ((q2.block cb (lt_of_block R6.out)).trans R6.out); have B7 := hid_of (B6.out.trans (q2.mono B6.out.size)); have L7 := hid_of (show CR (fun k => w.heap.size ≤ k ∧ k ≠ cb) w7 (.slice lx lk lm) p.1 from q1.mono fun k hk => ⟨Nat.le_trans B6.out.size hk, fun e => by have := lt_of_block R6.out; subst e; exact Nat.lt_irrefl _ (Nat.lt_of_lt_of_le this hk)⟩); have v8 := cell_blk R7.out (j := 8) rfl; have v9 := cell_blk R7.out (j := 9) rfl; have v10 := cell_blk R7.out (j := 10) rfl; have g8 := frozen_of_row w7 cb 8 _ _ R7.out; have g9 := frozen_of_row w7 cb 9 _ _ R7.out; have g10 := frozen_of_row w7 cb 10 _ _ R7.out; clear q1 q2))
        all_goals go_roundw
        case rel =>
          refine Or.inr (Or.inl ⟨by go_num, ⟨none, 0, 0, ?_, ?_⟩, B7⟩)
          · rw [HY.out]; exact R7
          · rw [HY.out]; exact hid_of (nil_crS _ _)
        case measure => decide
    · by_cases hgt : (nw1 a).2.1 < p2.2
      · have d1 : decide (((nw1 a).2.1 : Int) < (p2.2 : Int)) = true := decide_eq_true (by omega)
        have d2 : ((nw1 a).2.1 : Int) < (p2.2 : Int) := by omega
        have HY : Hid (N = (p2.1, p2.2, 1)) := hid_of (HST1.out.1 hgt)
        have HGT := hid_of hgt
        clear hgt
        go_wp2
        have bd := hid_of hb.out.drew
        have rd := hid_of (show wr.drew.heap[cb]? = _ from hx.out)
        have hr0 := hid_of (hr.out.keep (keeps_low (Below.refl wr.heap.size wr).drew))
        go_region_with (go_at_call 19; (((with_reducible refine (CZ.out wr.drew bd.out).mono ?_); (rintro e w5 ⟨rfl, q1⟩)); have B5 := hid_of (bd.out.trans (q1.mono bd.out.size)); have R5 := hid_of ((q1.block cb (lt_of_block rd.out)).trans rd.out); have r5 := hid_of (hr0.out.keep (keeps_low q1)); have r6 := hid_of (r5.out.keep (keeps_set4 cb 4 w5 (.pointer (some ⟨b, 0, none⟩)) (.int .i64 (fn : Nat)) (.int .i64 (n : Nat)) (.int .i64 (z : Nat)) (fun k hk => hk.2))); obtain ⟨y0, y1, y2, y3⟩ := And.intro (cell_blk R5.out (j := 4) rfl) (And.intro (cell_blk R5.out (j := 5) rfl) (And.intro (cell_blk R5.out (j := 6) rfl) (cell_blk R5.out (j := 7) rfl))); have f0 := frozen_of_row w5 cb 4 _ _ R5.out; have f1 := frozen_of_row w5 cb 5 _ _ R5.out; have f2 := frozen_of_row w5 cb 6 _ _ R5.out; have f3 := frozen_of_row w5 cb 7 _ _ R5.out; have R6 := hid_of (show ((((w5.setCell ⟨cb, 4, none⟩ (.pointer (some ⟨b, 0, none⟩))).setCell ⟨cb, 5, none⟩ (.int .i64 (fn : Nat))).setCell ⟨cb, 6, none⟩ (.int .i64 (n : Nat))).setCell ⟨cb, 7, none⟩ (.int .i64 (z : Nat))).heap[cb]? = some (.cells ((stRowG b f fn n z (nw1 a).2.2 (.slice x k m) (nw1 a).2.1 true) : List Value).toArray 72 (0, 0)) from row_set4_4 _ _ _ _ R5.out); have B6 := hid_of (show Below w.heap.size w ((((w5.setCell ⟨cb, 4, none⟩ (.pointer (some ⟨b, 0, none⟩))).setCell ⟨cb, 5, none⟩ (.int .i64 (fn : Nat))).setCell ⟨cb, 6, none⟩ (.int .i64 (n : Nat))).setCell ⟨cb, 7, none⟩ (.int .i64 (z : Nat))) from bel_set4 B5.out HLE.out _ _ _ _); clear q1))
        all_goals go_wp2_with (go_at_call 33; (((with_reducible refine (CL1.out ((((w5.setCell ⟨cb, 4, none⟩ (.pointer (some ⟨b, 0, none⟩))).setCell ⟨cb, 5, none⟩ (.int .i64 (fn : Nat))).setCell ⟨cb, 6, none⟩ (.int .i64 (n : Nat))).setCell ⟨cb, 7, none⟩ (.int .i64 (z : Nat))) B6.out).mono ?_); (rintro e w7 ⟨lx, lk, lm, rfl, q1, q2⟩)); have R7 := hid_of ((q2.block cb (lt_of_block R6.out)).trans R6.out); have B7 := hid_of (B6.out.trans (q2.mono B6.out.size)); have L7 := hid_of (show CR (fun k => w.heap.size ≤ k ∧ k ≠ cb) w7 (.slice lx lk lm) p2.1 from q1.mono fun k hk => ⟨Nat.le_trans B6.out.size hk, fun e => by have := lt_of_block R6.out; subst e; exact Nat.lt_irrefl _ (Nat.lt_of_lt_of_le this hk)⟩); have r7 := hid_of (r6.out.keep (keeps_low q2)); have v8 := cell_blk R7.out (j := 8) rfl; have v9 := cell_blk R7.out (j := 9) rfl; have v10 := cell_blk R7.out (j := 10) rfl; have g8 := frozen_of_row w7 cb 8 _ _ R7.out; have g9 := frozen_of_row w7 cb 9 _ _ R7.out; have g10 := frozen_of_row w7 cb 10 _ _ R7.out; clear q1 q2))
        all_goals go_roundw
        case rel =>
          have R8 := hid_of (show (((w7.setCell ⟨cb, 8, none⟩ (.int .i64 1)).setCell ⟨cb, 9, none⟩ (.slice lx lk lm)).setCell ⟨cb, 10, none⟩ (.int .i64 (p2.2 : Nat))).heap[cb]? = some (.cells (stRowG b f fn n z 1 (.slice lx lk lm) p2.2 true).toArray 72 (0, 0)) from blk_setCell (blk_setCell (blk_setCell R7.out)))
          refine Or.inr (Or.inr ⟨by go_num, ⟨lx, lk, lm, ?_, ?_⟩, hid_of (((B7.out.setCell (p := ⟨cb, 8, none⟩) HLE.out _).setCell (p := ⟨cb, 9, none⟩) HLE.out _).setCell (p := ⟨cb, 10, none⟩) HLE.out _)⟩)
          · rw [HY.out]; have r8 := R8.out; rw [HFN.out] at r8; exact hid_of r8
          · rw [HY.out]; exact hid_of (L7.out.keep (keeps_set3 cb w7 _ _ _ (fun k hk => hk.2)))
        case measure => decide
      · have d1 : decide (((nw1 a).2.1 : Int) < (p2.2 : Int)) = false := decide_eq_false (by omega)
        have d2 : ¬ ((nw1 a).2.1 : Int) < (p2.2 : Int) := by omega
        have HY : Hid (N = nw1 a) := hid_of (HST1.out.2 hgt)
        clear hgt
        go_wp2
        have bd := hid_of hb.out.drew
        have rd := hid_of (show wr.drew.heap[cb]? = _ from hx.out)
        have hr0 := hid_of (hr.out.keep (keeps_low (Below.refl wr.heap.size wr).drew))
        go_region_with (go_at_call 19; (((with_reducible refine (CZ.out wr.drew bd.out).mono ?_); (rintro e w5 ⟨rfl, q1⟩)); have B5 := hid_of (bd.out.trans (q1.mono bd.out.size)); have R5 := hid_of ((q1.block cb (lt_of_block rd.out)).trans rd.out); have r5 := hid_of (hr0.out.keep (keeps_low q1)); have r6 := hid_of (r5.out.keep (keeps_set4 cb 4 w5 (.pointer (some ⟨b, 0, none⟩)) (.int .i64 (fn : Nat)) (.int .i64 (n : Nat)) (.int .i64 (z : Nat)) (fun k hk => hk.2))); obtain ⟨y0, y1, y2, y3⟩ := And.intro (cell_blk R5.out (j := 4) rfl) (And.intro (cell_blk R5.out (j := 5) rfl) (And.intro (cell_blk R5.out (j := 6) rfl) (cell_blk R5.out (j := 7) rfl))); have f0 := frozen_of_row w5 cb 4 _ _ R5.out; have f1 := frozen_of_row w5 cb 5 _ _ R5.out; have f2 := frozen_of_row w5 cb 6 _ _ R5.out; have f3 := frozen_of_row w5 cb 7 _ _ R5.out; have R6 := hid_of (show ((((w5.setCell ⟨cb, 4, none⟩ (.pointer (some ⟨b, 0, none⟩))).setCell ⟨cb, 5, none⟩ (.int .i64 (fn : Nat))).setCell ⟨cb, 6, none⟩ (.int .i64 (n : Nat))).setCell ⟨cb, 7, none⟩ (.int .i64 (z : Nat))).heap[cb]? = some (.cells ((stRowG b f fn n z (nw1 a).2.2 (.slice x k m) (nw1 a).2.1 true) : List Value).toArray 72 (0, 0)) from row_set4_4 _ _ _ _ R5.out); have B6 := hid_of (show Below w.heap.size w ((((w5.setCell ⟨cb, 4, none⟩ (.pointer (some ⟨b, 0, none⟩))).setCell ⟨cb, 5, none⟩ (.int .i64 (fn : Nat))).setCell ⟨cb, 6, none⟩ (.int .i64 (n : Nat))).setCell ⟨cb, 7, none⟩ (.int .i64 (z : Nat))) from bel_set4 B5.out HLE.out _ _ _ _); clear q1))
        all_goals go_wp2_with (go_at_call 33; (((with_reducible refine (CL1.out ((((w5.setCell ⟨cb, 4, none⟩ (.pointer (some ⟨b, 0, none⟩))).setCell ⟨cb, 5, none⟩ (.int .i64 (fn : Nat))).setCell ⟨cb, 6, none⟩ (.int .i64 (n : Nat))).setCell ⟨cb, 7, none⟩ (.int .i64 (z : Nat))) B6.out).mono ?_); (rintro e w7 ⟨lx, lk, lm, rfl, q1, q2⟩)); have R7 := hid_of ((q2.block cb (lt_of_block R6.out)).trans R6.out); have B7 := hid_of (B6.out.trans (q2.mono B6.out.size)); have L7 := hid_of (show CR (fun k => w.heap.size ≤ k ∧ k ≠ cb) w7 (.slice lx lk lm) p2.1 from q1.mono fun k hk => ⟨Nat.le_trans B6.out.size hk, fun e => by have := lt_of_block R6.out; subst e; exact Nat.lt_irrefl _ (Nat.lt_of_lt_of_le this hk)⟩); have r7 := hid_of (r6.out.keep (keeps_low q2)); have v8 := cell_blk R7.out (j := 8) rfl; have v9 := cell_blk R7.out (j := 9) rfl; have v10 := cell_blk R7.out (j := 10) rfl; have g8 := frozen_of_row w7 cb 8 _ _ R7.out; have g9 := frozen_of_row w7 cb 9 _ _ R7.out; have g10 := frozen_of_row w7 cb 10 _ _ R7.out; clear q1 q2))
        all_goals go_roundw
        case rel =>
          refine Or.inr (Or.inr ⟨by go_num, ⟨x, k, m, ?_, ?_⟩, B7⟩)
          · rw [HY.out]; have r8 := R7.out; rw [HFN.out] at r8; exact hid_of r8
          · rw [HY.out]; exact r7
        case measure => decide
    · go_wp2
      go_ret2
      exact FIN.out x k m wr hx.out hr.out hb.out
end
end Go.Proofs.YtlffiebnieakjaaDoor

/- Checkpoint: what saving does to a disk, as mathematics. Bounds on sizes alone. -/
namespace Go.Proofs.YtlffiebnieakjaaDoor
open Go.RowKit
set_option maxRecDepth 100000

/-- An operation on a disk: the write of a sector, or a sync. -/
def opF (M : DM) : Option (Nat × List Int) → Int × DM
  | none => syncF M
  | some p => writeF M p.1 p.2
/-- Operations, until one fails. -/
def runF : List (Option (Nat × List Int)) → DM → Bool × DM
  | [], M => (true, M)
  | o :: r, M => if (opF M o).1 = 0 then runF r (opF M o).2 else (false, (opF M o).2)
theorem runF_no {o : Option (Nat × List Int)} {r : List (Option (Nat × List Int))} {M : DM} (h : (opF M o).1 ≠ 0) : runF (o :: r) M = (false, (opF M o).2) := by rw [runF, if_neg h]
theorem runF_ok {o : Option (Nat × List Int)} {r : List (Option (Nat × List Int))} {M M1 : DM} (h : opF M o = (0, M1)) : runF (o :: r) M = runF r M1 := by rw [runF, if_pos (by rw [h]), h]
theorem runF_one (o : Option (Nat × List Int)) (M : DM) : runF [o] M = (decide ((opF M o).1 = 0), (opF M o).2) := by
  by_cases h : (opF M o).1 = 0
  · rw [decide_eq_true h, runF, if_pos h, runF]
  · rw [decide_eq_false h, runF_no h]
theorem runF_append (a b : List (Option (Nat × List Int))) : ∀ M, runF (a ++ b) M = if (runF a M).1 = true then runF b (runF a M).2 else runF a M := by
  induction a with
  | nil => intro M; simp [runF]
  | cons o r ih =>
    intro M
    rw [List.cons_append, runF, runF]
    split
    · exact ih _
    · simp
/-- The writes of a body. -/
def filO (f : Nat) (b : List Int) (z k : Nat) : List (Option (Nat × List Int)) := (List.range k).map fun j => some (f + 1 + j, secL b z j)
theorem filO_succ (f : Nat) (b : List Int) (z k : Nat) : filO f b z (k + 1) = filO f b z k ++ [some (f + 1 + k, secL b z k)] := by simp [filO, List.range_succ]
theorem fil_run (M : DM) (f : Nat) (b : List Int) : ∀ k, filF M f b 0 k = runF (filO f b M.sz k) M
  | 0 => rfl
  | k + 1 => by
    rw [filO_succ, runF_append, ← fil_run M f b k, filF, Nat.zero_add]
    split
    · rw [runF_one]; rfl
    · rfl
/-- The operations of saving b, its header H, into the slot that begins at f. -/
def savO (H : List Int) (f z : Nat) (b : List Int) : List (Option (Nat × List Int)) := [some (f, List.replicate z 0), none] ++ (filO f b z ((b.length + z - 1) / z) ++ ([none] ++ ([some (f, H)] ++ [none])))
/-- Saving. -/
def saveF (H : List Int) (M : DM) (f : Nat) (b : List Int) : Bool × DM := runF (savO H f M.sz b) M
section
variable {H : List Int} {M M1 M2 M3 M4 M5 : DM} {f : Nat} {b : List Int}
theorem save_1 (h1 : (writeF M f (List.replicate M.sz 0)).1 ≠ 0) : saveF H M f b = (false, (writeF M f (List.replicate M.sz 0)).2) := runF_no (o := some (f, List.replicate M.sz 0)) h1
theorem save_2 (e1 : writeF M f (List.replicate M.sz 0) = (0, M1)) (h2 : (syncF M1).1 ≠ 0) : saveF H M f b = (false, (syncF M1).2) :=
  (runF_ok (o := some (f, List.replicate M.sz 0)) e1).trans (runF_no (o := none) h2)
theorem save_m (e1 : writeF M f (List.replicate M.sz 0) = (0, M1)) (e2 : syncF M1 = (0, M2)) (hz : M2.sz = M.sz) : saveF H M f b = if (filF M2 f b 0 ((b.length + M.sz - 1) / M.sz)).1 = true then runF ([none] ++ ([some (f, H)] ++ [none])) (filF M2 f b 0 ((b.length + M.sz - 1) / M.sz)).2 else filF M2 f b 0 ((b.length + M.sz - 1) / M.sz) := by
  have h := fil_run M2 f b ((b.length + M.sz - 1) / M.sz)
  rw [hz] at h
  rw [h, ← runF_append]
  exact (runF_ok (o := some (f, List.replicate M.sz 0)) e1).trans (runF_ok (o := none) e2)
theorem save_3 (e1 : writeF M f (List.replicate M.sz 0) = (0, M1)) (e2 : syncF M1 = (0, M2)) (hz : M2.sz = M.sz) (h3 : (filF M2 f b 0 ((b.length + M.sz - 1) / M.sz)).1 = false) : saveF H M f b = (false, (filF M2 f b 0 ((b.length + M.sz - 1) / M.sz)).2) := by
  rw [save_m e1 e2 hz, if_neg (by rw [h3]; simp), ← h3]
theorem save_4 (e1 : writeF M f (List.replicate M.sz 0) = (0, M1)) (e2 : syncF M1 = (0, M2)) (hz : M2.sz = M.sz) (e3 : filF M2 f b 0 ((b.length + M.sz - 1) / M.sz) = (true, M3)) (h4 : (syncF M3).1 ≠ 0) : saveF H M f b = (false, (syncF M3).2) := by
  rw [save_m e1 e2 hz, e3, if_pos rfl]
  exact runF_no (o := none) h4
theorem save_5 (e1 : writeF M f (List.replicate M.sz 0) = (0, M1)) (e2 : syncF M1 = (0, M2)) (hz : M2.sz = M.sz) (e3 : filF M2 f b 0 ((b.length + M.sz - 1) / M.sz) = (true, M3)) (e4 : syncF M3 = (0, M4)) (h5 : (writeF M4 f H).1 ≠ 0) : saveF H M f b = (false, (writeF M4 f H).2) := by
  rw [save_m e1 e2 hz, e3, if_pos rfl]
  exact (runF_ok (o := none) e4).trans (runF_no (o := some (f, H)) h5)
theorem save_6 (e1 : writeF M f (List.replicate M.sz 0) = (0, M1)) (e2 : syncF M1 = (0, M2)) (hz : M2.sz = M.sz) (e3 : filF M2 f b 0 ((b.length + M.sz - 1) / M.sz) = (true, M3)) (e4 : syncF M3 = (0, M4)) (e5 : writeF M4 f H = (0, M5)) : saveF H M f b = (decide ((syncF M5).1 = 0), (syncF M5).2) := by
  rw [save_m e1 e2 hz, e3, if_pos rfl]
  exact ((runF_ok (o := none) e4).trans (runF_ok (o := some (f, H)) e5)).trans (runF_one none M5)
end
end Go.Proofs.YtlffiebnieakjaaDoor

/- Checkpoint: a slot saves. Bounds on sizes alone. -/
namespace Go.Proofs.YtlffiebnieakjaaDoor
open Go.RowKit
set_option maxRecDepth 100000
set_option maxHeartbeats 6400000

theorem nil_cr (T : Nat → Prop) (w : World) : CR T w (.slice none 0 0) [] := ⟨⟨none, 0, rfl, Nat.le_refl _, by omega, fun h => by simp [by8] at h⟩, fun h => by simp at h⟩
theorem pad_nil (z : Nat) : padF [] z = List.replicate z 0 := by simp [padF]
theorem sync_keep (M : DM) : (syncF M).2.sz = M.sz ∧ (syncF M).2.cache.length ≤ M.cache.length := by
  obtain ⟨e1, e2, e3⟩ := stepF_same M
  unfold syncF
  split
  · exact ⟨e1, by rw [e3]; exact Nat.le_refl _⟩
  · exact ⟨e1, Nat.zero_le _⟩
/-- What save leaves. -/
def SvQ (B : Nat) (T : Nat → Prop) (b : Nat) (r : Bool) (M' : DM) (w : World) (e : Ending) (w' : World) : Prop := e = .returned (.bool r) ∧ DR B T w' b M' ∧ Below B w w' ∧ Keeps T w w'
end Go.Proofs.YtlffiebnieakjaaDoor

/- Checkpoint: a slot saves (way 1). Bounds on sizes alone. -/
namespace Go.Proofs.YtlffiebnieakjaaDoor
open Go.RowKit
set_option maxRecDepth 100000
set_option maxHeartbeats 6400000

section
variable {B : Nat} {T : Nat → Prop} {b : Nat} {M M1 M2 M3 M4 M5 M6 : DM} {f n z : Nat} {w : World} {bo : Option Addr} {bn bc : Nat} {l : List Int} {g : Nat}
theorem save_w1 {r : Int} (hr : r ≠ 0) (h : DR B T w b M) (t : TR B T w) (hz : M.sz = z) (hz1 : 64 ≤ z) (hin : CR T w (.slice bo bn bc) l) (hlb : Byt l) (hl : l.length ≤ 30000) (hf : f ≤ 60000) (hg : g < 9223372036854775808) (hc : M.cache.length ≤ 1000) (hG : Sh.Glob w) (hB2 : 2 ≤ B) (e1 : writeF M f (List.replicate M.sz 0) = (r, M1)) :
    Calls Tryd.prog 36 #[slV b f n z, .slice bo bn bc, .int .i64 g] w fun e w' => SvQ B T b (false) M1 w e w' := by
  have a1 : (writeF M f (List.replicate M.sz 0)).1 = r := by rw [e1]
  have b1 : (writeF M f (List.replicate M.sz 0)).2 = M1 := by rw [e1]
  have hok := h.ok
  have hz4 : z ≤ 4096 := by rw [← hz]; exact hok.sz
  have hbn : bn = l.length := by have := (rd_cut hin.1).1; rwa [by8_length] at this
  obtain ⟨w1, hw1⟩ : ∃ w1, w1 = w.alloc (slBox b f n z) := ⟨_, rfl⟩
  have ba : Below w.heap.size w w1 := by rw [hw1]; exact bel_alloc w _
  have hblk : w1.heap[w.heap.size]? = some (.cells #[.pointer (some ⟨b, 0, none⟩), .int .i64 f, .int .i64 n, .int .i64 z] 69 (0, 0)) := by rw [hw1]; exact heap_alloc_new w _
  obtain ⟨TT, hTT⟩ : ∃ TT, TT = Tn T w w1 := ⟨_, rfl⟩
  have hTs : ∀ k, T k → TT k := fun k hk => by rw [hTT]; exact Or.inl hk
  have hTb : TT w.heap.size := by rw [hTT]; exact Or.inr ⟨Nat.le_refl _, lt_of_block hblk⟩
  have bd : Below w1.heap.size w1 w1.drew := (Below.refl _ _).drew
  have T1 : TR B TT w1 := by rw [hTT]; exact t.next ba.size
  have T0 := hid_of (T1.same bd.size)
  have D0 : DR B TT w1.drew b M := (show DR B TT w1 b M by rw [hTT]; exact h.bel ba).bel0 bd
  have L0 := hid_of (show CR TT w1.drew (.slice bo bn bc) l from ((hin.keep (keeps_low ba)).mono hTs).keep (keeps_low bd))
  have B0 := hid_of (show Below B w w1.drew from (ba.mono t.hB).drew)
  have K0 := hid_of (show Keeps TT w1 w1.drew from keeps_low bd)
  have HKS := hid_of (fun (X : World) (hX : Keeps TT w1 X) => show X.cell? ⟨w.heap.size, 0, none⟩ = some (.pointer (some ⟨b, 0, none⟩)) ∧ X.cell? ⟨w.heap.size, 1, none⟩ = some (.int .i64 f) ∧ X.cell? ⟨w.heap.size, 2, none⟩ = some (.int .i64 n) ∧ X.cell? ⟨w.heap.size, 3, none⟩ = some (.int .i64 z) from by
    have e := (hX.2 _ hTb (lt_of_block hblk)).trans hblk
    exact ⟨cell_blk e rfl, cell_blk e rfl, cell_blk e rfl, cell_blk e rfl⟩)
  have HTS := hid_of hTs
  have KB := hid_of (show Keeps T w w1 from keeps_low ba)
  have HW := hid_of hw1
  have HG := hid_of (fun (X : World) (hX : Below B w X) => hG.bel hX hB2)
  have C1 := hid_of (show Calls Tryd.prog 50 #[slV b f n z, .int .i64 0, .slice none 0 0] w1.drew (fun e w' => e = .returned (.bool false) ∧ DR B TT w' b M1 ∧ Below B w1.drew w' ∧ Keeps TT w1.drew w') from by
    have h9 := swrite_any f n z 0 w1.drew D0 T0.out hz (by omega) (by omega) none 0 0 [] (nil_cr _ _)
    rw [pad_nil, Nat.add_zero, ← hz, a1, b1, decide_eq_false hr] at h9
    rw [← hz]
    exact h9)
  clear h hin t D0 ba bd T1 hblk hTT hTs hTb hw1 hG hok e1 a1 b1 hz hbn hlb hl hf hg hc hB2
  go_enter Tryd.func36, Tryd.ntmps36
  go_wp2
  rw [← HW.out]
  obtain ⟨x00, x01, x02, x03⟩ := HKS.out w1.drew K0.out
  first
  | (go_region_with (first
    | (go_at_call 50; ((with_reducible refine (C1.out).mono ?_); (rintro e w2 ⟨rfl, q1, q2, q3⟩)); have D2 := hid_of q1; have B2 := hid_of (B0.out.trans q2); have K2 := hid_of (K0.out.trans q3); have T2 := hid_of (T0.out.same q3.1); have L2 := hid_of (L0.out.keep q3); obtain ⟨x0, x1, x2, x3⟩ := HKS.out w2 K2.out; clear q1 q2 q3)))
  | fail
  all_goals go_wp2
  all_goals go_ret
  all_goals exact ⟨rfl, D2.out.sub HTS.out, B2.out, KB.out.trans (K2.out.sub HTS.out)⟩
end
end Go.Proofs.YtlffiebnieakjaaDoor

/- Checkpoint: a slot saves (way 2). Bounds on sizes alone. -/
namespace Go.Proofs.YtlffiebnieakjaaDoor
open Go.RowKit
set_option maxRecDepth 100000
set_option maxHeartbeats 6400000

section
variable {B : Nat} {T : Nat → Prop} {b : Nat} {M M1 M2 M3 M4 M5 M6 : DM} {f n z : Nat} {w : World} {bo : Option Addr} {bn bc : Nat} {l : List Int} {g : Nat}
theorem save_w2 {r : Int} (hr : r ≠ 0) (h : DR B T w b M) (t : TR B T w) (hz : M.sz = z) (hz1 : 64 ≤ z) (hin : CR T w (.slice bo bn bc) l) (hlb : Byt l) (hl : l.length ≤ 30000) (hf : f ≤ 60000) (hg : g < 9223372036854775808) (hc : M.cache.length ≤ 1000) (hG : Sh.Glob w) (hB2 : 2 ≤ B) (e1 : writeF M f (List.replicate M.sz 0) = (0, M1)) (e2 : syncF M1 = (r, M2)) :
    Calls Tryd.prog 36 #[slV b f n z, .slice bo bn bc, .int .i64 g] w fun e w' => SvQ B T b (false) M2 w e w' := by
  have a1 : (writeF M f (List.replicate M.sz 0)).1 = 0 := by rw [e1]
  have b1 : (writeF M f (List.replicate M.sz 0)).2 = M1 := by rw [e1]
  have a2 : (syncF M1).1 = r := by rw [e2]
  have b2 : (syncF M1).2 = M2 := by rw [e2]
  have hok := h.ok
  have hz4 : z ≤ 4096 := by rw [← hz]; exact hok.sz
  have hbn : bn = l.length := by have := (rd_cut hin.1).1; rwa [by8_length] at this
  obtain ⟨w1, hw1⟩ : ∃ w1, w1 = w.alloc (slBox b f n z) := ⟨_, rfl⟩
  have ba : Below w.heap.size w w1 := by rw [hw1]; exact bel_alloc w _
  have hblk : w1.heap[w.heap.size]? = some (.cells #[.pointer (some ⟨b, 0, none⟩), .int .i64 f, .int .i64 n, .int .i64 z] 69 (0, 0)) := by rw [hw1]; exact heap_alloc_new w _
  obtain ⟨TT, hTT⟩ : ∃ TT, TT = Tn T w w1 := ⟨_, rfl⟩
  have hTs : ∀ k, T k → TT k := fun k hk => by rw [hTT]; exact Or.inl hk
  have hTb : TT w.heap.size := by rw [hTT]; exact Or.inr ⟨Nat.le_refl _, lt_of_block hblk⟩
  have bd : Below w1.heap.size w1 w1.drew := (Below.refl _ _).drew
  have T1 : TR B TT w1 := by rw [hTT]; exact t.next ba.size
  have T0 := hid_of (T1.same bd.size)
  have D0 : DR B TT w1.drew b M := (show DR B TT w1 b M by rw [hTT]; exact h.bel ba).bel0 bd
  have L0 := hid_of (show CR TT w1.drew (.slice bo bn bc) l from ((hin.keep (keeps_low ba)).mono hTs).keep (keeps_low bd))
  have B0 := hid_of (show Below B w w1.drew from (ba.mono t.hB).drew)
  have K0 := hid_of (show Keeps TT w1 w1.drew from keeps_low bd)
  have HKS := hid_of (fun (X : World) (hX : Keeps TT w1 X) => show X.cell? ⟨w.heap.size, 0, none⟩ = some (.pointer (some ⟨b, 0, none⟩)) ∧ X.cell? ⟨w.heap.size, 1, none⟩ = some (.int .i64 f) ∧ X.cell? ⟨w.heap.size, 2, none⟩ = some (.int .i64 n) ∧ X.cell? ⟨w.heap.size, 3, none⟩ = some (.int .i64 z) from by
    have e := (hX.2 _ hTb (lt_of_block hblk)).trans hblk
    exact ⟨cell_blk e rfl, cell_blk e rfl, cell_blk e rfl, cell_blk e rfl⟩)
  have HTS := hid_of hTs
  have KB := hid_of (show Keeps T w w1 from keeps_low ba)
  have HW := hid_of hw1
  have HG := hid_of (fun (X : World) (hX : Below B w X) => hG.bel hX hB2)
  have C1 := hid_of (show Calls Tryd.prog 50 #[slV b f n z, .int .i64 0, .slice none 0 0] w1.drew (fun e w' => e = .returned (.bool true) ∧ DR B TT w' b M1 ∧ Below B w1.drew w' ∧ Keeps TT w1.drew w') from by
    have h9 := swrite_any f n z 0 w1.drew D0 T0.out hz (by omega) (by omega) none 0 0 [] (nil_cr _ _)
    rw [pad_nil, Nat.add_zero, ← hz, a1, b1] at h9
    rw [← hz]
    exact h9)
  have k1 : M1.sz = z ∧ M1.cache.length ≤ 1001 := by
    have h1 := write_same M f (List.replicate M.sz 0)
    have h2 := write_cache M f (List.replicate M.sz 0)
    rw [e1] at h1 h2
    exact ⟨h1.2.trans hz, by simp only [] at h2; omega⟩
  have C2 := hid_of (fun (X : World) (d : DR B TT X b M1) (t : TR B TT X) => show Calls Tryd.prog 51 #[slV b f n z] X (fun e w' => e = .returned (.bool false) ∧ DR B TT w' b M2 ∧ Below B X w' ∧ Keeps TT X w') from by
    have h9 := ssync_any f n z X d t (by omega)
    rw [a2, b2, decide_eq_false hr] at h9
    exact h9)
  clear h hin t D0 ba bd T1 hblk hTT hTs hTb hw1 hG hok e1 a1 b1 e2 a2 b2 k1 hz hbn hlb hl hf hg hc hB2
  go_enter Tryd.func36, Tryd.ntmps36
  go_wp2
  rw [← HW.out]
  obtain ⟨x00, x01, x02, x03⟩ := HKS.out w1.drew K0.out
  first
  | (go_region_with (first
    | (go_at_call 50; ((with_reducible refine (C1.out).mono ?_); (rintro e w2 ⟨rfl, q1, q2, q3⟩)); have D2 := hid_of q1; have B2 := hid_of (B0.out.trans q2); have K2 := hid_of (K0.out.trans q3); have T2 := hid_of (T0.out.same q3.1); have L2 := hid_of (L0.out.keep q3); obtain ⟨x0, x1, x2, x3⟩ := HKS.out w2 K2.out; clear q1 q2 q3)
    | (go_at_call 51; ((with_reducible refine (C2.out w2 D2.out T2.out).mono ?_); (rintro e w3 ⟨rfl, q1, q2, q3⟩)); have D3 := hid_of q1; have B3 := hid_of (B2.out.trans q2); have K3 := hid_of (K2.out.trans q3); have T3 := hid_of (T2.out.same q3.1); have L3 := hid_of (L2.out.keep q3); obtain ⟨x30, x31, x32, x33⟩ := HKS.out w3 K3.out; clear q1 q2 q3)))
  | fail
  all_goals go_wp2
  all_goals go_ret
  all_goals exact ⟨rfl, D3.out.sub HTS.out, B3.out, KB.out.trans (K3.out.sub HTS.out)⟩
end
end Go.Proofs.YtlffiebnieakjaaDoor

/- Checkpoint: a slot saves (way 3). Bounds on sizes alone. -/
namespace Go.Proofs.YtlffiebnieakjaaDoor
open Go.RowKit
set_option maxRecDepth 100000
set_option maxHeartbeats 6400000

section
variable {B : Nat} {T : Nat → Prop} {b : Nat} {M M1 M2 M3 M4 M5 M6 : DM} {f n z : Nat} {w : World} {bo : Option Addr} {bn bc : Nat} {l : List Int} {g : Nat}
theorem save_w3 (h : DR B T w b M) (t : TR B T w) (hz : M.sz = z) (hz1 : 64 ≤ z) (hin : CR T w (.slice bo bn bc) l) (hlb : Byt l) (hl : l.length ≤ 30000) (hf : f ≤ 60000) (hg : g < 9223372036854775808) (hc : M.cache.length ≤ 1000) (hG : Sh.Glob w) (hB2 : 2 ≤ B) (e1 : writeF M f (List.replicate M.sz 0) = (0, M1)) (e2 : syncF M1 = (0, M2)) (e3 : filF M2 f l 0 ((l.length + M.sz - 1) / M.sz) = (false, M3)) :
    Calls Tryd.prog 36 #[slV b f n z, .slice bo bn bc, .int .i64 g] w fun e w' => SvQ B T b (false) M3 w e w' := by
  have a1 : (writeF M f (List.replicate M.sz 0)).1 = 0 := by rw [e1]
  have b1 : (writeF M f (List.replicate M.sz 0)).2 = M1 := by rw [e1]
  have a2 : (syncF M1).1 = 0 := by rw [e2]
  have b2 : (syncF M1).2 = M2 := by rw [e2]
  have a3 : (filF M2 f l 0 ((l.length + M.sz - 1) / M.sz)).1 = false := by rw [e3]
  have b3 : (filF M2 f l 0 ((l.length + M.sz - 1) / M.sz)).2 = M3 := by rw [e3]
  have hok := h.ok
  have hz4 : z ≤ 4096 := by rw [← hz]; exact hok.sz
  have hbn : bn = l.length := by have := (rd_cut hin.1).1; rwa [by8_length] at this
  obtain ⟨w1, hw1⟩ : ∃ w1, w1 = w.alloc (slBox b f n z) := ⟨_, rfl⟩
  have ba : Below w.heap.size w w1 := by rw [hw1]; exact bel_alloc w _
  have hblk : w1.heap[w.heap.size]? = some (.cells #[.pointer (some ⟨b, 0, none⟩), .int .i64 f, .int .i64 n, .int .i64 z] 69 (0, 0)) := by rw [hw1]; exact heap_alloc_new w _
  obtain ⟨TT, hTT⟩ : ∃ TT, TT = Tn T w w1 := ⟨_, rfl⟩
  have hTs : ∀ k, T k → TT k := fun k hk => by rw [hTT]; exact Or.inl hk
  have hTb : TT w.heap.size := by rw [hTT]; exact Or.inr ⟨Nat.le_refl _, lt_of_block hblk⟩
  have bd : Below w1.heap.size w1 w1.drew := (Below.refl _ _).drew
  have T1 : TR B TT w1 := by rw [hTT]; exact t.next ba.size
  have T0 := hid_of (T1.same bd.size)
  have D0 : DR B TT w1.drew b M := (show DR B TT w1 b M by rw [hTT]; exact h.bel ba).bel0 bd
  have L0 := hid_of (show CR TT w1.drew (.slice bo bn bc) l from ((hin.keep (keeps_low ba)).mono hTs).keep (keeps_low bd))
  have B0 := hid_of (show Below B w w1.drew from (ba.mono t.hB).drew)
  have K0 := hid_of (show Keeps TT w1 w1.drew from keeps_low bd)
  have HKS := hid_of (fun (X : World) (hX : Keeps TT w1 X) => show X.cell? ⟨w.heap.size, 0, none⟩ = some (.pointer (some ⟨b, 0, none⟩)) ∧ X.cell? ⟨w.heap.size, 1, none⟩ = some (.int .i64 f) ∧ X.cell? ⟨w.heap.size, 2, none⟩ = some (.int .i64 n) ∧ X.cell? ⟨w.heap.size, 3, none⟩ = some (.int .i64 z) from by
    have e := (hX.2 _ hTb (lt_of_block hblk)).trans hblk
    exact ⟨cell_blk e rfl, cell_blk e rfl, cell_blk e rfl, cell_blk e rfl⟩)
  have HTS := hid_of hTs
  have KB := hid_of (show Keeps T w w1 from keeps_low ba)
  have HW := hid_of hw1
  have HG := hid_of (fun (X : World) (hX : Below B w X) => hG.bel hX hB2)
  have C1 := hid_of (show Calls Tryd.prog 50 #[slV b f n z, .int .i64 0, .slice none 0 0] w1.drew (fun e w' => e = .returned (.bool true) ∧ DR B TT w' b M1 ∧ Below B w1.drew w' ∧ Keeps TT w1.drew w') from by
    have h9 := swrite_any f n z 0 w1.drew D0 T0.out hz (by omega) (by omega) none 0 0 [] (nil_cr _ _)
    rw [pad_nil, Nat.add_zero, ← hz, a1, b1] at h9
    rw [← hz]
    exact h9)
  have k1 : M1.sz = z ∧ M1.cache.length ≤ 1001 := by
    have h1 := write_same M f (List.replicate M.sz 0)
    have h2 := write_cache M f (List.replicate M.sz 0)
    rw [e1] at h1 h2
    exact ⟨h1.2.trans hz, by simp only [] at h2; omega⟩
  have C2 := hid_of (fun (X : World) (d : DR B TT X b M1) (t : TR B TT X) => show Calls Tryd.prog 51 #[slV b f n z] X (fun e w' => e = .returned (.bool true) ∧ DR B TT w' b M2 ∧ Below B X w' ∧ Keeps TT X w') from by
    have h9 := ssync_any f n z X d t (by omega)
    rw [a2, b2] at h9
    exact h9)
  have k2 : M2.sz = z ∧ M2.cache.length ≤ 1001 := by
    have h1 := sync_keep M1
    rw [e2] at h1
    exact ⟨h1.1.trans k1.1, Nat.le_trans h1.2 k1.2⟩
  have hz2 := k2.1
  have C3 := hid_of (fun (X : World) (d : DR B TT X b M2) (t : TR B TT X) (q : CR TT X (.slice bo bn bc) l) => show Calls Tryd.prog 52 #[slV b f n z, .slice bo bn bc] X (fun e w' => e = .returned (.bool false) ∧ DR B TT w' b M3 ∧ Below B X w' ∧ Keeps TT X w') from by
    have h9 := sfill_any f n z X d t hz2 (by omega) bo bn bc l q (by omega) hf (by omega)
    rw [← hz] at h9
    rw [show (bn + M.sz - 1) / M.sz = (l.length + M.sz - 1) / M.sz by rw [hbn], a3, b3, hz] at h9
    exact h9)
  clear h hin t D0 ba bd T1 hblk hTT hTs hTb hw1 hG hok e1 a1 b1 e2 a2 b2 e3 a3 b3 k1 k2 hz2 hz hbn hlb hl hf hg hc hB2
  go_enter Tryd.func36, Tryd.ntmps36
  go_wp2
  rw [← HW.out]
  obtain ⟨x00, x01, x02, x03⟩ := HKS.out w1.drew K0.out
  first
  | (go_region_with (first
    | (go_at_call 50; ((with_reducible refine (C1.out).mono ?_); (rintro e w2 ⟨rfl, q1, q2, q3⟩)); have D2 := hid_of q1; have B2 := hid_of (B0.out.trans q2); have K2 := hid_of (K0.out.trans q3); have T2 := hid_of (T0.out.same q3.1); have L2 := hid_of (L0.out.keep q3); obtain ⟨x0, x1, x2, x3⟩ := HKS.out w2 K2.out; clear q1 q2 q3)
    | (go_at_call 51; ((with_reducible refine (C2.out w2 D2.out T2.out).mono ?_); (rintro e w3 ⟨rfl, q1, q2, q3⟩)); have D3 := hid_of q1; have B3 := hid_of (B2.out.trans q2); have K3 := hid_of (K2.out.trans q3); have T3 := hid_of (T2.out.same q3.1); have L3 := hid_of (L2.out.keep q3); obtain ⟨x30, x31, x32, x33⟩ := HKS.out w3 K3.out; clear q1 q2 q3)
    | (go_at_call 52; ((with_reducible refine (C3.out w3 D3.out T3.out L3.out).mono ?_); (rintro e w4 ⟨rfl, q1, q2, q3⟩)); have D4 := hid_of q1; have B4 := hid_of (B3.out.trans q2); have K4 := hid_of (K3.out.trans q3); have T4 := hid_of (T3.out.same q3.1); have L4 := hid_of (L3.out.keep q3); obtain ⟨x40, x41, x42, x43⟩ := HKS.out w4 K4.out; clear q1 q2 q3)))
  | fail
  all_goals go_wp2
  all_goals go_ret
  all_goals exact ⟨rfl, D4.out.sub HTS.out, B4.out, KB.out.trans (K4.out.sub HTS.out)⟩
end
end Go.Proofs.YtlffiebnieakjaaDoor

/- Checkpoint: a slot saves (way 4). Bounds on sizes alone. -/
namespace Go.Proofs.YtlffiebnieakjaaDoor
open Go.RowKit
set_option maxRecDepth 100000
set_option maxHeartbeats 6400000

section
variable {B : Nat} {T : Nat → Prop} {b : Nat} {M M1 M2 M3 M4 M5 M6 : DM} {f n z : Nat} {w : World} {bo : Option Addr} {bn bc : Nat} {l : List Int} {g : Nat}
theorem save_w4 {r : Int} (hr : r ≠ 0) (h : DR B T w b M) (t : TR B T w) (hz : M.sz = z) (hz1 : 64 ≤ z) (hin : CR T w (.slice bo bn bc) l) (hlb : Byt l) (hl : l.length ≤ 30000) (hf : f ≤ 60000) (hg : g < 9223372036854775808) (hc : M.cache.length ≤ 1000) (hG : Sh.Glob w) (hB2 : 2 ≤ B) (e1 : writeF M f (List.replicate M.sz 0) = (0, M1)) (e2 : syncF M1 = (0, M2)) (e3 : filF M2 f l 0 ((l.length + M.sz - 1) / M.sz) = (true, M3)) (e4 : syncF M3 = (r, M4)) :
    Calls Tryd.prog 36 #[slV b f n z, .slice bo bn bc, .int .i64 g] w fun e w' => SvQ B T b (false) M4 w e w' := by
  have a1 : (writeF M f (List.replicate M.sz 0)).1 = 0 := by rw [e1]
  have b1 : (writeF M f (List.replicate M.sz 0)).2 = M1 := by rw [e1]
  have a2 : (syncF M1).1 = 0 := by rw [e2]
  have b2 : (syncF M1).2 = M2 := by rw [e2]
  have a3 : (filF M2 f l 0 ((l.length + M.sz - 1) / M.sz)).1 = true := by rw [e3]
  have b3 : (filF M2 f l 0 ((l.length + M.sz - 1) / M.sz)).2 = M3 := by rw [e3]
  have a4 : (syncF M3).1 = r := by rw [e4]
  have b4 : (syncF M3).2 = M4 := by rw [e4]
  have hok := h.ok
  have hz4 : z ≤ 4096 := by rw [← hz]; exact hok.sz
  have hbn : bn = l.length := by have := (rd_cut hin.1).1; rwa [by8_length] at this
  obtain ⟨w1, hw1⟩ : ∃ w1, w1 = w.alloc (slBox b f n z) := ⟨_, rfl⟩
  have ba : Below w.heap.size w w1 := by rw [hw1]; exact bel_alloc w _
  have hblk : w1.heap[w.heap.size]? = some (.cells #[.pointer (some ⟨b, 0, none⟩), .int .i64 f, .int .i64 n, .int .i64 z] 69 (0, 0)) := by rw [hw1]; exact heap_alloc_new w _
  obtain ⟨TT, hTT⟩ : ∃ TT, TT = Tn T w w1 := ⟨_, rfl⟩
  have hTs : ∀ k, T k → TT k := fun k hk => by rw [hTT]; exact Or.inl hk
  have hTb : TT w.heap.size := by rw [hTT]; exact Or.inr ⟨Nat.le_refl _, lt_of_block hblk⟩
  have bd : Below w1.heap.size w1 w1.drew := (Below.refl _ _).drew
  have T1 : TR B TT w1 := by rw [hTT]; exact t.next ba.size
  have T0 := hid_of (T1.same bd.size)
  have D0 : DR B TT w1.drew b M := (show DR B TT w1 b M by rw [hTT]; exact h.bel ba).bel0 bd
  have L0 := hid_of (show CR TT w1.drew (.slice bo bn bc) l from ((hin.keep (keeps_low ba)).mono hTs).keep (keeps_low bd))
  have B0 := hid_of (show Below B w w1.drew from (ba.mono t.hB).drew)
  have K0 := hid_of (show Keeps TT w1 w1.drew from keeps_low bd)
  have HKS := hid_of (fun (X : World) (hX : Keeps TT w1 X) => show X.cell? ⟨w.heap.size, 0, none⟩ = some (.pointer (some ⟨b, 0, none⟩)) ∧ X.cell? ⟨w.heap.size, 1, none⟩ = some (.int .i64 f) ∧ X.cell? ⟨w.heap.size, 2, none⟩ = some (.int .i64 n) ∧ X.cell? ⟨w.heap.size, 3, none⟩ = some (.int .i64 z) from by
    have e := (hX.2 _ hTb (lt_of_block hblk)).trans hblk
    exact ⟨cell_blk e rfl, cell_blk e rfl, cell_blk e rfl, cell_blk e rfl⟩)
  have HTS := hid_of hTs
  have KB := hid_of (show Keeps T w w1 from keeps_low ba)
  have HW := hid_of hw1
  have HG := hid_of (fun (X : World) (hX : Below B w X) => hG.bel hX hB2)
  have C1 := hid_of (show Calls Tryd.prog 50 #[slV b f n z, .int .i64 0, .slice none 0 0] w1.drew (fun e w' => e = .returned (.bool true) ∧ DR B TT w' b M1 ∧ Below B w1.drew w' ∧ Keeps TT w1.drew w') from by
    have h9 := swrite_any f n z 0 w1.drew D0 T0.out hz (by omega) (by omega) none 0 0 [] (nil_cr _ _)
    rw [pad_nil, Nat.add_zero, ← hz, a1, b1] at h9
    rw [← hz]
    exact h9)
  have k1 : M1.sz = z ∧ M1.cache.length ≤ 1001 := by
    have h1 := write_same M f (List.replicate M.sz 0)
    have h2 := write_cache M f (List.replicate M.sz 0)
    rw [e1] at h1 h2
    exact ⟨h1.2.trans hz, by simp only [] at h2; omega⟩
  have C2 := hid_of (fun (X : World) (d : DR B TT X b M1) (t : TR B TT X) => show Calls Tryd.prog 51 #[slV b f n z] X (fun e w' => e = .returned (.bool true) ∧ DR B TT w' b M2 ∧ Below B X w' ∧ Keeps TT X w') from by
    have h9 := ssync_any f n z X d t (by omega)
    rw [a2, b2] at h9
    exact h9)
  have k2 : M2.sz = z ∧ M2.cache.length ≤ 1001 := by
    have h1 := sync_keep M1
    rw [e2] at h1
    exact ⟨h1.1.trans k1.1, Nat.le_trans h1.2 k1.2⟩
  have hz2 := k2.1
  have C3 := hid_of (fun (X : World) (d : DR B TT X b M2) (t : TR B TT X) (q : CR TT X (.slice bo bn bc) l) => show Calls Tryd.prog 52 #[slV b f n z, .slice bo bn bc] X (fun e w' => e = .returned (.bool true) ∧ DR B TT w' b M3 ∧ Below B X w' ∧ Keeps TT X w') from by
    have h9 := sfill_any f n z X d t hz2 (by omega) bo bn bc l q (by omega) hf (by omega)
    rw [← hz] at h9
    rw [show (bn + M.sz - 1) / M.sz = (l.length + M.sz - 1) / M.sz by rw [hbn], a3, b3, hz] at h9
    exact h9)
  have k3 : M3.sz = z ∧ M3.cache.length ≤ 40000 := by
    have h1 := filF_same M2 f l 0 ((l.length + M.sz - 1) / M.sz)
    have h2 : (l.length + M.sz - 1) / M.sz ≤ l.length + M.sz - 1 := Nat.div_le_self _ _
    rw [e3] at h1
    exact ⟨h1.2.1.trans k2.1, by have := h1.2.2; simp only [] at this; omega⟩
  have C4 := hid_of (fun (X : World) (d : DR B TT X b M3) (t : TR B TT X) => show Calls Tryd.prog 51 #[slV b f n z] X (fun e w' => e = .returned (.bool false) ∧ DR B TT w' b M4 ∧ Below B X w' ∧ Keeps TT X w') from by
    have h9 := ssync_any f n z X d t (by omega)
    rw [a4, b4, decide_eq_false hr] at h9
    exact h9)
  clear h hin t D0 ba bd T1 hblk hTT hTs hTb hw1 hG hok e1 a1 b1 e2 a2 b2 e3 a3 b3 e4 a4 b4 k1 k2 hz2 k3 hz hbn hlb hl hf hg hc hB2
  go_enter Tryd.func36, Tryd.ntmps36
  go_wp2
  rw [← HW.out]
  obtain ⟨x00, x01, x02, x03⟩ := HKS.out w1.drew K0.out
  first
  | (go_region_with (first
    | (go_at_call 50; ((with_reducible refine (C1.out).mono ?_); (rintro e w2 ⟨rfl, q1, q2, q3⟩)); have D2 := hid_of q1; have B2 := hid_of (B0.out.trans q2); have K2 := hid_of (K0.out.trans q3); have T2 := hid_of (T0.out.same q3.1); have L2 := hid_of (L0.out.keep q3); obtain ⟨x0, x1, x2, x3⟩ := HKS.out w2 K2.out; clear q1 q2 q3)
    | (go_at_call 51; ((with_reducible refine (C2.out w2 D2.out T2.out).mono ?_); (rintro e w3 ⟨rfl, q1, q2, q3⟩)); have D3 := hid_of q1; have B3 := hid_of (B2.out.trans q2); have K3 := hid_of (K2.out.trans q3); have T3 := hid_of (T2.out.same q3.1); have L3 := hid_of (L2.out.keep q3); obtain ⟨x30, x31, x32, x33⟩ := HKS.out w3 K3.out; clear q1 q2 q3)
    | (go_at_call 52; ((with_reducible refine (C3.out w3 D3.out T3.out L3.out).mono ?_); (rintro e w4 ⟨rfl, q1, q2, q3⟩)); have D4 := hid_of q1; have B4 := hid_of (B3.out.trans q2); have K4 := hid_of (K3.out.trans q3); have T4 := hid_of (T3.out.same q3.1); have L4 := hid_of (L3.out.keep q3); obtain ⟨x40, x41, x42, x43⟩ := HKS.out w4 K4.out; clear q1 q2 q3)
    | (go_at_call 51; ((with_reducible refine (C4.out w4 D4.out T4.out).mono ?_); (rintro e w5 ⟨rfl, q1, q2, q3⟩)); have D5 := hid_of q1; have B5 := hid_of (B4.out.trans q2); have K5 := hid_of (K4.out.trans q3); have T5 := hid_of (T4.out.same q3.1); have L5 := hid_of (L4.out.keep q3); obtain ⟨x50, x51, x52, x53⟩ := HKS.out w5 K5.out; clear q1 q2 q3)))
  | fail
  all_goals go_wp2
  all_goals go_ret
  all_goals exact ⟨rfl, D5.out.sub HTS.out, B5.out, KB.out.trans (K5.out.sub HTS.out)⟩
end
end Go.Proofs.YtlffiebnieakjaaDoor

/- Checkpoint: a slot saves (way 5). Bounds on sizes alone. -/
namespace Go.Proofs.YtlffiebnieakjaaDoor
open Go.RowKit
set_option maxRecDepth 100000
set_option maxHeartbeats 6400000

section
variable {B : Nat} {T : Nat → Prop} {b : Nat} {M M1 M2 M3 M4 M5 M6 : DM} {f n z : Nat} {w : World} {bo : Option Addr} {bn bc : Nat} {l : List Int} {g : Nat}
theorem save_w5 {r : Int} (hr : r ≠ 0) (h : DR B T w b M) (t : TR B T w) (hz : M.sz = z) (hz1 : 64 ≤ z) (hin : CR T w (.slice bo bn bc) l) (hlb : Byt l) (hl : l.length ≤ 30000) (hf : f ≤ 60000) (hg : g < 9223372036854775808) (hc : M.cache.length ≤ 1000) (hG : Sh.Glob w) (hB2 : 2 ≤ B) (e1 : writeF M f (List.replicate M.sz 0) = (0, M1)) (e2 : syncF M1 = (0, M2)) (e3 : filF M2 f l 0 ((l.length + M.sz - 1) / M.sz) = (true, M3)) (e4 : syncF M3 = (0, M4)) (e5 : writeF M4 f (headK Sh.digest z l g) = (r, M5)) :
    Calls Tryd.prog 36 #[slV b f n z, .slice bo bn bc, .int .i64 g] w fun e w' => SvQ B T b (false) M5 w e w' := by
  have a1 : (writeF M f (List.replicate M.sz 0)).1 = 0 := by rw [e1]
  have b1 : (writeF M f (List.replicate M.sz 0)).2 = M1 := by rw [e1]
  have a2 : (syncF M1).1 = 0 := by rw [e2]
  have b2 : (syncF M1).2 = M2 := by rw [e2]
  have a3 : (filF M2 f l 0 ((l.length + M.sz - 1) / M.sz)).1 = true := by rw [e3]
  have b3 : (filF M2 f l 0 ((l.length + M.sz - 1) / M.sz)).2 = M3 := by rw [e3]
  have a4 : (syncF M3).1 = 0 := by rw [e4]
  have b4 : (syncF M3).2 = M4 := by rw [e4]
  have a5 : (writeF M4 f (headK Sh.digest z l g)).1 = r := by rw [e5]
  have b5 : (writeF M4 f (headK Sh.digest z l g)).2 = M5 := by rw [e5]
  have hok := h.ok
  have hz4 : z ≤ 4096 := by rw [← hz]; exact hok.sz
  have hbn : bn = l.length := by have := (rd_cut hin.1).1; rwa [by8_length] at this
  obtain ⟨w1, hw1⟩ : ∃ w1, w1 = w.alloc (slBox b f n z) := ⟨_, rfl⟩
  have ba : Below w.heap.size w w1 := by rw [hw1]; exact bel_alloc w _
  have hblk : w1.heap[w.heap.size]? = some (.cells #[.pointer (some ⟨b, 0, none⟩), .int .i64 f, .int .i64 n, .int .i64 z] 69 (0, 0)) := by rw [hw1]; exact heap_alloc_new w _
  obtain ⟨TT, hTT⟩ : ∃ TT, TT = Tn T w w1 := ⟨_, rfl⟩
  have hTs : ∀ k, T k → TT k := fun k hk => by rw [hTT]; exact Or.inl hk
  have hTb : TT w.heap.size := by rw [hTT]; exact Or.inr ⟨Nat.le_refl _, lt_of_block hblk⟩
  have bd : Below w1.heap.size w1 w1.drew := (Below.refl _ _).drew
  have T1 : TR B TT w1 := by rw [hTT]; exact t.next ba.size
  have T0 := hid_of (T1.same bd.size)
  have D0 : DR B TT w1.drew b M := (show DR B TT w1 b M by rw [hTT]; exact h.bel ba).bel0 bd
  have L0 := hid_of (show CR TT w1.drew (.slice bo bn bc) l from ((hin.keep (keeps_low ba)).mono hTs).keep (keeps_low bd))
  have B0 := hid_of (show Below B w w1.drew from (ba.mono t.hB).drew)
  have K0 := hid_of (show Keeps TT w1 w1.drew from keeps_low bd)
  have HKS := hid_of (fun (X : World) (hX : Keeps TT w1 X) => show X.cell? ⟨w.heap.size, 0, none⟩ = some (.pointer (some ⟨b, 0, none⟩)) ∧ X.cell? ⟨w.heap.size, 1, none⟩ = some (.int .i64 f) ∧ X.cell? ⟨w.heap.size, 2, none⟩ = some (.int .i64 n) ∧ X.cell? ⟨w.heap.size, 3, none⟩ = some (.int .i64 z) from by
    have e := (hX.2 _ hTb (lt_of_block hblk)).trans hblk
    exact ⟨cell_blk e rfl, cell_blk e rfl, cell_blk e rfl, cell_blk e rfl⟩)
  have HTS := hid_of hTs
  have KB := hid_of (show Keeps T w w1 from keeps_low ba)
  have HW := hid_of hw1
  have HG := hid_of (fun (X : World) (hX : Below B w X) => hG.bel hX hB2)
  have C1 := hid_of (show Calls Tryd.prog 50 #[slV b f n z, .int .i64 0, .slice none 0 0] w1.drew (fun e w' => e = .returned (.bool true) ∧ DR B TT w' b M1 ∧ Below B w1.drew w' ∧ Keeps TT w1.drew w') from by
    have h9 := swrite_any f n z 0 w1.drew D0 T0.out hz (by omega) (by omega) none 0 0 [] (nil_cr _ _)
    rw [pad_nil, Nat.add_zero, ← hz, a1, b1] at h9
    rw [← hz]
    exact h9)
  have k1 : M1.sz = z ∧ M1.cache.length ≤ 1001 := by
    have h1 := write_same M f (List.replicate M.sz 0)
    have h2 := write_cache M f (List.replicate M.sz 0)
    rw [e1] at h1 h2
    exact ⟨h1.2.trans hz, by simp only [] at h2; omega⟩
  have C2 := hid_of (fun (X : World) (d : DR B TT X b M1) (t : TR B TT X) => show Calls Tryd.prog 51 #[slV b f n z] X (fun e w' => e = .returned (.bool true) ∧ DR B TT w' b M2 ∧ Below B X w' ∧ Keeps TT X w') from by
    have h9 := ssync_any f n z X d t (by omega)
    rw [a2, b2] at h9
    exact h9)
  have k2 : M2.sz = z ∧ M2.cache.length ≤ 1001 := by
    have h1 := sync_keep M1
    rw [e2] at h1
    exact ⟨h1.1.trans k1.1, Nat.le_trans h1.2 k1.2⟩
  have hz2 := k2.1
  have C3 := hid_of (fun (X : World) (d : DR B TT X b M2) (t : TR B TT X) (q : CR TT X (.slice bo bn bc) l) => show Calls Tryd.prog 52 #[slV b f n z, .slice bo bn bc] X (fun e w' => e = .returned (.bool true) ∧ DR B TT w' b M3 ∧ Below B X w' ∧ Keeps TT X w') from by
    have h9 := sfill_any f n z X d t hz2 (by omega) bo bn bc l q (by omega) hf (by omega)
    rw [← hz] at h9
    rw [show (bn + M.sz - 1) / M.sz = (l.length + M.sz - 1) / M.sz by rw [hbn], a3, b3, hz] at h9
    exact h9)
  have k3 : M3.sz = z ∧ M3.cache.length ≤ 40000 := by
    have h1 := filF_same M2 f l 0 ((l.length + M.sz - 1) / M.sz)
    have h2 : (l.length + M.sz - 1) / M.sz ≤ l.length + M.sz - 1 := Nat.div_le_self _ _
    rw [e3] at h1
    exact ⟨h1.2.1.trans k2.1, by have := h1.2.2; simp only [] at this; omega⟩
  have C4 := hid_of (fun (X : World) (d : DR B TT X b M3) (t : TR B TT X) => show Calls Tryd.prog 51 #[slV b f n z] X (fun e w' => e = .returned (.bool true) ∧ DR B TT w' b M4 ∧ Below B X w' ∧ Keeps TT X w') from by
    have h9 := ssync_any f n z X d t (by omega)
    rw [a4, b4] at h9
    exact h9)
  have k4 : M4.sz = z ∧ M4.cache.length ≤ 40000 := by
    have h1 := sync_keep M3
    rw [e4] at h1
    exact ⟨h1.1.trans k3.1, Nat.le_trans h1.2 k3.2⟩
  have hz4m := k4.1
  have CE := hid_of (fun (X : World) (hX : Below B w X) (q : CR TT X (.slice bo bn bc) l) => encode_any bo bn bc l g X q.1 hlb (by omega) hg (HG.out X hX))
  have HEL := encF_len l g
  have HPE := pad_enc l g (z := z) (by omega)
  have CW := hid_of (fun (X Y : World) (d : DR B TT X b M4) (t : TR B TT X) (hY : Below X.heap.size X Y) (q : Brow Y X.heap.size 96 (encF l g)) => show Calls Tryd.prog 50 #[slV b f n z, .int .i64 0, .slice (some ⟨X.heap.size, 0, none⟩) 44 44] Y (fun e w' => e = .returned (.bool false) ∧ DR B TT w' b M5 ∧ Below B X w' ∧ Keeps TT X w') from by
    have h9 := swrite_any f n z 0 Y (d.bel hY) (t.next hY.size) hz4m (by omega) (by omega) (some ⟨X.heap.size, 0, none⟩) 44 44 (encF l g) ⟨rd_brow q HEL (by decide), fun _ a k c e => by cases e; exact Or.inr ⟨Nat.le_refl _, q.lt⟩⟩
    rw [HPE, Nat.add_zero, a5, b5, decide_eq_false hr] at h9
    exact h9.mono fun e w' ⟨q1, q2, q3, q4⟩ => ⟨q1, q2.sub fun k hk => Or.inl hk, (hY.mono t.hB).trans q3, (keeps_low hY).trans (q4.sub fun k hk => Or.inl hk)⟩)
  clear h hin t D0 ba bd T1 hblk hTT hTs hTb hw1 hG hok e1 a1 b1 e2 a2 b2 e3 a3 b3 e4 a4 b4 e5 a5 b5 k1 k2 hz2 k3 k4 hz4m HEL HPE hz hbn hlb hl hf hg hc hB2
  go_enter Tryd.func36, Tryd.ntmps36
  go_wp2
  rw [← HW.out]
  obtain ⟨x00, x01, x02, x03⟩ := HKS.out w1.drew K0.out
  first
  | (go_region_with (first
    | (go_at_call 50; ((with_reducible refine (C1.out).mono ?_); (rintro e w2 ⟨rfl, q1, q2, q3⟩)); have D2 := hid_of q1; have B2 := hid_of (B0.out.trans q2); have K2 := hid_of (K0.out.trans q3); have T2 := hid_of (T0.out.same q3.1); have L2 := hid_of (L0.out.keep q3); obtain ⟨x0, x1, x2, x3⟩ := HKS.out w2 K2.out; clear q1 q2 q3)
    | (go_at_call 51; ((with_reducible refine (C2.out w2 D2.out T2.out).mono ?_); (rintro e w3 ⟨rfl, q1, q2, q3⟩)); have D3 := hid_of q1; have B3 := hid_of (B2.out.trans q2); have K3 := hid_of (K2.out.trans q3); have T3 := hid_of (T2.out.same q3.1); have L3 := hid_of (L2.out.keep q3); obtain ⟨x30, x31, x32, x33⟩ := HKS.out w3 K3.out; clear q1 q2 q3)
    | (go_at_call 52; ((with_reducible refine (C3.out w3 D3.out T3.out L3.out).mono ?_); (rintro e w4 ⟨rfl, q1, q2, q3⟩)); have D4 := hid_of q1; have B4 := hid_of (B3.out.trans q2); have K4 := hid_of (K3.out.trans q3); have T4 := hid_of (T3.out.same q3.1); have L4 := hid_of (L3.out.keep q3); obtain ⟨x40, x41, x42, x43⟩ := HKS.out w4 K4.out; clear q1 q2 q3)
    | (go_at_call 51; ((with_reducible refine (C4.out w4 D4.out T4.out).mono ?_); (rintro e w5 ⟨rfl, q1, q2, q3⟩)); have D5 := hid_of q1; have B5 := hid_of (B4.out.trans q2); have K5 := hid_of (K4.out.trans q3); have T5 := hid_of (T4.out.same q3.1); have L5 := hid_of (L4.out.keep q3); obtain ⟨x50, x51, x52, x53⟩ := HKS.out w5 K5.out; clear q1 q2 q3)
    | (go_at_call 49; ((with_reducible refine (CE.out w5 B5.out L5.out).mono ?_); (rintro e wE ⟨rfl, q1, q2⟩)); have QE := hid_of q1; have BE := hid_of q2; obtain ⟨xE0, xE1, xE2, xE3⟩ := HKS.out wE (K5.out.trans (keeps_low q2)); clear q1 q2)
    | (go_at_call 50; ((with_reducible refine (CW.out w5 wE D5.out T5.out BE.out QE.out).mono ?_); (rintro e w6 ⟨rfl, q1, q2, q3⟩)); have D6 := hid_of q1; have B6 := hid_of (B5.out.trans q2); have K6 := hid_of (K5.out.trans q3); have T6 := hid_of (T5.out.same q3.1); have L6 := hid_of (L5.out.keep q3); obtain ⟨x60, x61, x62, x63⟩ := HKS.out w6 K6.out; clear q1 q2 q3)))
  | fail
  all_goals go_wp2
  all_goals go_ret
  all_goals exact ⟨rfl, D6.out.sub HTS.out, B6.out, KB.out.trans (K6.out.sub HTS.out)⟩
end
end Go.Proofs.YtlffiebnieakjaaDoor

/- Checkpoint: a slot saves (way 6). Bounds on sizes alone. -/
namespace Go.Proofs.YtlffiebnieakjaaDoor
open Go.RowKit
set_option maxRecDepth 100000
set_option maxHeartbeats 6400000

section
variable {B : Nat} {T : Nat → Prop} {b : Nat} {M M1 M2 M3 M4 M5 M6 : DM} {f n z : Nat} {w : World} {bo : Option Addr} {bn bc : Nat} {l : List Int} {g : Nat}
theorem save_w6 {r : Int} (h : DR B T w b M) (t : TR B T w) (hz : M.sz = z) (hz1 : 64 ≤ z) (hin : CR T w (.slice bo bn bc) l) (hlb : Byt l) (hl : l.length ≤ 30000) (hf : f ≤ 60000) (hg : g < 9223372036854775808) (hc : M.cache.length ≤ 1000) (hG : Sh.Glob w) (hB2 : 2 ≤ B) (e1 : writeF M f (List.replicate M.sz 0) = (0, M1)) (e2 : syncF M1 = (0, M2)) (e3 : filF M2 f l 0 ((l.length + M.sz - 1) / M.sz) = (true, M3)) (e4 : syncF M3 = (0, M4)) (e5 : writeF M4 f (headK Sh.digest z l g) = (0, M5)) (e6 : syncF M5 = (r, M6)) :
    Calls Tryd.prog 36 #[slV b f n z, .slice bo bn bc, .int .i64 g] w fun e w' => SvQ B T b (decide (r = 0)) M6 w e w' := by
  have a1 : (writeF M f (List.replicate M.sz 0)).1 = 0 := by rw [e1]
  have b1 : (writeF M f (List.replicate M.sz 0)).2 = M1 := by rw [e1]
  have a2 : (syncF M1).1 = 0 := by rw [e2]
  have b2 : (syncF M1).2 = M2 := by rw [e2]
  have a3 : (filF M2 f l 0 ((l.length + M.sz - 1) / M.sz)).1 = true := by rw [e3]
  have b3 : (filF M2 f l 0 ((l.length + M.sz - 1) / M.sz)).2 = M3 := by rw [e3]
  have a4 : (syncF M3).1 = 0 := by rw [e4]
  have b4 : (syncF M3).2 = M4 := by rw [e4]
  have a5 : (writeF M4 f (headK Sh.digest z l g)).1 = 0 := by rw [e5]
  have b5 : (writeF M4 f (headK Sh.digest z l g)).2 = M5 := by rw [e5]
  have a6 : (syncF M5).1 = r := by rw [e6]
  have b6 : (syncF M5).2 = M6 := by rw [e6]
  have hok := h.ok
  have hz4 : z ≤ 4096 := by rw [← hz]; exact hok.sz
  have hbn : bn = l.length := by have := (rd_cut hin.1).1; rwa [by8_length] at this
  obtain ⟨w1, hw1⟩ : ∃ w1, w1 = w.alloc (slBox b f n z) := ⟨_, rfl⟩
  have ba : Below w.heap.size w w1 := by rw [hw1]; exact bel_alloc w _
  have hblk : w1.heap[w.heap.size]? = some (.cells #[.pointer (some ⟨b, 0, none⟩), .int .i64 f, .int .i64 n, .int .i64 z] 69 (0, 0)) := by rw [hw1]; exact heap_alloc_new w _
  obtain ⟨TT, hTT⟩ : ∃ TT, TT = Tn T w w1 := ⟨_, rfl⟩
  have hTs : ∀ k, T k → TT k := fun k hk => by rw [hTT]; exact Or.inl hk
  have hTb : TT w.heap.size := by rw [hTT]; exact Or.inr ⟨Nat.le_refl _, lt_of_block hblk⟩
  have bd : Below w1.heap.size w1 w1.drew := (Below.refl _ _).drew
  have T1 : TR B TT w1 := by rw [hTT]; exact t.next ba.size
  have T0 := hid_of (T1.same bd.size)
  have D0 : DR B TT w1.drew b M := (show DR B TT w1 b M by rw [hTT]; exact h.bel ba).bel0 bd
  have L0 := hid_of (show CR TT w1.drew (.slice bo bn bc) l from ((hin.keep (keeps_low ba)).mono hTs).keep (keeps_low bd))
  have B0 := hid_of (show Below B w w1.drew from (ba.mono t.hB).drew)
  have K0 := hid_of (show Keeps TT w1 w1.drew from keeps_low bd)
  have HKS := hid_of (fun (X : World) (hX : Keeps TT w1 X) => show X.cell? ⟨w.heap.size, 0, none⟩ = some (.pointer (some ⟨b, 0, none⟩)) ∧ X.cell? ⟨w.heap.size, 1, none⟩ = some (.int .i64 f) ∧ X.cell? ⟨w.heap.size, 2, none⟩ = some (.int .i64 n) ∧ X.cell? ⟨w.heap.size, 3, none⟩ = some (.int .i64 z) from by
    have e := (hX.2 _ hTb (lt_of_block hblk)).trans hblk
    exact ⟨cell_blk e rfl, cell_blk e rfl, cell_blk e rfl, cell_blk e rfl⟩)
  have HTS := hid_of hTs
  have KB := hid_of (show Keeps T w w1 from keeps_low ba)
  have HW := hid_of hw1
  have HG := hid_of (fun (X : World) (hX : Below B w X) => hG.bel hX hB2)
  have C1 := hid_of (show Calls Tryd.prog 50 #[slV b f n z, .int .i64 0, .slice none 0 0] w1.drew (fun e w' => e = .returned (.bool true) ∧ DR B TT w' b M1 ∧ Below B w1.drew w' ∧ Keeps TT w1.drew w') from by
    have h9 := swrite_any f n z 0 w1.drew D0 T0.out hz (by omega) (by omega) none 0 0 [] (nil_cr _ _)
    rw [pad_nil, Nat.add_zero, ← hz, a1, b1] at h9
    rw [← hz]
    exact h9)
  have k1 : M1.sz = z ∧ M1.cache.length ≤ 1001 := by
    have h1 := write_same M f (List.replicate M.sz 0)
    have h2 := write_cache M f (List.replicate M.sz 0)
    rw [e1] at h1 h2
    exact ⟨h1.2.trans hz, by simp only [] at h2; omega⟩
  have C2 := hid_of (fun (X : World) (d : DR B TT X b M1) (t : TR B TT X) => show Calls Tryd.prog 51 #[slV b f n z] X (fun e w' => e = .returned (.bool true) ∧ DR B TT w' b M2 ∧ Below B X w' ∧ Keeps TT X w') from by
    have h9 := ssync_any f n z X d t (by omega)
    rw [a2, b2] at h9
    exact h9)
  have k2 : M2.sz = z ∧ M2.cache.length ≤ 1001 := by
    have h1 := sync_keep M1
    rw [e2] at h1
    exact ⟨h1.1.trans k1.1, Nat.le_trans h1.2 k1.2⟩
  have hz2 := k2.1
  have C3 := hid_of (fun (X : World) (d : DR B TT X b M2) (t : TR B TT X) (q : CR TT X (.slice bo bn bc) l) => show Calls Tryd.prog 52 #[slV b f n z, .slice bo bn bc] X (fun e w' => e = .returned (.bool true) ∧ DR B TT w' b M3 ∧ Below B X w' ∧ Keeps TT X w') from by
    have h9 := sfill_any f n z X d t hz2 (by omega) bo bn bc l q (by omega) hf (by omega)
    rw [← hz] at h9
    rw [show (bn + M.sz - 1) / M.sz = (l.length + M.sz - 1) / M.sz by rw [hbn], a3, b3, hz] at h9
    exact h9)
  have k3 : M3.sz = z ∧ M3.cache.length ≤ 40000 := by
    have h1 := filF_same M2 f l 0 ((l.length + M.sz - 1) / M.sz)
    have h2 : (l.length + M.sz - 1) / M.sz ≤ l.length + M.sz - 1 := Nat.div_le_self _ _
    rw [e3] at h1
    exact ⟨h1.2.1.trans k2.1, by have := h1.2.2; simp only [] at this; omega⟩
  have C4 := hid_of (fun (X : World) (d : DR B TT X b M3) (t : TR B TT X) => show Calls Tryd.prog 51 #[slV b f n z] X (fun e w' => e = .returned (.bool true) ∧ DR B TT w' b M4 ∧ Below B X w' ∧ Keeps TT X w') from by
    have h9 := ssync_any f n z X d t (by omega)
    rw [a4, b4] at h9
    exact h9)
  have k4 : M4.sz = z ∧ M4.cache.length ≤ 40000 := by
    have h1 := sync_keep M3
    rw [e4] at h1
    exact ⟨h1.1.trans k3.1, Nat.le_trans h1.2 k3.2⟩
  have hz4m := k4.1
  have CE := hid_of (fun (X : World) (hX : Below B w X) (q : CR TT X (.slice bo bn bc) l) => encode_any bo bn bc l g X q.1 hlb (by omega) hg (HG.out X hX))
  have HEL := encF_len l g
  have HPE := pad_enc l g (z := z) (by omega)
  have CW := hid_of (fun (X Y : World) (d : DR B TT X b M4) (t : TR B TT X) (hY : Below X.heap.size X Y) (q : Brow Y X.heap.size 96 (encF l g)) => show Calls Tryd.prog 50 #[slV b f n z, .int .i64 0, .slice (some ⟨X.heap.size, 0, none⟩) 44 44] Y (fun e w' => e = .returned (.bool true) ∧ DR B TT w' b M5 ∧ Below B X w' ∧ Keeps TT X w') from by
    have h9 := swrite_any f n z 0 Y (d.bel hY) (t.next hY.size) hz4m (by omega) (by omega) (some ⟨X.heap.size, 0, none⟩) 44 44 (encF l g) ⟨rd_brow q HEL (by decide), fun _ a k c e => by cases e; exact Or.inr ⟨Nat.le_refl _, q.lt⟩⟩
    rw [HPE, Nat.add_zero, a5, b5] at h9
    exact h9.mono fun e w' ⟨q1, q2, q3, q4⟩ => ⟨q1, q2.sub fun k hk => Or.inl hk, (hY.mono t.hB).trans q3, (keeps_low hY).trans (q4.sub fun k hk => Or.inl hk)⟩)
  have k5 : M5.sz = z ∧ M5.cache.length ≤ 40001 := by
    have h1 := write_same M4 f (headK Sh.digest z l g)
    have h2 := write_cache M4 f (headK Sh.digest z l g)
    rw [e5] at h1 h2
    exact ⟨h1.2.trans k4.1, by have := k4.2; simp only [] at h2; omega⟩
  have C6 := hid_of (fun (X : World) (d : DR B TT X b M5) (t : TR B TT X) => show Calls Tryd.prog 51 #[slV b f n z] X (fun e w' => e = .returned (.bool (decide (r = 0))) ∧ DR B TT w' b M6 ∧ Below B X w' ∧ Keeps TT X w') from by
    have h9 := ssync_any f n z X d t (by omega)
    rw [a6, b6] at h9
    exact h9)
  clear h hin t D0 ba bd T1 hblk hTT hTs hTb hw1 hG hok e1 a1 b1 e2 a2 b2 e3 a3 b3 e4 a4 b4 e5 a5 b5 e6 a6 b6 k1 k2 hz2 k3 k4 hz4m HEL HPE k5 hz hbn hlb hl hf hg hc hB2
  go_enter Tryd.func36, Tryd.ntmps36
  go_wp2
  rw [← HW.out]
  obtain ⟨x00, x01, x02, x03⟩ := HKS.out w1.drew K0.out
  first
  | (go_region_with (first
    | (go_at_call 50; ((with_reducible refine (C1.out).mono ?_); (rintro e w2 ⟨rfl, q1, q2, q3⟩)); have D2 := hid_of q1; have B2 := hid_of (B0.out.trans q2); have K2 := hid_of (K0.out.trans q3); have T2 := hid_of (T0.out.same q3.1); have L2 := hid_of (L0.out.keep q3); obtain ⟨x0, x1, x2, x3⟩ := HKS.out w2 K2.out; clear q1 q2 q3)
    | (go_at_call 51; ((with_reducible refine (C2.out w2 D2.out T2.out).mono ?_); (rintro e w3 ⟨rfl, q1, q2, q3⟩)); have D3 := hid_of q1; have B3 := hid_of (B2.out.trans q2); have K3 := hid_of (K2.out.trans q3); have T3 := hid_of (T2.out.same q3.1); have L3 := hid_of (L2.out.keep q3); obtain ⟨x30, x31, x32, x33⟩ := HKS.out w3 K3.out; clear q1 q2 q3)
    | (go_at_call 52; ((with_reducible refine (C3.out w3 D3.out T3.out L3.out).mono ?_); (rintro e w4 ⟨rfl, q1, q2, q3⟩)); have D4 := hid_of q1; have B4 := hid_of (B3.out.trans q2); have K4 := hid_of (K3.out.trans q3); have T4 := hid_of (T3.out.same q3.1); have L4 := hid_of (L3.out.keep q3); obtain ⟨x40, x41, x42, x43⟩ := HKS.out w4 K4.out; clear q1 q2 q3)
    | (go_at_call 51; ((with_reducible refine (C4.out w4 D4.out T4.out).mono ?_); (rintro e w5 ⟨rfl, q1, q2, q3⟩)); have D5 := hid_of q1; have B5 := hid_of (B4.out.trans q2); have K5 := hid_of (K4.out.trans q3); have T5 := hid_of (T4.out.same q3.1); have L5 := hid_of (L4.out.keep q3); obtain ⟨x50, x51, x52, x53⟩ := HKS.out w5 K5.out; clear q1 q2 q3)
    | (go_at_call 49; ((with_reducible refine (CE.out w5 B5.out L5.out).mono ?_); (rintro e wE ⟨rfl, q1, q2⟩)); have QE := hid_of q1; have BE := hid_of q2; obtain ⟨xE0, xE1, xE2, xE3⟩ := HKS.out wE (K5.out.trans (keeps_low q2)); clear q1 q2)
    | (go_at_call 50; ((with_reducible refine (CW.out w5 wE D5.out T5.out BE.out QE.out).mono ?_); (rintro e w6 ⟨rfl, q1, q2, q3⟩)); have D6 := hid_of q1; have B6 := hid_of (B5.out.trans q2); have K6 := hid_of (K5.out.trans q3); have T6 := hid_of (T5.out.same q3.1); have L6 := hid_of (L5.out.keep q3); obtain ⟨x60, x61, x62, x63⟩ := HKS.out w6 K6.out; clear q1 q2 q3)
    | (go_at_call 51; ((with_reducible refine (C6.out w6 D6.out T6.out).mono ?_); (rintro e w7 ⟨rfl, q1, q2, q3⟩)); have D7 := hid_of q1; have B7 := hid_of (B6.out.trans q2); have K7 := hid_of (K6.out.trans q3); have T7 := hid_of (T6.out.same q3.1); have L7 := hid_of (L6.out.keep q3); obtain ⟨x70, x71, x72, x73⟩ := HKS.out w7 K7.out; clear q1 q2 q3)))
  | fail
  all_goals go_wp2
  all_goals go_ret
  all_goals exact ⟨rfl, D7.out.sub HTS.out, B7.out, KB.out.trans (K7.out.sub HTS.out)⟩
end
end Go.Proofs.YtlffiebnieakjaaDoor

/- Checkpoint: a slot saves (whatever the disk answers). Bounds on sizes alone. -/
namespace Go.Proofs.YtlffiebnieakjaaDoor
open Go.RowKit
set_option maxRecDepth 100000
set_option maxHeartbeats 6400000

section
variable {B : Nat} {T : Nat → Prop} {b : Nat} {M M1 M2 M3 M4 M5 M6 : DM} {f n z : Nat} {w : World} {bo : Option Addr} {bn bc : Nat} {l : List Int} {g : Nat}
theorem save_any (h : DR B T w b M) (t : TR B T w) (hz : M.sz = z) (hz1 : 64 ≤ z) (hin : CR T w (.slice bo bn bc) l) (hlb : Byt l) (hl : l.length ≤ 30000) (hf : f ≤ 60000) (hg : g < 9223372036854775808) (hc : M.cache.length ≤ 1000) (hG : Sh.Glob w) (hB2 : 2 ≤ B) :
    Calls Tryd.prog 36 #[slV b f n z, .slice bo bn bc, .int .i64 g] w fun e w' => SvQ B T b (saveF (headK Sh.digest z l g) M f l).1 (saveF (headK Sh.digest z l g) M f l).2 w e w' := by
  obtain ⟨r1, M1, e1⟩ : ∃ r M1, writeF M f (List.replicate M.sz 0) = (r, M1) := ⟨_, _, rfl⟩
  by_cases h1 : r1 = 0
  · subst h1
    obtain ⟨r2, M2, e2⟩ : ∃ r M2, syncF M1 = (r, M2) := ⟨_, _, rfl⟩
    have s1 := (write_same M f (List.replicate M.sz 0)).2
    rw [e1] at s1
    have s2 := (sync_keep M1).1
    rw [e2] at s2
    have hz2 : M2.sz = M.sz := s2.trans s1
    by_cases h2 : r2 = 0
    · subst h2
      obtain ⟨r3, M3, e3⟩ : ∃ r M3, filF M2 f l 0 ((l.length + M.sz - 1) / M.sz) = (r, M3) := ⟨_, _, rfl⟩
      cases r3 with
      | false =>
        rw [save_3 e1 e2 hz2 (by rw [e3]), e3]
        exact save_w3 h t hz hz1 hin hlb hl hf hg hc hG hB2 e1 e2 e3
      | true =>
        obtain ⟨r4, M4, e4⟩ : ∃ r M4, syncF M3 = (r, M4) := ⟨_, _, rfl⟩
        by_cases h4 : r4 = 0
        · subst h4
          obtain ⟨r5, M5, e5⟩ : ∃ r M5, writeF M4 f (headK Sh.digest z l g) = (r, M5) := ⟨_, _, rfl⟩
          by_cases h5 : r5 = 0
          · subst h5
            obtain ⟨r6, M6, e6⟩ : ∃ r M6, syncF M5 = (r, M6) := ⟨_, _, rfl⟩
            rw [save_6 e1 e2 hz2 e3 e4 e5, e6]
            exact save_w6 h t hz hz1 hin hlb hl hf hg hc hG hB2 e1 e2 e3 e4 e5 e6
          · rw [save_5 e1 e2 hz2 e3 e4 (by rw [e5]; exact h5), e5]
            exact save_w5 h5 h t hz hz1 hin hlb hl hf hg hc hG hB2 e1 e2 e3 e4 e5
        · rw [save_4 e1 e2 hz2 e3 (by rw [e4]; exact h4), e4]
          exact save_w4 h4 h t hz hz1 hin hlb hl hf hg hc hG hB2 e1 e2 e3 e4
    · rw [save_2 e1 (by rw [e2]; exact h2), e2]
      exact save_w2 h2 h t hz hz1 hin hlb hl hf hg hc hG hB2 e1 e2
  · rw [save_1 (by rw [e1]; exact h1), e1]
    exact save_w1 h1 h t hz hz1 hin hlb hl hf hg hc hG hB2 e1
end
end Go.Proofs.YtlffiebnieakjaaDoor

/- Checkpoint: Save. Bounds on sizes alone. -/
namespace Go.Proofs.YtlffiebnieakjaaDoor
open Go.RowKit
set_option maxRecDepth 100000
set_option maxHeartbeats 6400000

theorem dr_set {B cb o b : Nat} {T : Nat → Prop} {w : World} {M : DM} (h : DR B T w b M) (hc : T cb) (v : Value) : DR B T (w.setCell ⟨cb, o, none⟩ v) b M := by
  obtain ⟨SD, h1, h2⟩ := h
  have k := Kept.set w cb o v
  exact ⟨SD, IG.keep h1 ⟨k.size, fun q hq hl => k.block q hl fun e => (h2 q hq).2.2 (by rw [e]; exact hc)⟩, fun q hq => ⟨(h2 q hq).1, Nat.lt_of_lt_of_le (h2 q hq).2.1 k.size, (h2 q hq).2.2⟩⟩
section
variable {B : Nat} {T : Nat → Prop} {w : World} {cb b : Nat} {M : DM} {f n i g : Nat} {c : List Int} {wk : Bool}
theorem CKR.tr (h : CKR B T w cb b M f n i c g wk) (t : TR B T w) : ∃ U : Nat → Prop, (∀ k, U k → B ≤ k ∧ k < w.heap.size ∧ ¬ T k) ∧ SK U w cb b f n M.sz i c g wk ∧ DR B (fun k => T k ∨ U k) w b M ∧ TR B (fun k => T k ∨ U k) w := by
  obtain ⟨U, h1, h2, h3⟩ := h
  exact ⟨U, h1, h2, h3, ⟨fun k hk => Or.inl (t.low k hk), fun k hk => by rcases hk with hk | hk; exact t.lt k hk; exact (h1 k hk).2.1⟩⟩
theorem CKR.bel {w' : World} (h : CKR B T w cb b M f n i c g wk) (hb : Below w.heap.size w w') : CKR B (Tn T w w') w' cb b M f n i c g wk := by
  obtain ⟨U, h1, h2, h3⟩ := h
  refine ⟨U, fun k hk => ⟨(h1 k hk).1, Nat.lt_of_lt_of_le (h1 k hk).2.1 hb.size, fun e => ?_⟩, h2.keep (keeps_low hb), (h3.bel hb).sub fun k hk => ?_⟩
  · rcases e with e | e
    · exact (h1 k hk).2.2 e
    · have := (h1 k hk).2.1; omega
  · rcases hk with (hk | hk) | hk
    · exact Or.inl (Or.inl hk)
    · exact Or.inr hk
    · exact Or.inl (Or.inr hk)
theorem CKR.bel0 {w' : World} (h : CKR B T w cb b M f n i c g wk) (hb : Below w.heap.size w w') : CKR B T w' cb b M f n i c g wk := by
  obtain ⟨U, h1, h2, h3⟩ := h
  exact ⟨U, fun k hk => ⟨(h1 k hk).1, Nat.lt_of_lt_of_le (h1 k hk).2.1 hb.size, (h1 k hk).2.2⟩, h2.keep (keeps_low hb), h3.bel0 hb⟩
theorem CKR.disk (h : CKR B T w cb b M f n i c g wk) : DR B T w b M := by
  obtain ⟨U, h1, h2, h3⟩ := h
  exact h3.sub fun k hk => Or.inl hk
theorem CKR.down (h : CKR B T w cb b M f n i c g wk) : Calls Tryd.prog 21 #[.pointer (some ⟨cb, 0, none⟩)] w fun e w' => e = .returned (.bool (!wk)) ∧ Below w.heap.size w w' := by
  obtain ⟨U, h1, h2, h3⟩ := h
  exact h2.down
theorem CKR.room (h : CKR B T w cb b M f n i c g wk) : Calls Tryd.prog 18 #[.pointer (some ⟨cb, 0, none⟩)] w fun e w' => e = .returned (.int .i64 ((n - 1) * M.sz : Nat)) ∧ Below w.heap.size w w' := by
  obtain ⟨U, h1, h2, h3⟩ := h
  exact h2.room
theorem CKR.load (h : CKR B T w cb b M f n i c g wk) : Calls Tryd.prog 15 #[.pointer (some ⟨cb, 0, none⟩)] w fun e w' => LdQ (some (c, g)) w e w' := by
  obtain ⟨U, h1, h2, h3⟩ := h
  exact h2.load
/-- Power failures and crashes beside a store. -/
theorem CKR.fail (h : CKR B T w cb b M f n i c g wk) (t : TR B T w) (m : Int) (hm : R64 m) :
    Calls Tryd.prog 25 #[.pointer (some ⟨b, 0, none⟩), .int .i64 m] w fun e w' => e = .returned (.tuple #[]) ∧ CKR B T w' cb b (failF M m) f n i c g wk ∧ Below B w w' ∧ Keeps T w w' := by
  obtain ⟨U, h1, h2, h3, h4⟩ := h.tr t
  have hz : (failF M m).sz = M.sz := by unfold failF; split <;> rfl
  refine (h3.fail h4 m hm).mono fun e w' ⟨q1, q2, q3, q4⟩ => ⟨q1, ⟨U, fun k hk => ⟨(h1 k hk).1, Nat.lt_of_lt_of_le (h1 k hk).2.1 q4.1, (h1 k hk).2.2⟩, ?_, q2⟩, q3, q4.sub fun k hk => Or.inl hk⟩
  rw [hz]
  exact h2.keep (q4.sub fun k hk => Or.inr hk)
/-- What Save leaves. -/
def StQ (B : Nat) (T : Nat → Prop) (w : World) (cb b : Nat) (M : DM) (f n i : Nat) (c : List Int) (g : Nat) (wk : Bool) (cd : Int) (e : Ending) (w' : World) : Prop := e = .returned (.int .i64 cd) ∧ CKR B T w' cb b M f n i c g wk ∧ Below B w w' ∧ Keeps T w w'
theorem save_dead {bo : Option Addr} {bn bc : Nat} (h : CKR B T w cb b M f n i c g false) (t : TR B T w) :
    Calls Tryd.prog 22 #[.pointer (some ⟨cb, 0, none⟩), .slice bo bn bc] w fun e w' => StQ B T w cb b M f n i c g false 8 e w' := by
  obtain ⟨U, h1, h2, h3⟩ := h
  obtain ⟨x, k, m, hx, hr⟩ := h2.cells
  have c11 := cell_blk hx (j := 11) rfl
  have HF := hid_of (show StQ B T w cb b M f n i c g false 8 (.returned (.int .i64 8)) w from ⟨rfl, ⟨U, h1, h2, h3⟩, Below.refl _ _, keeps_low (Below.refl _ _)⟩)
  clear hx hr h1 h2 h3 t
  go_enter Tryd.func22, Tryd.ntmps22
  go_wp2
  go_ret
  exact HF.out
theorem save_sz (H : List Int) (M : DM) (f : Nat) (b : List Int) : (saveF H M f b).2.sz = M.sz := by
  have key : ∀ (O : List (Option (Nat × List Int))) (M : DM), (runF O M).2.sz = M.sz := by
    intro O
    induction O with
    | nil => intro M; rfl
    | cons o r ih =>
      intro M
      have e : (opF M o).2.sz = M.sz := by
        cases o with
        | none => exact (sync_keep M).1
        | some p => exact (write_same M p.1 p.2).2
      rw [runF]
      split
      · exact (ih _).trans e
      · exact e
  exact key _ M
/-- Behind a save that failed. -/
theorem st_finn {U : Nat → Prop} {i j : Nat} {M' : DM} {X : World} (_hj : j ≤ 1) (h1 : ∀ k, U k → B ≤ k ∧ k < w.heap.size ∧ ¬ T k) (h2 : SK U w cb b f n M.sz i c g true) (_t : TR B T w) (hb : Below B w X) (hk : Keeps (fun k => T k ∨ U k) w X) (d : DR B (fun k => T k ∨ U k) X b M') (hz : M'.sz = M.sz) : StQ B T w cb b M' f n i c g false 8 (.returned (.int .i64 8)) (X.setCell ⟨cb, 11, none⟩ (.bool false)) := by
  have s := h2.keep (hk.sub fun k hk => Or.inr hk)
  obtain ⟨x, k, m, hx, hr⟩ := s.cells
  have hcb := (h1 cb h2.own)
  have ks := Kept.set X cb 11 (.bool false)
  have hsz : X.heap.size ≤ (X.setCell ⟨cb, 11, none⟩ (.bool false)).heap.size := ks.size
  refine ⟨rfl, ⟨U, fun q hq => ⟨(h1 q hq).1, Nat.lt_of_lt_of_le (Nat.lt_of_lt_of_le (h1 q hq).2.1 hk.1) hsz, (h1 q hq).2.2⟩, ⟨⟨x, k, m, ?_, ?_⟩, s.own, s.ix, by rw [hz]; exact s.nb, by rw [hz]; exact s.cl, s.gb⟩, dr_set d (Or.inr h2.own) _⟩, hb.setCell (p := ⟨cb, 11, none⟩) hcb.1 _, (hk.sub fun k hk => Or.inl hk).trans (keeps_setC cb 11 X _ fun q hq e => hcb.2.2 (by rw [← e]; exact hq))⟩
  · rw [hz]; exact blk_setCell hx
  · exact hr.keep (keeps_setC cb 11 X _ fun q hq => hq.2)
/-- Behind a save that went well. -/
theorem st_finy {U : Nat → Prop} {i j g2 : Nat} {l : List Int} {M' : DM} {X Y : World} (hj : j ≤ 1) (h1 : ∀ k, U k → B ≤ k ∧ k < w.heap.size ∧ ¬ T k) (h2 : SK U w cb b f n M.sz i c g true) (t : TR B T w) (hb : Below B w X) (hk : Keeps (fun k => T k ∨ U k) w X) (d : DR B (fun k => T k ∨ U k) X b M') (hz : M'.sz = M.sz) (hg : g2 ≤ 4611686018427387904) (hl : l.length ≤ (n - 1) * M'.sz) (x : Option Addr) (k m : Nat) (hr : CR (fun k => X.heap.size ≤ k) Y (.slice x k m) l) (hY : Below X.heap.size X Y) : StQ B T w cb b M' f n j l g2 true 0 (.returned (.int .i64 0)) (((Y.setCell ⟨cb, 8, none⟩ (.int .i64 j)).setCell ⟨cb, 9, none⟩ (.slice x k m)).setCell ⟨cb, 10, none⟩ (.int .i64 g2)) := by
  have s := h2.keep (hk.sub fun k hk => Or.inr hk)
  obtain ⟨x', k', m', hx, _⟩ := s.cells
  have hcb := (h1 cb h2.own)
  have hcX := lt_of_block hx
  have hxY := (hY.block cb hcX).trans hx
  have ks : Keeps (fun q => q ≠ cb) Y (((Y.setCell ⟨cb, 8, none⟩ (.int .i64 j)).setCell ⟨cb, 9, none⟩ (.slice x k m)).setCell ⟨cb, 10, none⟩ (.int .i64 g2)) := keeps_set3 cb Y _ _ _ fun q hq => hq
  have hsz := ks.1
  have dY := d.bel hY
  have dY2 : DR B (fun q => T q ∨ (U q ∨ (X.heap.size ≤ q ∧ q < Y.heap.size))) Y b M' := dY.sub fun q hq => by
    rcases hq with hq | hq | hq
    · exact Or.inl (Or.inl hq)
    · exact Or.inl (Or.inr hq)
    · exact Or.inr hq
  have hbY : Below B w Y := hb.trans (hY.mono (Nat.le_trans t.hB hb.size))
  refine ⟨rfl, ⟨fun q => U q ∨ (X.heap.size ≤ q ∧ q < Y.heap.size), fun q hq => ?_, ⟨⟨x, k, m, ?_, ?_⟩, Or.inl s.own, hj, by rw [hz]; exact s.nb, hl, hg⟩, dr_set (dr_set (dr_set dY2 (Or.inr (Or.inl h2.own)) _) (Or.inr (Or.inl h2.own)) _) (Or.inr (Or.inl h2.own)) _⟩, ((hbY.setCell (p := ⟨cb, 8, none⟩) hcb.1 _).setCell (p := ⟨cb, 9, none⟩) hcb.1 _).setCell (p := ⟨cb, 10, none⟩) hcb.1 _, ((hk.sub fun k hk => Or.inl hk).trans (keeps_low hY)).trans (ks.sub fun q hq e => hcb.2.2 (by rw [← e]; exact hq))⟩
  · have := t.hB
    have h6 := hb.size
    have h7 := hY.size
    rcases hq with hq | hq
    · exact ⟨(h1 q hq).1, Nat.lt_of_lt_of_le (Nat.lt_of_lt_of_le (h1 q hq).2.1 (Nat.le_trans hk.1 h7)) hsz, (h1 q hq).2.2⟩
    · exact ⟨by omega, Nat.lt_of_lt_of_le hq.2 hsz, fun e => by have := t.lt q e; omega⟩
  · rw [hz]; exact blk_setCell (blk_setCell (blk_setCell hxY))
  · exact (hr.lt.mono fun q hq => ⟨Or.inr hq, fun e => by rw [e] at hq; omega⟩).keep (ks.sub fun q hq => hq.2)
theorem save_lim1 {bo : Option Addr} {bn bc : Nat} {l : List Int} (h : CKR B T w cb b M f n i c g true) (t : TR B T w) (hin : CR T w (.slice bo bn bc) l) (hl : (n - 1) * M.sz < l.length) :
    Calls Tryd.prog 22 #[.pointer (some ⟨cb, 0, none⟩), .slice bo bn bc] w fun e w' => StQ B T w cb b M f n i c g true 6 e w' := by
  have hbn : bn = l.length := by have := (rd_cut hin.1).1; rwa [by8_length] at this
  have HF := hid_of (fun (X : World) (hX : Below w.heap.size w X) => show StQ B T w cb b M f n i c g true 6 (.returned (.int .i64 6)) X from ⟨rfl, h.bel0 hX, hX.mono t.hB, keeps_low hX⟩)
  obtain ⟨U, h1, h2, h3⟩ := h
  obtain ⟨x, k, m, hx, hr⟩ := h2.cells
  have c11 := cell_blk hx (j := 11) rfl
  have HC := hid_of (fun (X : World) (hX : Below w.heap.size w X) => show X.cell? ⟨cb, 10, none⟩ = some (.int .i64 g) from cell_blk ((hX.block cb (lt_of_block hx)).trans hx) (j := 10) rfl)
  have CRM := hid_of h2.room
  obtain ⟨R, hR⟩ : ∃ R, R = (n - 1) * M.sz := ⟨_, rfl⟩
  rw [← hR] at CRM hl
  have l1 : (R : Int) < (bn : Int) := by omega
  have l1b : decide ((R : Int) < (bn : Int)) = true := decide_eq_true l1
  clear hx hr h1 h2 h3 t hR hin hbn hl
  go_enter Tryd.func22, Tryd.ntmps22
  go_wp2_with (go_at_call 18; ((with_reducible refine (CRM.out).mono ?_); (rintro e w1 ⟨rfl, q1⟩)); have B1 := hid_of q1; have y10 := HC.out w1 q1; clear q1)
  go_ret
  exact HF.out w1 B1.out
theorem save_lim2 {bo : Option Addr} {bn bc : Nat} {l : List Int} (h : CKR B T w cb b M f n i c g true) (t : TR B T w) (hin : CR T w (.slice bo bn bc) l) (hl : l.length ≤ (n - 1) * M.sz) (hg : g = 4611686018427387904) :
    Calls Tryd.prog 22 #[.pointer (some ⟨cb, 0, none⟩), .slice bo bn bc] w fun e w' => StQ B T w cb b M f n i c g true 6 e w' := by
  have hbn : bn = l.length := by have := (rd_cut hin.1).1; rwa [by8_length] at this
  have HF := hid_of (fun (X : World) (hX : Below w.heap.size w X) => show StQ B T w cb b M f n i c g true 6 (.returned (.int .i64 6)) X from ⟨rfl, h.bel0 hX, hX.mono t.hB, keeps_low hX⟩)
  obtain ⟨U, h1, h2, h3⟩ := h
  obtain ⟨x, k, m, hx, hr⟩ := h2.cells
  have c11 := cell_blk hx (j := 11) rfl
  have HC := hid_of (fun (X : World) (hX : Below w.heap.size w X) => show X.cell? ⟨cb, 10, none⟩ = some (.int .i64 g) from cell_blk ((hX.block cb (lt_of_block hx)).trans hx) (j := 10) rfl)
  have CRM := hid_of h2.room
  obtain ⟨R, hR⟩ : ∃ R, R = (n - 1) * M.sz := ⟨_, rfl⟩
  rw [← hR] at CRM hl
  have l1 : ¬ (R : Int) < (bn : Int) := by omega
  have l1b : decide ((R : Int) < (bn : Int)) = false := decide_eq_false l1
  subst hg
  clear hx hr h1 h2 h3 t hR hin hbn hl
  go_enter Tryd.func22, Tryd.ntmps22
  go_wp2_with (go_at_call 18; ((with_reducible refine (CRM.out).mono ?_); (rintro e w1 ⟨rfl, q1⟩)); have B1 := hid_of q1; have y10 := HC.out w1 q1; clear q1)
  go_ret
  exact HF.out w1 B1.out
theorem save_st0y {bo : Option Addr} {bn bc : Nat} {l : List Int} (h : CKR B T w cb b M f n 0 c g true) (t : TR B T w) (hin : CR T w (.slice bo bn bc) l) (hlb : Byt l) (hl : l.length ≤ (n - 1) * M.sz) (hg : g < 4611686018427387904) (hR9 : (n - 1) * M.sz ≤ 30000) (hf : f + n ≤ 60000) (hz1 : 64 ≤ M.sz) (hc : M.cache.length ≤ 1000) (hG : Sh.Glob w) (hB2 : 2 ≤ B) (hok : (saveF (headK Sh.digest M.sz l (g + 1)) M (f + n) l).1 = true) :
    Calls Tryd.prog 22 #[.pointer (some ⟨cb, 0, none⟩), .slice bo bn bc] w fun e w' => StQ B T w cb b (saveF (headK Sh.digest M.sz l (g + 1)) M (f + n) l).2 f n 1 l (g + 1) true 0 e w' := by
  have hbn : bn = l.length := by have := (rd_cut hin.1).1; rwa [by8_length] at this
  have hsz : (saveF (headK Sh.digest M.sz l (g + 1)) M (f + n) l).2.sz = M.sz := save_sz _ _ _ _
  obtain ⟨U, h1, h2, h3, h4⟩ := h.tr t
  obtain ⟨x, k, m, hx, hr⟩ := h2.cells
  obtain ⟨fn, hfn⟩ : ∃ fn, fn = f + n := ⟨_, rfl⟩
  have HX := hid_of (show w.heap[cb]? = some (.cells (stRowG b f fn n M.sz 0 (.slice x k m) g true).toArray 72 (0, 0)) from by rw [hfn]; exact hx)
  have c11 := cell_blk hx (j := 11) rfl
  have CRM := hid_of h2.room
  have CSV := hid_of (fun (X : World) (hX : Below w.heap.size w X) => show Calls Tryd.prog 36 #[slV b (f + n) n M.sz, .slice bo bn bc, .int .i64 ((g + 1 : Nat) : Int)] X (fun e w' => SvQ B (fun k => T k ∨ U k) b true (saveF (headK Sh.digest M.sz l (g + 1)) M (f + n) l).2 X e w') from by
    have h9 := save_any (f := (f + n)) (n := n) (g := g + 1) (h3.bel0 hX) (h4.same hX.size) rfl hz1 ((hin.keep (keeps_low hX)).mono fun k hk => Or.inl hk) hlb (by omega) (by omega) (by omega) hc (hG.bel hX hG.two) hB2
    rw [hok] at h9
    exact h9)
  obtain ⟨g2, hg2⟩ : ∃ g2, g2 = g + 1 := ⟨_, rfl⟩
  obtain ⟨M', hM'⟩ : ∃ M', M' = (saveF (headK Sh.digest M.sz l (g + 1)) M (f + n) l).2 := ⟨_, rfl⟩
  rw [← hM', ← hg2, ← hfn] at CSV
  rw [← hM'] at hsz
  rw [← hM']
  rw [← hg2]
  obtain ⟨z, hz⟩ : ∃ z, z = M.sz := ⟨_, rfl⟩
  rw [← hz] at CSV CRM HX hsz
  obtain ⟨R, hR⟩ : ∃ R, R = (n - 1) * z := ⟨_, rfl⟩
  rw [← hR] at CRM
  rw [← hz, ← hR] at hl hR9
  have l1 : ¬ (R : Int) < (bn : Int) := by omega
  have l1b : decide ((R : Int) < (bn : Int)) = false := decide_eq_false l1
  have l2 : ¬ (g : Int) = 4611686018427387904 := by omega
  have l2b : ((g : Int) == 4611686018427387904) = false := by simpa using l2
  have l3 : IntKind.i64.wrap ((g : Int) + 1) = (g2 : Int) := by rw [show (g : Int) + 1 = (g2 : Int) by omega]; exact IntWalk.i64_in _ (by omega)
  have l4 : (g : Int) + 1 = (g2 : Int) := by omega
  have l5 : IntKind.i64.wrap (g2 : Int) = (g2 : Int) := IntWalk.i64_in _ (by omega)
  have CBC := hid_of (fun (X : World) (hX : CR T X (.slice bo bn bc) l) => bclone_any bo bn bc l X hX.1 (by omega))
  have HT := hid_of (fun (X : World) (hX : Keeps T w X) => show CR T X (.slice bo bn bc) l from hin.keep hX)
  have FIN := hid_of (fun (X Y : World) (hb : Below B w X) (hk : Keeps (fun k => T k ∨ U k) w X) (d : DR B (fun k => T k ∨ U k) X b M') (x1 : Option Addr) (k1 m1 : Nat) (hr1 : CR (fun k => X.heap.size ≤ k) Y (.slice x1 k1 m1) l) (hY : Below X.heap.size X Y) => st_finy (i := 0) (j := 1) (g2 := g2) (M' := M') (by decide) h1 h2 t hb hk d (by rw [hsz, hz]) (by omega) (by rw [hsz, ← hR]; exact hl) x1 k1 m1 hr1 hY)
  have HUC := hid_of h2.own
  have HTB := hid_of t.hB
  clear hx hr h1 h2 h3 h4 t hR hin hbn hl hlb hg hR9 hf hz1 hc hG hok hsz hM' hz hg2 h hB2 hfn
  go_enter Tryd.func22, Tryd.ntmps22
  go_wp2_with (first
    | (go_at_call 18; ((with_reducible refine (CRM.out).mono ?_); (rintro e w1 ⟨rfl, q1⟩)); have B1 := hid_of q1; have X1 := hid_of ((q1.block cb (lt_of_block HX.out)).trans HX.out); have y8 := cell_blk X1.out (j := 8) rfl; have y10 := cell_blk X1.out (j := 10) rfl; clear q1))
  go_quiet (fail)
  have BN := hid_of (bel_drewN B1.out nq)
  have XN := hid_of (show (w1.drewN nq).heap[cb]? = _ from X1.out)
  have x0 := cell_blk XN.out (j := 4) rfl
  have x1 := cell_blk XN.out (j := 5) rfl
  have x2 := cell_blk XN.out (j := 6) rfl
  have x3 := cell_blk XN.out (j := 7) rfl
  go_wp2_with (first
    | (go_at_call 36; (((with_reducible refine (CSV.out _ BN.out).mono ?_); (rintro e w6 ⟨rfl, q1, q2, q3⟩)); have D6 := hid_of q1; have B6 := hid_of ((BN.out.mono HTB.out).trans q2); have K6 := hid_of ((keeps_low BN.out).trans q3); have X6 := hid_of ((q3.2 cb (Or.inr HUC.out) (lt_of_block XN.out)).trans XN.out); have z11 := cell_blk X6.out (j := 11) rfl; have f11 := frozen_of_row w6 cb 11 _ _ X6.out; clear q1 q2 q3))
    | (go_at_call 34; (((with_reducible refine (CBC.out w6 (HT.out w6 (K6.out.sub fun k hk => Or.inl hk))).mono ?_); (rintro e w7 ⟨x7, k7, m7, rfl, q1, q2⟩)); have R7 := hid_of q1; have B7 := hid_of q2; have X7 := hid_of ((q2.block cb (lt_of_block X6.out)).trans X6.out); have v8 := cell_blk X7.out (j := 8) rfl; have v9 := cell_blk X7.out (j := 9) rfl; have v10 := cell_blk X7.out (j := 10) rfl; have g8 := frozen_of_row w7 cb 8 _ _ X7.out; have g9 := frozen_of_row w7 cb 9 _ _ X7.out; have g10 := frozen_of_row w7 cb 10 _ _ X7.out; clear q1 q2)))
  go_ret
  exact FIN.out w6 w7 B6.out K6.out D6.out _ _ _ R7.out B7.out
theorem save_st0n {bo : Option Addr} {bn bc : Nat} {l : List Int} (h : CKR B T w cb b M f n 0 c g true) (t : TR B T w) (hin : CR T w (.slice bo bn bc) l) (hlb : Byt l) (hl : l.length ≤ (n - 1) * M.sz) (hg : g < 4611686018427387904) (hR9 : (n - 1) * M.sz ≤ 30000) (hf : f + n ≤ 60000) (hz1 : 64 ≤ M.sz) (hc : M.cache.length ≤ 1000) (hG : Sh.Glob w) (hB2 : 2 ≤ B) (hok : (saveF (headK Sh.digest M.sz l (g + 1)) M (f + n) l).1 = false) :
    Calls Tryd.prog 22 #[.pointer (some ⟨cb, 0, none⟩), .slice bo bn bc] w fun e w' => StQ B T w cb b (saveF (headK Sh.digest M.sz l (g + 1)) M (f + n) l).2 f n 0 c g false 8 e w' := by
  have hbn : bn = l.length := by have := (rd_cut hin.1).1; rwa [by8_length] at this
  have hsz : (saveF (headK Sh.digest M.sz l (g + 1)) M (f + n) l).2.sz = M.sz := save_sz _ _ _ _
  obtain ⟨U, h1, h2, h3, h4⟩ := h.tr t
  obtain ⟨x, k, m, hx, hr⟩ := h2.cells
  obtain ⟨fn, hfn⟩ : ∃ fn, fn = f + n := ⟨_, rfl⟩
  have HX := hid_of (show w.heap[cb]? = some (.cells (stRowG b f fn n M.sz 0 (.slice x k m) g true).toArray 72 (0, 0)) from by rw [hfn]; exact hx)
  have c11 := cell_blk hx (j := 11) rfl
  have CRM := hid_of h2.room
  have CSV := hid_of (fun (X : World) (hX : Below w.heap.size w X) => show Calls Tryd.prog 36 #[slV b (f + n) n M.sz, .slice bo bn bc, .int .i64 ((g + 1 : Nat) : Int)] X (fun e w' => SvQ B (fun k => T k ∨ U k) b false (saveF (headK Sh.digest M.sz l (g + 1)) M (f + n) l).2 X e w') from by
    have h9 := save_any (f := (f + n)) (n := n) (g := g + 1) (h3.bel0 hX) (h4.same hX.size) rfl hz1 ((hin.keep (keeps_low hX)).mono fun k hk => Or.inl hk) hlb (by omega) (by omega) (by omega) hc (hG.bel hX hG.two) hB2
    rw [hok] at h9
    exact h9)
  obtain ⟨g2, hg2⟩ : ∃ g2, g2 = g + 1 := ⟨_, rfl⟩
  obtain ⟨M', hM'⟩ : ∃ M', M' = (saveF (headK Sh.digest M.sz l (g + 1)) M (f + n) l).2 := ⟨_, rfl⟩
  rw [← hM', ← hg2, ← hfn] at CSV
  rw [← hM'] at hsz
  rw [← hM']
  
  obtain ⟨z, hz⟩ : ∃ z, z = M.sz := ⟨_, rfl⟩
  rw [← hz] at CSV CRM HX hsz
  obtain ⟨R, hR⟩ : ∃ R, R = (n - 1) * z := ⟨_, rfl⟩
  rw [← hR] at CRM
  rw [← hz, ← hR] at hl hR9
  have l1 : ¬ (R : Int) < (bn : Int) := by omega
  have l1b : decide ((R : Int) < (bn : Int)) = false := decide_eq_false l1
  have l2 : ¬ (g : Int) = 4611686018427387904 := by omega
  have l2b : ((g : Int) == 4611686018427387904) = false := by simpa using l2
  have l3 : IntKind.i64.wrap ((g : Int) + 1) = (g2 : Int) := by rw [show (g : Int) + 1 = (g2 : Int) by omega]; exact IntWalk.i64_in _ (by omega)
  have l4 : (g : Int) + 1 = (g2 : Int) := by omega
  have l5 : IntKind.i64.wrap (g2 : Int) = (g2 : Int) := IntWalk.i64_in _ (by omega)
  have FIN := hid_of (fun (X : World) (hb : Below B w X) (hk : Keeps (fun k => T k ∨ U k) w X) (d : DR B (fun k => T k ∨ U k) X b M') => st_finn (i := 0) (j := 1) (M' := M') (by decide) h1 h2 t hb hk d (by rw [hsz, hz]))
  have HUC := hid_of h2.own
  have HTB := hid_of t.hB
  clear hx hr h1 h2 h3 h4 t hR hin hbn hl hlb hg hR9 hf hz1 hc hG hok hsz hM' hz hg2 h hB2 hfn
  go_enter Tryd.func22, Tryd.ntmps22
  go_wp2_with (first
    | (go_at_call 18; ((with_reducible refine (CRM.out).mono ?_); (rintro e w1 ⟨rfl, q1⟩)); have B1 := hid_of q1; have X1 := hid_of ((q1.block cb (lt_of_block HX.out)).trans HX.out); have y8 := cell_blk X1.out (j := 8) rfl; have y10 := cell_blk X1.out (j := 10) rfl; clear q1))
  go_quiet (fail)
  have BN := hid_of (bel_drewN B1.out nq)
  have XN := hid_of (show (w1.drewN nq).heap[cb]? = _ from X1.out)
  have x0 := cell_blk XN.out (j := 4) rfl
  have x1 := cell_blk XN.out (j := 5) rfl
  have x2 := cell_blk XN.out (j := 6) rfl
  have x3 := cell_blk XN.out (j := 7) rfl
  go_wp2_with (first
    | (go_at_call 36; (((with_reducible refine (CSV.out _ BN.out).mono ?_); (rintro e w6 ⟨rfl, q1, q2, q3⟩)); have D6 := hid_of q1; have B6 := hid_of ((BN.out.mono HTB.out).trans q2); have K6 := hid_of ((keeps_low BN.out).trans q3); have X6 := hid_of ((q3.2 cb (Or.inr HUC.out) (lt_of_block XN.out)).trans XN.out); have z11 := cell_blk X6.out (j := 11) rfl; have f11 := frozen_of_row w6 cb 11 _ _ X6.out; clear q1 q2 q3)))
  go_ret
  exact FIN.out w6 B6.out K6.out D6.out
theorem save_st1y {bo : Option Addr} {bn bc : Nat} {l : List Int} (h : CKR B T w cb b M f n 1 c g true) (t : TR B T w) (hin : CR T w (.slice bo bn bc) l) (hlb : Byt l) (hl : l.length ≤ (n - 1) * M.sz) (hg : g < 4611686018427387904) (hR9 : (n - 1) * M.sz ≤ 30000) (hf : f + n ≤ 60000) (hz1 : 64 ≤ M.sz) (hc : M.cache.length ≤ 1000) (hG : Sh.Glob w) (hB2 : 2 ≤ B) (hok : (saveF (headK Sh.digest M.sz l (g + 1)) M f l).1 = true) :
    Calls Tryd.prog 22 #[.pointer (some ⟨cb, 0, none⟩), .slice bo bn bc] w fun e w' => StQ B T w cb b (saveF (headK Sh.digest M.sz l (g + 1)) M f l).2 f n 0 l (g + 1) true 0 e w' := by
  have hbn : bn = l.length := by have := (rd_cut hin.1).1; rwa [by8_length] at this
  have hsz : (saveF (headK Sh.digest M.sz l (g + 1)) M f l).2.sz = M.sz := save_sz _ _ _ _
  obtain ⟨U, h1, h2, h3, h4⟩ := h.tr t
  obtain ⟨x, k, m, hx, hr⟩ := h2.cells
  obtain ⟨fn, hfn⟩ : ∃ fn, fn = f + n := ⟨_, rfl⟩
  have HX := hid_of (show w.heap[cb]? = some (.cells (stRowG b f fn n M.sz 1 (.slice x k m) g true).toArray 72 (0, 0)) from by rw [hfn]; exact hx)
  have c11 := cell_blk hx (j := 11) rfl
  have CRM := hid_of h2.room
  have CSV := hid_of (fun (X : World) (hX : Below w.heap.size w X) => show Calls Tryd.prog 36 #[slV b f n M.sz, .slice bo bn bc, .int .i64 ((g + 1 : Nat) : Int)] X (fun e w' => SvQ B (fun k => T k ∨ U k) b true (saveF (headK Sh.digest M.sz l (g + 1)) M f l).2 X e w') from by
    have h9 := save_any (f := f) (n := n) (g := g + 1) (h3.bel0 hX) (h4.same hX.size) rfl hz1 ((hin.keep (keeps_low hX)).mono fun k hk => Or.inl hk) hlb (by omega) (by omega) (by omega) hc (hG.bel hX hG.two) hB2
    rw [hok] at h9
    exact h9)
  obtain ⟨g2, hg2⟩ : ∃ g2, g2 = g + 1 := ⟨_, rfl⟩
  obtain ⟨M', hM'⟩ : ∃ M', M' = (saveF (headK Sh.digest M.sz l (g + 1)) M f l).2 := ⟨_, rfl⟩
  rw [← hM', ← hg2] at CSV
  rw [← hM'] at hsz
  rw [← hM']
  rw [← hg2]
  obtain ⟨z, hz⟩ : ∃ z, z = M.sz := ⟨_, rfl⟩
  rw [← hz] at CSV CRM HX hsz
  obtain ⟨R, hR⟩ : ∃ R, R = (n - 1) * z := ⟨_, rfl⟩
  rw [← hR] at CRM
  rw [← hz, ← hR] at hl hR9
  have l1 : ¬ (R : Int) < (bn : Int) := by omega
  have l1b : decide ((R : Int) < (bn : Int)) = false := decide_eq_false l1
  have l2 : ¬ (g : Int) = 4611686018427387904 := by omega
  have l2b : ((g : Int) == 4611686018427387904) = false := by simpa using l2
  have l3 : IntKind.i64.wrap ((g : Int) + 1) = (g2 : Int) := by rw [show (g : Int) + 1 = (g2 : Int) by omega]; exact IntWalk.i64_in _ (by omega)
  have l4 : (g : Int) + 1 = (g2 : Int) := by omega
  have l5 : IntKind.i64.wrap (g2 : Int) = (g2 : Int) := IntWalk.i64_in _ (by omega)
  have CBC := hid_of (fun (X : World) (hX : CR T X (.slice bo bn bc) l) => bclone_any bo bn bc l X hX.1 (by omega))
  have HT := hid_of (fun (X : World) (hX : Keeps T w X) => show CR T X (.slice bo bn bc) l from hin.keep hX)
  have FIN := hid_of (fun (X Y : World) (hb : Below B w X) (hk : Keeps (fun k => T k ∨ U k) w X) (d : DR B (fun k => T k ∨ U k) X b M') (x1 : Option Addr) (k1 m1 : Nat) (hr1 : CR (fun k => X.heap.size ≤ k) Y (.slice x1 k1 m1) l) (hY : Below X.heap.size X Y) => st_finy (i := 1) (j := 0) (g2 := g2) (M' := M') (by decide) h1 h2 t hb hk d (by rw [hsz, hz]) (by omega) (by rw [hsz, ← hR]; exact hl) x1 k1 m1 hr1 hY)
  have HUC := hid_of h2.own
  have HTB := hid_of t.hB
  clear hx hr h1 h2 h3 h4 t hR hin hbn hl hlb hg hR9 hf hz1 hc hG hok hsz hM' hz hg2 h hB2 hfn
  go_enter Tryd.func22, Tryd.ntmps22
  go_wp2_with (first
    | (go_at_call 18; ((with_reducible refine (CRM.out).mono ?_); (rintro e w1 ⟨rfl, q1⟩)); have B1 := hid_of q1; have X1 := hid_of ((q1.block cb (lt_of_block HX.out)).trans HX.out); have y8 := cell_blk X1.out (j := 8) rfl; have y10 := cell_blk X1.out (j := 10) rfl; clear q1))
  go_quiet (fail)
  have BN := hid_of (bel_drewN B1.out nq)
  have XN := hid_of (show (w1.drewN nq).heap[cb]? = _ from X1.out)
  have x0 := cell_blk XN.out (j := 0) rfl
  have x1 := cell_blk XN.out (j := 1) rfl
  have x2 := cell_blk XN.out (j := 2) rfl
  have x3 := cell_blk XN.out (j := 3) rfl
  go_wp2_with (first
    | (go_at_call 36; (((with_reducible refine (CSV.out _ BN.out).mono ?_); (rintro e w6 ⟨rfl, q1, q2, q3⟩)); have D6 := hid_of q1; have B6 := hid_of ((BN.out.mono HTB.out).trans q2); have K6 := hid_of ((keeps_low BN.out).trans q3); have X6 := hid_of ((q3.2 cb (Or.inr HUC.out) (lt_of_block XN.out)).trans XN.out); have z11 := cell_blk X6.out (j := 11) rfl; have f11 := frozen_of_row w6 cb 11 _ _ X6.out; clear q1 q2 q3))
    | (go_at_call 34; (((with_reducible refine (CBC.out w6 (HT.out w6 (K6.out.sub fun k hk => Or.inl hk))).mono ?_); (rintro e w7 ⟨x7, k7, m7, rfl, q1, q2⟩)); have R7 := hid_of q1; have B7 := hid_of q2; have X7 := hid_of ((q2.block cb (lt_of_block X6.out)).trans X6.out); have v8 := cell_blk X7.out (j := 8) rfl; have v9 := cell_blk X7.out (j := 9) rfl; have v10 := cell_blk X7.out (j := 10) rfl; have g8 := frozen_of_row w7 cb 8 _ _ X7.out; have g9 := frozen_of_row w7 cb 9 _ _ X7.out; have g10 := frozen_of_row w7 cb 10 _ _ X7.out; clear q1 q2)))
  go_ret
  exact FIN.out w6 w7 B6.out K6.out D6.out _ _ _ R7.out B7.out
theorem save_st1n {bo : Option Addr} {bn bc : Nat} {l : List Int} (h : CKR B T w cb b M f n 1 c g true) (t : TR B T w) (hin : CR T w (.slice bo bn bc) l) (hlb : Byt l) (hl : l.length ≤ (n - 1) * M.sz) (hg : g < 4611686018427387904) (hR9 : (n - 1) * M.sz ≤ 30000) (hf : f + n ≤ 60000) (hz1 : 64 ≤ M.sz) (hc : M.cache.length ≤ 1000) (hG : Sh.Glob w) (hB2 : 2 ≤ B) (hok : (saveF (headK Sh.digest M.sz l (g + 1)) M f l).1 = false) :
    Calls Tryd.prog 22 #[.pointer (some ⟨cb, 0, none⟩), .slice bo bn bc] w fun e w' => StQ B T w cb b (saveF (headK Sh.digest M.sz l (g + 1)) M f l).2 f n 1 c g false 8 e w' := by
  have hbn : bn = l.length := by have := (rd_cut hin.1).1; rwa [by8_length] at this
  have hsz : (saveF (headK Sh.digest M.sz l (g + 1)) M f l).2.sz = M.sz := save_sz _ _ _ _
  obtain ⟨U, h1, h2, h3, h4⟩ := h.tr t
  obtain ⟨x, k, m, hx, hr⟩ := h2.cells
  obtain ⟨fn, hfn⟩ : ∃ fn, fn = f + n := ⟨_, rfl⟩
  have HX := hid_of (show w.heap[cb]? = some (.cells (stRowG b f fn n M.sz 1 (.slice x k m) g true).toArray 72 (0, 0)) from by rw [hfn]; exact hx)
  have c11 := cell_blk hx (j := 11) rfl
  have CRM := hid_of h2.room
  have CSV := hid_of (fun (X : World) (hX : Below w.heap.size w X) => show Calls Tryd.prog 36 #[slV b f n M.sz, .slice bo bn bc, .int .i64 ((g + 1 : Nat) : Int)] X (fun e w' => SvQ B (fun k => T k ∨ U k) b false (saveF (headK Sh.digest M.sz l (g + 1)) M f l).2 X e w') from by
    have h9 := save_any (f := f) (n := n) (g := g + 1) (h3.bel0 hX) (h4.same hX.size) rfl hz1 ((hin.keep (keeps_low hX)).mono fun k hk => Or.inl hk) hlb (by omega) (by omega) (by omega) hc (hG.bel hX hG.two) hB2
    rw [hok] at h9
    exact h9)
  obtain ⟨g2, hg2⟩ : ∃ g2, g2 = g + 1 := ⟨_, rfl⟩
  obtain ⟨M', hM'⟩ : ∃ M', M' = (saveF (headK Sh.digest M.sz l (g + 1)) M f l).2 := ⟨_, rfl⟩
  rw [← hM', ← hg2] at CSV
  rw [← hM'] at hsz
  rw [← hM']
  
  obtain ⟨z, hz⟩ : ∃ z, z = M.sz := ⟨_, rfl⟩
  rw [← hz] at CSV CRM HX hsz
  obtain ⟨R, hR⟩ : ∃ R, R = (n - 1) * z := ⟨_, rfl⟩
  rw [← hR] at CRM
  rw [← hz, ← hR] at hl hR9
  have l1 : ¬ (R : Int) < (bn : Int) := by omega
  have l1b : decide ((R : Int) < (bn : Int)) = false := decide_eq_false l1
  have l2 : ¬ (g : Int) = 4611686018427387904 := by omega
  have l2b : ((g : Int) == 4611686018427387904) = false := by simpa using l2
  have l3 : IntKind.i64.wrap ((g : Int) + 1) = (g2 : Int) := by rw [show (g : Int) + 1 = (g2 : Int) by omega]; exact IntWalk.i64_in _ (by omega)
  have l4 : (g : Int) + 1 = (g2 : Int) := by omega
  have l5 : IntKind.i64.wrap (g2 : Int) = (g2 : Int) := IntWalk.i64_in _ (by omega)
  have FIN := hid_of (fun (X : World) (hb : Below B w X) (hk : Keeps (fun k => T k ∨ U k) w X) (d : DR B (fun k => T k ∨ U k) X b M') => st_finn (i := 1) (j := 0) (M' := M') (by decide) h1 h2 t hb hk d (by rw [hsz, hz]))
  have HUC := hid_of h2.own
  have HTB := hid_of t.hB
  clear hx hr h1 h2 h3 h4 t hR hin hbn hl hlb hg hR9 hf hz1 hc hG hok hsz hM' hz hg2 h hB2 hfn
  go_enter Tryd.func22, Tryd.ntmps22
  go_wp2_with (first
    | (go_at_call 18; ((with_reducible refine (CRM.out).mono ?_); (rintro e w1 ⟨rfl, q1⟩)); have B1 := hid_of q1; have X1 := hid_of ((q1.block cb (lt_of_block HX.out)).trans HX.out); have y8 := cell_blk X1.out (j := 8) rfl; have y10 := cell_blk X1.out (j := 10) rfl; clear q1))
  go_quiet (fail)
  have BN := hid_of (bel_drewN B1.out nq)
  have XN := hid_of (show (w1.drewN nq).heap[cb]? = _ from X1.out)
  have x0 := cell_blk XN.out (j := 0) rfl
  have x1 := cell_blk XN.out (j := 1) rfl
  have x2 := cell_blk XN.out (j := 2) rfl
  have x3 := cell_blk XN.out (j := 3) rfl
  go_wp2_with (first
    | (go_at_call 36; (((with_reducible refine (CSV.out _ BN.out).mono ?_); (rintro e w6 ⟨rfl, q1, q2, q3⟩)); have D6 := hid_of q1; have B6 := hid_of ((BN.out.mono HTB.out).trans q2); have K6 := hid_of ((keeps_low BN.out).trans q3); have X6 := hid_of ((q3.2 cb (Or.inr HUC.out) (lt_of_block XN.out)).trans XN.out); have z11 := cell_blk X6.out (j := 11) rfl; have f11 := frozen_of_row w6 cb 11 _ _ X6.out; clear q1 q2 q3)))
  go_ret
  exact FIN.out w6 B6.out K6.out D6.out
end
end Go.Proofs.YtlffiebnieakjaaDoor

/- Checkpoint: what a save leaves in the slots, and behind a crash, as mathematics. Bounds on sizes alone. -/
namespace Go.Proofs.YtlffiebnieakjaaDoor
open Go.RowKit
set_option maxRecDepth 100000
set_option maxHeartbeats 1600000

/-- A save in three parts. -/
theorem save_parts (H : List Int) (M : DM) (f : Nat) (b : List Int) : saveF H M f b = if (wsF M f (List.replicate M.sz 0)).1 = true then (if (fillF (wsF M f (List.replicate M.sz 0)).2 f b 0 ((b.length + M.sz - 1) / M.sz)).1 = true then wsF (fillF (wsF M f (List.replicate M.sz 0)).2 f b 0 ((b.length + M.sz - 1) / M.sz)).2 f H else fillF (wsF M f (List.replicate M.sz 0)).2 f b 0 ((b.length + M.sz - 1) / M.sz)) else wsF M f (List.replicate M.sz 0) := by
  obtain ⟨r1, M1, e1⟩ : ∃ r M1, writeF M f (List.replicate M.sz 0) = (r, M1) := ⟨_, _, rfl⟩
  have s1 := (write_same M f (List.replicate M.sz 0)).2
  rw [e1] at s1
  have s1 : M1.sz = M.sz := s1
  by_cases h1 : r1 = 0
  · subst h1
    obtain ⟨r2, M2, e2⟩ : ∃ r M2, syncF M1 = (r, M2) := ⟨_, _, rfl⟩
    have s2 := (sync_keep M1).1
    rw [e2] at s2
    have hz2 : M2.sz = M.sz := Eq.trans s2 s1
    have ew : wsF M f (List.replicate M.sz 0) = (decide (r2 = 0), M2) := by
      rw [wsF, e1, if_pos rfl]
      show (decide ((syncF M1).1 = 0), (syncF M1).2) = _
      rw [e2]
    rw [ew]
    by_cases h2 : r2 = 0
    · subst h2
      rw [if_pos (show (decide ((0 : Int) = 0), M2).1 = true from rfl)]
      show saveF H M f b = if (fillF M2 f b 0 ((b.length + M.sz - 1) / M.sz)).1 = true then wsF (fillF M2 f b 0 ((b.length + M.sz - 1) / M.sz)).2 f H else fillF M2 f b 0 ((b.length + M.sz - 1) / M.sz)
      obtain ⟨r3, M3, e3⟩ : ∃ r M3, filF M2 f b 0 ((b.length + M.sz - 1) / M.sz) = (r, M3) := ⟨_, _, rfl⟩
      cases r3 with
      | false =>
        have ef : fillF M2 f b 0 ((b.length + M.sz - 1) / M.sz) = (false, M3) := by
          rw [fillF, e3, if_neg (by simp)]
        rw [ef, if_neg (by simp), save_3 e1 e2 hz2 (by rw [e3]), e3]
      | true =>
        obtain ⟨r4, M4, e4⟩ : ∃ r M4, syncF M3 = (r, M4) := ⟨_, _, rfl⟩
        have ef : fillF M2 f b 0 ((b.length + M.sz - 1) / M.sz) = (decide (r4 = 0), M4) := by
          rw [fillF, e3, if_pos rfl]
          show (decide ((syncF M3).1 = 0), (syncF M3).2) = _
          rw [e4]
        rw [ef]
        by_cases h4 : r4 = 0
        · subst h4
          rw [if_pos (show (decide ((0 : Int) = 0), M4).1 = true from rfl)]
          show saveF H M f b = wsF M4 f H
          obtain ⟨r5, M5, e5⟩ : ∃ r M5, writeF M4 f H = (r, M5) := ⟨_, _, rfl⟩
          by_cases h5 : r5 = 0
          · subst h5
            rw [save_6 e1 e2 hz2 e3 e4 e5, wsF, e5, if_pos rfl]
          · rw [save_5 e1 e2 hz2 e3 e4 (by rw [e5]; exact h5), wsF, e5, if_neg h5]
        · rw [if_neg (show ¬ (decide (r4 = 0), M4).1 = true by simpa using h4), decide_eq_false h4, save_4 e1 e2 hz2 e3 (by rw [e4]; exact h4), e4]
    · rw [if_neg (show ¬ (decide (r2 = 0), M2).1 = true by simpa using h2), decide_eq_false h2, save_2 e1 (by rw [e2]; exact h2), e2]
  · have ew : wsF M f (List.replicate M.sz 0) = (false, M1) := by rw [wsF, e1, if_neg h1]
    rw [ew, if_neg (by simp), save_1 (by rw [e1]; exact h1), e1]
theorem ws_off {M : DM} {f : Nat} {l : List Int} (hs : f < M.secs.length) (hl : l.length = M.sz) (h : (wsF M f l).1 = false) : (wsF M f l).2.off = true := by
  unfold wsF at h ⊢
  split
  · rename_i hw
    rw [if_pos hw] at h
    exact sync_off (by simpa using h)
  · rename_i hw
    exact write_off hs hl hw
theorem ws_same (M : DM) (f : Nat) (l : List Int) : (wsF M f l).2.sz = M.sz := by
  unfold wsF
  split
  · exact ((sync_keep _).1).trans (write_same M f l).2
  · exact (write_same M f l).2
theorem secL_len (L : List Int) (z k : Nat) : (secL L z k).length = z := by rw [secL_pad, padF_len]
theorem filF_off {M : DM} {f : Nat} {b : List Int} : ∀ i, f + i < M.secs.length → (filF M f b 0 i).1 = false → (filF M f b 0 i).2.off = true
  | 0, _, h => by cases h
  | i + 1, hs, h => by
    obtain ⟨S1, S2, _⟩ := filF_same M f b 0 i
    by_cases hg : (filF M f b 0 i).1 = true
    · by_cases h0 : (writeF (filF M f b 0 i).2 (f + 1 + (0 + i) : Nat) (secL b M.sz (0 + i))).1 = 0
      · rw [filF_good hg h0] at h; cases h
      · have e := filF_bad hg h0 0
        rw [Nat.add_zero] at e
        rw [e]
        exact write_off (by rw [S1]; omega) (by rw [secL_len, S2]) h0
    · rw [filF, if_neg hg] at h ⊢
      exact filF_off i (by omega) h
theorem fill_off {M : DM} {f : Nat} {b : List Int} {k : Nat} (hs : f + k < M.secs.length) (h : (fillF M f b 0 k).1 = false) : (fillF M f b 0 k).2.off = true := by
  unfold fillF at h ⊢
  split
  · rename_i hw
    rw [if_pos hw] at h
    exact sync_off (by simpa using h)
  · rename_i hw
    exact filF_off k hs (by simpa using hw)
theorem fill_secs (M : DM) (f : Nat) (b : List Int) (k : Nat) : (fillF M f b 0 k).2.secs.length = M.secs.length ∧ (fillF M f b 0 k).2.sz = M.sz := by
  obtain ⟨S1, S2, _⟩ := filF_same M f b 0 k
  unfold fillF
  split
  · refine ⟨?_, ((sync_keep _).1).trans S2⟩
    rw [← S1]
    unfold syncF
    split
    · exact congrArg List.length (stepF_same _).2.1
    · exact putF_len _ _
  · exact ⟨congrArg List.length S1, S2⟩
/-- How many sectors a content needs. -/
theorem need_le {l z n : Nat} (hz : 0 < z) (h : l ≤ (n - 1) * z) : (l + z - 1) / z ≤ n - 1 := by
  have h1 : (l + z - 1) / z ≤ ((n - 1) * z + z - 1) / z := Nat.div_le_div_right (by omega)
  have h2 : ((n - 1) * z + z - 1) / z = n - 1 := by
    rw [show (n - 1) * z + z - 1 = z * (n - 1) + (z - 1) by rw [Nat.mul_comm]; omega, Nat.mul_add_div hz, Nat.div_eq_of_lt (by omega)]
    omega
  omega
theorem need_ge {l z i : Nat} (hz : 0 < z) (h : (l + z - 1) / z ≤ i) : l ≤ i * z := by
  have h1 := Nat.div_add_mod (l + z - 1) z
  have h2 := Nat.mod_lt (l + z - 1) hz
  have h3 : z * ((l + z - 1) / z) ≤ z * i := Nat.mul_le_mul_left z h
  rw [Nat.mul_comm z i] at h3
  omega
/-- A slot whose sectors are a header and a body that holds the content. -/
theorem slot_of {z g n : Nat} {b : List Int} {c : Nat → List Int} (hz : 44 ≤ z) (hg : 1 ≤ g ∧ g ≤ maxG) (hb : b.length ≤ (n - 1) * z) (hl : b.length < 4294967296) (hc : ∀ i, i < n - 1 → (c i).length = z) (hd : ∀ j, j < (b.length + z - 1) / z → c j = secL b z j) : slotF Sh.digest (headK Sh.digest z b g) (areaF c (n - 1)) = some (b, g) := by
  have h1 := areaF_take (c := c) (z := z) (L := b) (n - 1) fun i hi => ⟨hc i hi, by
    rcases Nat.lt_or_ge i ((b.length + z - 1) / z) with h | h
    · rw [hd i h]; exact secL_agree b z i
    · have h9 := need_ge (by omega) h
      rw [show b.length - i * z = 0 by omega, List.drop_eq_nil_of_le h9, List.take_zero, List.take_nil]⟩
  rw [List.take_of_length_le hb] at h1
  have h2 := areaF_len (c := c) (z := z) (n - 1) hc
  exact slot_head Sh.digest_length hz hg (by omega) hl h1
/-- What a slot holds on a clean disk. -/
theorem slD_clean {M : DM} (hc : M.cache = []) (f n : Nat) : slD M f n = slotF Sh.digest (M.secs.getD f []) (areaF (fun i => M.secs.getD (f + 1 + i) []) (n - 1)) := by
  unfold slD
  rw [flat_clean hc]
  congr 1
  exact areaF_congr _ fun i _ => by rw [bodC, flat_clean hc]
/-- Another slot, none of whose sectors has changed. -/
theorem slD_same {M M' : DM} (hc : M.cache = []) (hc' : M'.cache = []) {f n : Nat} (h : ∀ s, f ≤ s → s < f + n → M'.secs.getD s [] = M.secs.getD s []) (hn : 1 ≤ n) : slD M' f n = slD M f n := by
  rw [slD_clean hc, slD_clean hc', h f (Nat.le_refl _) (by omega)]
  congr 1
  exact areaF_congr _ fun i hi => h _ (by omega) (by omega)
section
variable {M : DM} {f n g : Nat} {b : List Int}
/-- A save that went well. -/
theorem save_good (hok : M.Ok) (hc : M.cache = []) (hf : f + n ≤ M.secs.length) (hn : 2 ≤ n) (hz : 44 ≤ M.sz) (hb : b.length ≤ (n - 1) * M.sz) (hg : 1 ≤ g ∧ g ≤ maxG) (h : (saveF (headK Sh.digest M.sz b g) M f b).1 = true) : (saveF (headK Sh.digest M.sz b g) M f b).2.off = false ∧ (saveF (headK Sh.digest M.sz b g) M f b).2.cache = [] ∧ (saveF (headK Sh.digest M.sz b g) M f b).2.secs.length = M.secs.length ∧ slD (saveF (headK Sh.digest M.sz b g) M f b).2 f n = some (b, g) ∧ ∀ s, s < M.secs.length → s < f ∨ f + n ≤ s → (saveF (headK Sh.digest M.sz b g) M f b).2.secs.getD s [] = M.secs.getD s [] := by
  have hsz := hok.sz
  have hsl := hok.secs
  have hk := need_le (l := b.length) (z := M.sz) (n := n) (by omega) hb
  have hbl : b.length ≤ 65536 * 4096 := Nat.le_trans hb (Nat.mul_le_mul (by omega) hsz)
  obtain ⟨k, hk2⟩ : ∃ k, k = (b.length + M.sz - 1) / M.sz := ⟨_, rfl⟩
  rw [save_parts, ← hk2] at h ⊢
  rw [← hk2] at hk
  obtain ⟨A, hA⟩ : ∃ A, A = wsF M f (List.replicate M.sz 0) := ⟨_, rfl⟩
  rw [← hA] at h ⊢
  split at h
  · rename_i h1
    rw [if_pos h1]
    obtain ⟨a1, a2, a3, a4⟩ := ws_true hc (show (wsF M f (List.replicate M.sz 0)).1 = true by rw [← hA]; exact h1)
    rw [← hA] at a1 a2 a3 a4
    have al : A.2.secs.length = M.secs.length := by rw [a2, List.length_set]
    split at h
    · rename_i h2
      rw [if_pos h2]
      obtain ⟨c1, c2, c3, c4, c5⟩ := fill_true (fs := f) (L := b) (st := 0) (n := k) a3 (fun j _ hj => by rw [al]; omega) h2
      obtain ⟨p1, p2⟩ := fill_secs A.2 f b k
      obtain ⟨C, hC⟩ : ∃ C, C = fillF A.2 f b 0 k := ⟨_, rfl⟩
      rw [← hC] at h c1 c2 c3 c4 c5 p1 p2 ⊢
      obtain ⟨d1, d2, d3, d4⟩ := ws_true c2 h
      have cl : C.2.secs.length = M.secs.length := p1.trans al
      have hlen : (wsF C.2 f (headK Sh.digest M.sz b g)).2.secs.length = M.secs.length := by rw [d2, List.length_set, cl]
      have hgetf : (wsF C.2 f (headK Sh.digest M.sz b g)).2.secs.getD f [] = headK Sh.digest M.sz b g := by rw [d2]; exact getD_set (by omega)
      have hget : ∀ s, s ≠ f → (wsF C.2 f (headK Sh.digest M.sz b g)).2.secs.getD s [] = C.2.secs.getD s [] := fun s hs => by rw [d2]; exact getD_ne (Ne.symm hs)
      have hCo : ∀ s, s < M.secs.length → s ≠ f → (∀ j, j < k → s ≠ f + 1 + j) → C.2.secs.getD s [] = M.secs.getD s [] := fun s hs hsf hj => by
        rw [c5 s (by rw [al]; exact hs) fun j _ h3 => hj j (by omega), a2]
        exact getD_ne (Ne.symm hsf)
      refine ⟨d1, d3, hlen, ?_, fun s hs ho => ?_⟩
      · rw [slD_clean d3, hgetf]
        refine slot_of hz hg hb (by omega) (fun i hi => ?_) fun j hj => ?_
        · rw [hget _ (by omega)]
          rcases Nat.lt_or_ge i k with h3 | h3
          · rw [c4 i (Nat.zero_le _) (by omega), secL_len, a4]
          · rw [hCo _ (by omega) (by omega) fun j hj => by omega]
            exact sec_len hok (by omega)
        · rw [hget _ (by omega), c4 j (Nat.zero_le _) (by omega), a4]
      · rw [hget s (by omega)]
        exact hCo s hs (by omega) fun j hj => by omega
    · rename_i h2
      exact absurd h h2
  · rename_i h1
    exact absurd h h1
/-- A save that was interrupted: behind the crash the slot holds what it held, or nothing, or the new content. -/
theorem save_torn (hok : M.Ok) (hc : M.cache = []) (hf : f + n ≤ M.secs.length) (hn : 2 ≤ n) (hz : 44 ≤ M.sz) (hb : b.length ≤ (n - 1) * M.sz) (hg : 1 ≤ g ∧ g ≤ maxG) (h : (saveF (headK Sh.digest M.sz b g) M f b).1 = false) : (saveF (headK Sh.digest M.sz b g) M f b).2.off = true ∧ (saveF (headK Sh.digest M.sz b g) M f b).2.secs.length = M.secs.length ∧ ∀ kp, (slD (crashF (saveF (headK Sh.digest M.sz b g) M f b).2 kp) f n = slD M f n ∨ slD (crashF (saveF (headK Sh.digest M.sz b g) M f b).2 kp) f n = none ∨ slD (crashF (saveF (headK Sh.digest M.sz b g) M f b).2 kp) f n = some (b, g)) ∧ ∀ s, s < M.secs.length → s < f ∨ f + n ≤ s → (crashF (saveF (headK Sh.digest M.sz b g) M f b).2 kp).secs.getD s [] = M.secs.getD s [] := by
  have hsz := hok.sz
  have hsl := hok.secs
  have hk := need_le (l := b.length) (z := M.sz) (n := n) (by omega) hb
  have hbl : b.length ≤ 65536 * 4096 := Nat.le_trans hb (Nat.mul_le_mul (by omega) hsz)
  obtain ⟨k, hk2⟩ : ∃ k, k = (b.length + M.sz - 1) / M.sz := ⟨_, rfl⟩
  rw [save_parts, ← hk2] at h ⊢
  rw [← hk2] at hk
  have clean : ∀ (M' : DM) (kp : List Bool), (crashF M' kp).cache = [] := fun _ _ => rfl
  have one : ∀ {M' : DM} {kp : List Bool} {s : Nat} {x : List Int}, s < M'.secs.length → mayF M' s = [x] → (crashF M' kp).secs.getD s [] = x := fun {M'} {kp} {s} {x} hs e => by
    have h9 := crash_get M' kp hs
    rw [e] at h9
    exact List.mem_singleton.1 h9
  obtain ⟨A, hA⟩ : ∃ A, A = wsF M f (List.replicate M.sz 0) := ⟨_, rfl⟩
  have hwl : ∀ (N : DM) (l : List Int), (wsF N f l).2.secs.length = N.secs.length := fun N l => by
    have e1 := (write_same N f l).1
    unfold wsF
    split
    · rw [← e1]
      unfold syncF
      split
      · exact congrArg List.length (stepF_same _).2.1
      · exact putF_len _ _
    · exact congrArg List.length e1
  have al := hwl M (List.replicate M.sz 0)
  rw [← hA] at h al ⊢
  by_cases h1 : A.1 = true
  · rw [if_pos h1] at h ⊢
    obtain ⟨a1, a2, a3, a4⟩ := ws_true hc (show (wsF M f (List.replicate M.sz 0)).1 = true by rw [← hA]; exact h1)
    rw [← hA] at a1 a2 a3 a4
    have aget : ∀ s, s ≠ f → A.2.secs.getD s [] = M.secs.getD s [] := fun s hs => by rw [a2]; exact getD_ne (Ne.symm hs)
    have agf : A.2.secs.getD f [] = List.replicate M.sz 0 := by rw [a2]; exact getD_set (by omega)
    obtain ⟨p1, p2⟩ := fill_secs A.2 f b k
    obtain ⟨C, hC⟩ : ∃ C, C = fillF A.2 f b 0 k := ⟨_, rfl⟩
    by_cases h2 : (fillF A.2 f b 0 k).1 = true
    · rw [if_pos h2] at h ⊢
      obtain ⟨c1, c2, c3, c4, c5⟩ := fill_true (fs := f) (L := b) (st := 0) (n := k) a3 (fun j _ hj => by rw [al]; omega) h2
      rw [← hC] at h c1 c2 c3 c4 c5 p1 p2 ⊢
      have cl : C.2.secs.length = M.secs.length := p1.trans al
      have dl := hwl C.2 (headK Sh.digest M.sz b g)
      have hCo : ∀ s, s < M.secs.length → s ≠ f → (∀ j, j < k → s ≠ f + 1 + j) → C.2.secs.getD s [] = M.secs.getD s [] := fun s hs hsf hj => by
        rw [c5 s (by rw [al]; exact hs) fun j _ h3 => hj j (by omega)]
        exact aget s hsf
      have cf : C.2.secs.getD f [] = List.replicate M.sz 0 := by
        rw [c5 f (by omega) fun j _ h3 => by omega]; exact agf
      have hm := ws_false c2 h
      have hoth : ∀ kp s, s < M.secs.length → s ≠ f → (crashF (wsF C.2 f (headK Sh.digest M.sz b g)).2 kp).secs.getD s [] = C.2.secs.getD s [] := fun kp s hs hsf => by
        rcases hm s with e | ⟨e, _⟩
        · exact one (by rw [dl, cl]; exact hs) e
        · exact absurd e hsf
      refine ⟨ws_off (by omega) (by rw [headK_len Sh.digest_length hz, p2, a4]) h, dl.trans cl, fun kp => ⟨?_, fun s hs ho => ?_⟩⟩
      · have h9 := crash_get (wsF C.2 f (headK Sh.digest M.sz b g)).2 kp (s := f) (by rw [dl, cl]; omega)
        have harea : (areaF (fun i => (crashF (wsF C.2 f (headK Sh.digest M.sz b g)).2 kp).secs.getD (f + 1 + i) []) (n - 1)) = areaF (fun i => C.2.secs.getD (f + 1 + i) []) (n - 1) := areaF_congr _ fun i hi => hoth kp _ (by omega) (by omega)
        have hH : (crashF (wsF C.2 f (headK Sh.digest M.sz b g)).2 kp).secs.getD f [] = List.replicate M.sz 0 ∨ (crashF (wsF C.2 f (headK Sh.digest M.sz b g)).2 kp).secs.getD f [] = headK Sh.digest M.sz b g := by
          rcases hm f with e | ⟨_, e⟩
          · rw [e, cf] at h9
            exact Or.inl (List.mem_singleton.1 h9)
          · rw [e, cf] at h9
            simp only [List.mem_cons, List.not_mem_nil, or_false] at h9
            exact h9
        rw [slD_clean (clean _ _), harea]
        rcases hH with e | e
        · rw [e]; exact Or.inr (Or.inl (slot_zero _ _ _))
        · rw [e]
          refine Or.inr (Or.inr (slot_of hz hg hb (by omega) (fun i hi => ?_) fun j hj => ?_))
          · rcases Nat.lt_or_ge i k with h3 | h3
            · rw [c4 i (Nat.zero_le _) (by omega), secL_len, a4]
            · rw [hCo _ (by omega) (by omega) fun j hj => by omega]
              exact sec_len hok (by omega)
          · rw [c4 j (Nat.zero_le _) (by omega), a4]
      · rw [hoth kp s hs (by omega)]
        exact hCo s hs (by omega) fun j hj => by omega
    · rw [if_neg h2] at h ⊢
      have hm := fill_false (fs := f) (L := b) (st := 0) (n := k) a3 h
      refine ⟨fill_off (by omega) h, p1.trans al, fun kp => ⟨Or.inr (Or.inl ?_), fun s hs ho => ?_⟩⟩
      · have hf0 : (crashF (fillF A.2 f b 0 k).2 kp).secs.getD f [] = List.replicate M.sz 0 := by
          rcases hm f with e | ⟨j, e, _⟩
          · rw [agf] at e
            exact one (by omega) e
          · omega
        rw [slD_clean (clean _ _), hf0]
        exact slot_zero _ _ _
      · have hr := fil_rest (M := A.2) (fs := f) (L := b) (st := 0) (n := k) (s := s) a3 (fun j _ h3 => by omega)
        have hr2 : mayF (fillF A.2 f b 0 k).2 s = [A.2.secs.getD s []] := by
          unfold fillF at h ⊢
          split
          · rename_i hw
            rw [if_pos hw] at h
            have hs3 : ¬ (syncF (filF A.2 f b 0 k).2).1 = 0 := by simpa using h
            show mayF (syncF (filF A.2 f b 0 k).2).2 s = _
            rw [may_sync_ne hs3]
            exact hr
          · exact hr
        rw [one (by omega) hr2]
        exact aget s (by omega)
  · rw [if_neg h1] at h ⊢
    have hm := ws_false hc (show (wsF M f (List.replicate M.sz 0)).1 = false by rw [← hA]; exact h)
    rw [← hA] at hm
    have hoth : ∀ kp s, s < M.secs.length → s ≠ f → (crashF A.2 kp).secs.getD s [] = M.secs.getD s [] := fun kp s hs hsf => by
      rcases hm s with e | ⟨e, _⟩
      · exact one (by omega) e
      · exact absurd e hsf
    refine ⟨by rw [hA]; exact ws_off (by omega) (by simp) (by rw [← hA]; exact h), al, fun kp => ⟨?_, fun s hs ho => hoth kp s hs (by omega)⟩⟩
    have h9 := crash_get A.2 kp (s := f) (by omega)
    have harea : (areaF (fun i => (crashF A.2 kp).secs.getD (f + 1 + i) []) (n - 1)) = areaF (fun i => M.secs.getD (f + 1 + i) []) (n - 1) := areaF_congr _ fun i hi => hoth kp _ (by omega) (by omega)
    rw [slD_clean (clean _ _), harea, slD_clean hc]
    rcases hm f with e | ⟨_, e⟩
    · rw [e] at h9
      rw [List.mem_singleton.1 h9]
      exact Or.inl rfl
    · rw [e] at h9
      simp only [List.mem_cons, List.not_mem_nil, or_false] at h9
      rcases h9 with h9 | h9
      · rw [h9]; exact Or.inl rfl
      · rw [h9]; exact Or.inr (Or.inl (slot_zero _ _ _))
end
end Go.Proofs.YtlffiebnieakjaaDoor
