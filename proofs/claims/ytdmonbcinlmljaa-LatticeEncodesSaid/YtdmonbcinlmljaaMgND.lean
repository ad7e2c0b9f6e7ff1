/- Texts in one: LatWr, LatWmx, LatRmx, LatDmx, LatAwk, LatEc, LatREq. -/
import Derived.Test.YtdmonbcinlmljaaMgNC
set_option linter.unusedVariables false
set_option linter.unusedSimpArgs false
/- write of package lattice. Bounds on sizes alone. -/
namespace Go.Proofs.Ytdmonbcinlmljaa
open Go.RowKit
set_option maxRecDepth 100000
set_option maxHeartbeats 3200000

/-- The contract of write, for a tree. -/
def WP (w0 : World) (b : Nat) (t : Lat) : Prop := ∀ (k lo hi : Int) (an : Option Addr) (nn cn : Nat) (ap : Option Addr) (np cp : Nat) (ar : Option Addr) (nr cr : Nat) (w : World) (v : Value) (l : List Int), LO w0 k lo hi an nn cn ap np cp ar nr cr t → Below w0.heap.size w0 w → w0.heap.size ≤ b → Wr.Wst w0.heap.size b w v l → l.length + (encL t).length ≤ 60000000000000 →
  Calls Try.prog 27 #[.pointer (some ⟨b, 0, none⟩), .agg #[.int .i64 k, .int .i64 lo, .int .i64 hi, .slice an nn cn, .slice ap np cp, .slice ar nr cr]] w fun e w' => e = .returned (.tuple #[]) ∧ WK w0.heap.size b w v w' (l ++ encL t)
theorem encL_k (t : Lat) : encL t = Wr.enc t.k.toNat ++ (if t.k = 2 ∨ t.k = 3 then Wr.enc (Wr.zig t.lo) ++ Wr.enc (Wr.zig t.hi) else if t.k = 4 ∨ t.k = 8 then nsE t.ns else if t.k = 5 then nsE t.ns ++ encLs t.ps else if t.k = 6 then Wr.enc t.ns.length ++ encPs t.ns t.ps else if t.k = 7 then encLs t.ps else if t.k = 10 then nsE t.ns ++ rsE t.rs else []) := by
  cases t
  rw [encL]
  rfl
theorem wr_box {B b : Nat} {w : World} {v : Value} {l : List Int} (h : Wr.Wst B b w v l) (x0 x1 x2 x3 x4 x5 : Value) {w' : World} {l' : List Int} (k : WK B b (w.alloc (.cells #[x0, x1, x2, x3, x4, x5] 26)) v w' l') :
    w'.cell? ⟨w.heap.size, 0, none⟩ = some x0 ∧ w'.cell? ⟨w.heap.size, 1, none⟩ = some x1 ∧ w'.cell? ⟨w.heap.size, 2, none⟩ = some x2 ∧ w'.cell? ⟨w.heap.size, 3, none⟩ = some x3 ∧ w'.cell? ⟨w.heap.size, 4, none⟩ = some x4 ∧ w'.cell? ⟨w.heap.size, 5, none⟩ = some x5 := by
  have hb := lt_of_block h.blk
  have e := (k.blk (k := w.heap.size) (by simp) (by omega) (fun hs => by have := (h.own.lt _ hs).2; omega)).trans (heap_alloc_new w (.cells [x0, x1, x2, x3, x4, x5].toArray 26 (0, 0)))
  exact ⟨cell_blk e rfl, cell_blk e rfl, cell_blk e rfl, cell_blk e rfl, cell_blk e rfl, cell_blk e rfl⟩
/-- write of a part, behind. -/
theorem wp_wk {w0 : World} {b : Nat} {p : Lat} (ih : WP w0 b p) {k lo hi : Int} {an : Option Addr} {nn cn : Nat} {ap : Option Addr} {np cp : Nat} {ar : Option Addr} {nr cr : Nat} {wa w : World} {va : Value} {l : List Int} (H : LO w0 k lo hi an nn cn ap np cp ar nr cr p) (h : WK w0.heap.size b wa va w l) (hb0 : Below w0.heap.size w0 wa) (hl : l.length + (encL p).length ≤ 60000000000000) :
    Calls Try.prog 27 #[.pointer (some ⟨b, 0, none⟩), .agg #[.int .i64 k, .int .i64 lo, .int .i64 hi, .slice an nn cn, .slice ap np cp, .slice ar nr cr]] w fun e w' => e = .returned (.tuple #[]) ∧ WK w0.heap.size b wa va w' (l ++ encL p) :=
  h.call fun v hv => ih k lo hi an nn cn ap np cp ar nr cr w v l H (hb0.trans h.bel) h.hb hv hl
theorem shape_5 {t : Lat} (h : shapeB t = true) (hk : t.k = 5) : t.ps.length = 1 := by
  unfold shapeB at h
  rw [hk] at h
  simp at h
  exact h.2.2.2
theorem shape_7 {t : Lat} (h : shapeB t = true) (hk : t.k = 7) : t.ps.length = 2 := by
  unfold shapeB at h
  rw [hk] at h
  simp at h
  exact h.2.2.2.1
theorem shape_6 {t : Lat} (h : shapeB t = true) (hk : t.k = 6) : t.ps.length = t.ns.length := by
  unfold shapeB at h
  rw [hk] at h
  simp at h
  exact h.2.2.2.1
theorem encPs_snoc : ∀ (ns : List Str) (ps : List Lat) (j : Nat) (x : Str) (p : Lat), ns[j]? = some x → ps[j]? = some p → encPs (ns.take (j + 1)) (ps.take (j + 1)) = encPs (ns.take j) (ps.take j) ++ (txE x ++ encL p)
  | [], _, _, _, _, h, _ => by simp at h
  | _ :: _, [], _, _, _, _, h => by simp at h
  | n :: ns, q :: ps, 0, x, p, h, h2 => by
    simp at h h2
    subst h h2
    simp [encPs_cons, encPs_nil]
  | n :: ns, q :: ps, j + 1, x, p, h, h2 => by
    have ih := encPs_snoc ns ps j x p (by simpa using h) (by simpa using h2)
    rw [List.take_succ_cons, List.take_succ_cons, encPs_cons, ih, List.take_succ_cons, List.take_succ_cons, encPs_cons]
    simp only [List.append_assoc]
theorem encPs_pre : ∀ (ns : List Str) (ps : List Lat) (j : Nat), j ≤ ns.length → ns.length = ps.length → (encPs (ns.take j) (ps.take j)).length ≤ (encPs ns ps).length
  | [], ps, j, _, _ => by simp [encPs_nil]
  | _ :: _, [], _, _, h => by simp at h
  | n :: ns, p :: ps, 0, _, _ => by simp [encPs_nil]
  | n :: ns, p :: ps, j + 1, h, h2 => by
    have ih := encPs_pre ns ps j (by simpa using h) (by simpa using h2)
    rw [List.take_succ_cons, List.take_succ_cons, encPs_cons, encPs_cons]
    simp only [List.length_append]
    omega
theorem rule_box {B b : Nat} {w : World} {v : Value} {l : List Int} (h : Wr.Wst B b w v l) (x0 x1 : Value) {w' : World} {l' : List Int} (k : WK B b (w.alloc (.cells #[x0, x1] 47)) v w' l') : w'.cell? ⟨w.heap.size, 0, none⟩ = some x0 ∧ w'.cell? ⟨w.heap.size, 1, none⟩ = some x1 := by
  have hb := lt_of_block h.blk
  have e := (k.blk (k := w.heap.size) (by simp) (by omega) (fun hs => by have := (h.own.lt _ hs).2; omega)).trans (heap_alloc_new w (.cells [x0, x1].toArray 47 (0, 0)))
  exact ⟨cell_blk e rfl, cell_blk e rfl⟩
theorem one_of {ps : List Lat} {p : Lat} (h : ps.length = 1) (hp : ps[0]? = some p) : ps = [p] := by
  match ps, h with
  | [a], _ => simpa using hp
theorem two_of {ps : List Lat} {p q : Lat} (h : ps.length = 2) (hp : ps[0]? = some p) (hq : ps[1]? = some q) : ps = [p, q] := by
  match ps, h with
  | [a, c], _ => simp at hp hq; rw [hp, hq]
section
variable (b : Nat) (lo hi : Int) (an : Option Addr) (nn cn : Nat) (ap : Option Addr) (np cp : Nat) (ar : Option Addr) (nr cr : Nat) (t : Lat) (w0 w : World) (v : Value) (l : List Int)
theorem wr_1 (H : LO w0 1 lo hi an nn cn ap np cp ar nr cr t) (hok : Okay t) (hb0 : Below w0.heap.size w0 w) (hb : w0.heap.size ≤ b) (h : Wr.Wst w0.heap.size b w v l) (hl : l.length + (encL t).length ≤ 60000000000000) (IH : ∀ p ∈ t.ps, WP w0 b p) :
    Calls Try.prog 27 #[.pointer (some ⟨b, 0, none⟩), .agg #[.int .i64 1, .int .i64 lo, .int .i64 hi, .slice an nn cn, .slice ap np cp, .slice ar nr cr]] w fun e w' => e = .returned (.tuple #[]) ∧ WK w0.heap.size b w v w' (l ++ encL t) := by
  have hk : t.k = 1 := H.hk.symm
  have hN := hok.node
  have hBW := hb0.size
  have HBA := hid_of (hb0.trans ((bel_alloc w (.cells #[.int .i64 1, .int .i64 lo, .int .i64 hi, .slice an nn cn, .slice ap np cp, .slice ar nr cr] 26)).mono hb0.size))
  have KA := hid_of (WK.start (h.alloc (.cells #[.int .i64 1, .int .i64 lo, .int .i64 hi, .slice an nn cn, .slice ap np cp, .slice ar nr cr] 26)) hb (Nat.le_trans hBW (by simp)))
  have HBX : Hid (∀ w' l', WK w0.heap.size b (w.alloc (.cells #[.int .i64 1, .int .i64 lo, .int .i64 hi, .slice an nn cn, .slice ap np cp, .slice ar nr cr] 26)) v w' l' → _) := hid_of (fun w' l' k => wr_box h _ _ _ _ _ _ k)
  have HE : Hid (encL t = Wr.enc 1 ++ ([] : List Int)) := hid_of (by
    rw [encL_k, hk, if_neg (by decide : ¬((1 : Int) = 2 ∨ (1 : Int) = 3)), if_neg (by decide : ¬((1 : Int) = 4 ∨ (1 : Int) = 8)), if_neg (by decide : ¬((1 : Int) = 5)), if_neg (by decide : ¬((1 : Int) = 6)), if_neg (by decide : ¬((1 : Int) = 7)), if_neg (by decide : ¬((1 : Int) = 10))]
    rfl)
  have HL : Hid (l.length + (Wr.enc 1).length + (([] : List Int)).length ≤ 60000000000000) := hid_of (by
    have h1 := hl
    rw [HE.out, List.length_append] at h1
    omega)
  have C0 := hid_of (show Calls Try.prog 49 #[.pointer (some ⟨b, 0, none⟩), .int .u64 1] _ _ from uint_wk 1 KA.out (by omega) (by omega))
  clear H hok hb0 hb h hl IH hk hN
  go_enter Try.func27, Try.ntmps27
  go_wp2_with (go_at_call 49; ((with_reducible refine (C0.out).mono ?_); (rintro e w1 ⟨rfl, q1⟩)); have K1 := hid_of q1; obtain ⟨a0, a1, a2, a3, a4, a5⟩ := HBX.out w1 _ q1; clear q1)
  go_end0
  have R := K1.out
  exact ⟨rfl, by rw [HE.out]; have := R.of_alloc hBW; simpa only [List.append_assoc, List.append_nil] using this⟩
theorem wr_9 (H : LO w0 9 lo hi an nn cn ap np cp ar nr cr t) (hok : Okay t) (hb0 : Below w0.heap.size w0 w) (hb : w0.heap.size ≤ b) (h : Wr.Wst w0.heap.size b w v l) (hl : l.length + (encL t).length ≤ 60000000000000) (IH : ∀ p ∈ t.ps, WP w0 b p) :
    Calls Try.prog 27 #[.pointer (some ⟨b, 0, none⟩), .agg #[.int .i64 9, .int .i64 lo, .int .i64 hi, .slice an nn cn, .slice ap np cp, .slice ar nr cr]] w fun e w' => e = .returned (.tuple #[]) ∧ WK w0.heap.size b w v w' (l ++ encL t) := by
  have hk : t.k = 9 := H.hk.symm
  have hN := hok.node
  have hBW := hb0.size
  have HBA := hid_of (hb0.trans ((bel_alloc w (.cells #[.int .i64 9, .int .i64 lo, .int .i64 hi, .slice an nn cn, .slice ap np cp, .slice ar nr cr] 26)).mono hb0.size))
  have KA := hid_of (WK.start (h.alloc (.cells #[.int .i64 9, .int .i64 lo, .int .i64 hi, .slice an nn cn, .slice ap np cp, .slice ar nr cr] 26)) hb (Nat.le_trans hBW (by simp)))
  have HBX : Hid (∀ w' l', WK w0.heap.size b (w.alloc (.cells #[.int .i64 9, .int .i64 lo, .int .i64 hi, .slice an nn cn, .slice ap np cp, .slice ar nr cr] 26)) v w' l' → _) := hid_of (fun w' l' k => wr_box h _ _ _ _ _ _ k)
  have HE : Hid (encL t = Wr.enc 9 ++ ([] : List Int)) := hid_of (by
    rw [encL_k, hk, if_neg (by decide : ¬((9 : Int) = 2 ∨ (9 : Int) = 3)), if_neg (by decide : ¬((9 : Int) = 4 ∨ (9 : Int) = 8)), if_neg (by decide : ¬((9 : Int) = 5)), if_neg (by decide : ¬((9 : Int) = 6)), if_neg (by decide : ¬((9 : Int) = 7)), if_neg (by decide : ¬((9 : Int) = 10))]
    rfl)
  have HL : Hid (l.length + (Wr.enc 9).length + (([] : List Int)).length ≤ 60000000000000) := hid_of (by
    have h1 := hl
    rw [HE.out, List.length_append] at h1
    omega)
  have C0 := hid_of (show Calls Try.prog 49 #[.pointer (some ⟨b, 0, none⟩), .int .u64 9] _ _ from uint_wk 9 KA.out (by omega) (by omega))
  clear H hok hb0 hb h hl IH hk hN
  go_enter Try.func27, Try.ntmps27
  go_wp2_with (go_at_call 49; ((with_reducible refine (C0.out).mono ?_); (rintro e w1 ⟨rfl, q1⟩)); have K1 := hid_of q1; obtain ⟨a0, a1, a2, a3, a4, a5⟩ := HBX.out w1 _ q1; clear q1)
  go_end0
  have R := K1.out
  exact ⟨rfl, by rw [HE.out]; have := R.of_alloc hBW; simpa only [List.append_assoc, List.append_nil] using this⟩
theorem wr_2 (H : LO w0 2 lo hi an nn cn ap np cp ar nr cr t) (hok : Okay t) (hb0 : Below w0.heap.size w0 w) (hb : w0.heap.size ≤ b) (h : Wr.Wst w0.heap.size b w v l) (hl : l.length + (encL t).length ≤ 60000000000000) (IH : ∀ p ∈ t.ps, WP w0 b p) :
    Calls Try.prog 27 #[.pointer (some ⟨b, 0, none⟩), .agg #[.int .i64 2, .int .i64 lo, .int .i64 hi, .slice an nn cn, .slice ap np cp, .slice ar nr cr]] w fun e w' => e = .returned (.tuple #[]) ∧ WK w0.heap.size b w v w' (l ++ encL t) := by
  have hk : t.k = 2 := H.hk.symm
  have hN := hok.node
  have hBW := hb0.size
  have HBA := hid_of (hb0.trans ((bel_alloc w (.cells #[.int .i64 2, .int .i64 lo, .int .i64 hi, .slice an nn cn, .slice ap np cp, .slice ar nr cr] 26)).mono hb0.size))
  have KA := hid_of (WK.start (h.alloc (.cells #[.int .i64 2, .int .i64 lo, .int .i64 hi, .slice an nn cn, .slice ap np cp, .slice ar nr cr] 26)) hb (Nat.le_trans hBW (by simp)))
  have HBX : Hid (∀ w' l', WK w0.heap.size b (w.alloc (.cells #[.int .i64 2, .int .i64 lo, .int .i64 hi, .slice an nn cn, .slice ap np cp, .slice ar nr cr] 26)) v w' l' → _) := hid_of (fun w' l' k => wr_box h _ _ _ _ _ _ k)
  have HE : Hid (encL t = Wr.enc 2 ++ (Wr.enc (Wr.zig lo) ++ Wr.enc (Wr.zig hi))) := hid_of (by
    rw [encL_k, hk, if_pos (by decide : (2 : Int) = 2 ∨ (2 : Int) = 3), H.hlo, H.hhi]
    rfl)
  have HL : Hid (l.length + (Wr.enc 2).length + ((Wr.enc (Wr.zig lo) ++ Wr.enc (Wr.zig hi))).length ≤ 60000000000000) := hid_of (by
    have h1 := hl
    rw [HE.out, List.length_append] at h1
    omega)
  have C0 := hid_of (show Calls Try.prog 49 #[.pointer (some ⟨b, 0, none⟩), .int .u64 2] _ _ from uint_wk 2 KA.out (by omega) (by omega))
  have C1 : Hid (∀ w1, WK w0.heap.size b (w.alloc (.cells #[.int .i64 2, .int .i64 lo, .int .i64 hi, .slice an nn cn, .slice ap np cp, .slice ar nr cr] 26)) v w1 (l ++ Wr.enc 2) → _) := hid_of (fun w1 k => int_wk lo k H.rlo (by have := HL.out; rw [List.length_append]; omega))
  have C2 : Hid (∀ w1, WK w0.heap.size b (w.alloc (.cells #[.int .i64 2, .int .i64 lo, .int .i64 hi, .slice an nn cn, .slice ap np cp, .slice ar nr cr] 26)) v w1 (l ++ Wr.enc 2 ++ Wr.enc (Wr.zig lo)) → _) := hid_of (fun w1 k => int_wk hi k H.rhi (by have := HL.out; simp only [List.length_append] at this ⊢; omega))
  clear H hok hb0 hb h hl IH hk hN
  go_enter Try.func27, Try.ntmps27
  go_wp2_with (first
    | (go_at_call 49; ((with_reducible refine (C0.out).mono ?_); (rintro e w1 ⟨rfl, q1⟩)); have K1 := hid_of q1; obtain ⟨a0, a1, a2, a3, a4, a5⟩ := HBX.out w1 _ q1; clear q1)
    | (go_at_call 50; ((with_reducible refine (C1.out w1 K1.out).mono ?_); (rintro e w2 ⟨rfl, q1⟩)); have K2 := hid_of q1; obtain ⟨d0, d1, d2, d3, d4, d5⟩ := HBX.out w2 _ q1; clear q1)
    | (go_at_call 50; ((with_reducible refine (C2.out w2 K2.out).mono ?_); (rintro e w3 ⟨rfl, q1⟩)); have K3 := hid_of q1; clear q1))
  go_end0
  have R := K3.out
  exact ⟨rfl, by rw [HE.out]; have := R.of_alloc hBW; simpa only [List.append_assoc, List.append_nil] using this⟩
theorem wr_3 (H : LO w0 3 lo hi an nn cn ap np cp ar nr cr t) (hok : Okay t) (hb0 : Below w0.heap.size w0 w) (hb : w0.heap.size ≤ b) (h : Wr.Wst w0.heap.size b w v l) (hl : l.length + (encL t).length ≤ 60000000000000) (IH : ∀ p ∈ t.ps, WP w0 b p) :
    Calls Try.prog 27 #[.pointer (some ⟨b, 0, none⟩), .agg #[.int .i64 3, .int .i64 lo, .int .i64 hi, .slice an nn cn, .slice ap np cp, .slice ar nr cr]] w fun e w' => e = .returned (.tuple #[]) ∧ WK w0.heap.size b w v w' (l ++ encL t) := by
  have hk : t.k = 3 := H.hk.symm
  have hN := hok.node
  have hBW := hb0.size
  have HBA := hid_of (hb0.trans ((bel_alloc w (.cells #[.int .i64 3, .int .i64 lo, .int .i64 hi, .slice an nn cn, .slice ap np cp, .slice ar nr cr] 26)).mono hb0.size))
  have KA := hid_of (WK.start (h.alloc (.cells #[.int .i64 3, .int .i64 lo, .int .i64 hi, .slice an nn cn, .slice ap np cp, .slice ar nr cr] 26)) hb (Nat.le_trans hBW (by simp)))
  have HBX : Hid (∀ w' l', WK w0.heap.size b (w.alloc (.cells #[.int .i64 3, .int .i64 lo, .int .i64 hi, .slice an nn cn, .slice ap np cp, .slice ar nr cr] 26)) v w' l' → _) := hid_of (fun w' l' k => wr_box h _ _ _ _ _ _ k)
  have HE : Hid (encL t = Wr.enc 3 ++ (Wr.enc (Wr.zig lo) ++ Wr.enc (Wr.zig hi))) := hid_of (by
    rw [encL_k, hk, if_pos (by decide : (3 : Int) = 2 ∨ (3 : Int) = 3), H.hlo, H.hhi]
    rfl)
  have HL : Hid (l.length + (Wr.enc 3).length + ((Wr.enc (Wr.zig lo) ++ Wr.enc (Wr.zig hi))).length ≤ 60000000000000) := hid_of (by
    have h1 := hl
    rw [HE.out, List.length_append] at h1
    omega)
  have C0 := hid_of (show Calls Try.prog 49 #[.pointer (some ⟨b, 0, none⟩), .int .u64 3] _ _ from uint_wk 3 KA.out (by omega) (by omega))
  have C1 : Hid (∀ w1, WK w0.heap.size b (w.alloc (.cells #[.int .i64 3, .int .i64 lo, .int .i64 hi, .slice an nn cn, .slice ap np cp, .slice ar nr cr] 26)) v w1 (l ++ Wr.enc 3) → _) := hid_of (fun w1 k => int_wk lo k H.rlo (by have := HL.out; rw [List.length_append]; omega))
  have C2 : Hid (∀ w1, WK w0.heap.size b (w.alloc (.cells #[.int .i64 3, .int .i64 lo, .int .i64 hi, .slice an nn cn, .slice ap np cp, .slice ar nr cr] 26)) v w1 (l ++ Wr.enc 3 ++ Wr.enc (Wr.zig lo)) → _) := hid_of (fun w1 k => int_wk hi k H.rhi (by have := HL.out; simp only [List.length_append] at this ⊢; omega))
  clear H hok hb0 hb h hl IH hk hN
  go_enter Try.func27, Try.ntmps27
  go_wp2_with (first
    | (go_at_call 49; ((with_reducible refine (C0.out).mono ?_); (rintro e w1 ⟨rfl, q1⟩)); have K1 := hid_of q1; obtain ⟨a0, a1, a2, a3, a4, a5⟩ := HBX.out w1 _ q1; clear q1)
    | (go_at_call 50; ((with_reducible refine (C1.out w1 K1.out).mono ?_); (rintro e w2 ⟨rfl, q1⟩)); have K2 := hid_of q1; obtain ⟨d0, d1, d2, d3, d4, d5⟩ := HBX.out w2 _ q1; clear q1)
    | (go_at_call 50; ((with_reducible refine (C2.out w2 K2.out).mono ?_); (rintro e w3 ⟨rfl, q1⟩)); have K3 := hid_of q1; clear q1))
  go_end0
  have R := K3.out
  exact ⟨rfl, by rw [HE.out]; have := R.of_alloc hBW; simpa only [List.append_assoc, List.append_nil] using this⟩
theorem wr_4 (H : LO w0 4 lo hi an nn cn ap np cp ar nr cr t) (hok : Okay t) (hb0 : Below w0.heap.size w0 w) (hb : w0.heap.size ≤ b) (h : Wr.Wst w0.heap.size b w v l) (hl : l.length + (encL t).length ≤ 60000000000000) (IH : ∀ p ∈ t.ps, WP w0 b p) :
    Calls Try.prog 27 #[.pointer (some ⟨b, 0, none⟩), .agg #[.int .i64 4, .int .i64 lo, .int .i64 hi, .slice an nn cn, .slice ap np cp, .slice ar nr cr]] w fun e w' => e = .returned (.tuple #[]) ∧ WK w0.heap.size b w v w' (l ++ encL t) := by
  have hk : t.k = 4 := H.hk.symm
  have hN := hok.node
  have hBW := hb0.size
  have HBA := hid_of (hb0.trans ((bel_alloc w (.cells #[.int .i64 4, .int .i64 lo, .int .i64 hi, .slice an nn cn, .slice ap np cp, .slice ar nr cr] 26)).mono hb0.size))
  have KA := hid_of (WK.start (h.alloc (.cells #[.int .i64 4, .int .i64 lo, .int .i64 hi, .slice an nn cn, .slice ap np cp, .slice ar nr cr] 26)) hb (Nat.le_trans hBW (by simp)))
  have HBX : Hid (∀ w' l', WK w0.heap.size b (w.alloc (.cells #[.int .i64 4, .int .i64 lo, .int .i64 hi, .slice an nn cn, .slice ap np cp, .slice ar nr cr] 26)) v w' l' → _) := hid_of (fun w' l' k => wr_box h _ _ _ _ _ _ k)
  have HE : Hid (encL t = Wr.enc 4 ++ nsE t.ns) := hid_of (by
    rw [encL_k, hk, if_neg (by decide : ¬((4 : Int) = 2 ∨ (4 : Int) = 3)), if_pos (by decide : (4 : Int) = 4 ∨ (4 : Int) = 8)]
    rfl)
  have HL : Hid (l.length + (Wr.enc 4).length + (nsE t.ns).length ≤ 60000000000000) := hid_of (by
    have h1 := hl
    rw [HE.out, List.length_append] at h1
    omega)
  have C0 := hid_of (show Calls Try.prog 49 #[.pointer (some ⟨b, 0, none⟩), .int .u64 4] _ _ from uint_wk 4 KA.out (by omega) (by omega))
  have CN : Hid (∀ w1, WK w0.heap.size b (w.alloc (.cells #[.int .i64 4, .int .i64 lo, .int .i64 hi, .slice an nn cn, .slice ap np cp, .slice ar nr cr] 26)) v w1 (l ++ Wr.enc 4) → _) := hid_of (fun w1 k => wn_wk k HBA.out H.n hN.nm (by have := hN.nl; omega) (by have := HL.out; simp only [List.length_append] at this ⊢; omega))
  clear H hok hb0 hb h hl IH hk hN
  go_enter Try.func27, Try.ntmps27
  go_wp2_with (first
    | (go_at_call 49; ((with_reducible refine (C0.out).mono ?_); (rintro e w1 ⟨rfl, q1⟩)); have K1 := hid_of q1; obtain ⟨a0, a1, a2, a3, a4, a5⟩ := HBX.out w1 _ q1; clear q1)
    | (go_at_call 51; ((with_reducible refine (CN.out w1 K1.out).mono ?_); (rintro e w2 ⟨rfl, q1⟩)); have K2 := hid_of q1; obtain ⟨d0, d1, d2, d3, d4, d5⟩ := HBX.out w2 _ q1; clear q1))
  go_end0
  have R := K2.out
  exact ⟨rfl, by rw [HE.out]; have := R.of_alloc hBW; simpa only [List.append_assoc, List.append_nil] using this⟩
theorem wr_8 (H : LO w0 8 lo hi an nn cn ap np cp ar nr cr t) (hok : Okay t) (hb0 : Below w0.heap.size w0 w) (hb : w0.heap.size ≤ b) (h : Wr.Wst w0.heap.size b w v l) (hl : l.length + (encL t).length ≤ 60000000000000) (IH : ∀ p ∈ t.ps, WP w0 b p) :
    Calls Try.prog 27 #[.pointer (some ⟨b, 0, none⟩), .agg #[.int .i64 8, .int .i64 lo, .int .i64 hi, .slice an nn cn, .slice ap np cp, .slice ar nr cr]] w fun e w' => e = .returned (.tuple #[]) ∧ WK w0.heap.size b w v w' (l ++ encL t) := by
  have hk : t.k = 8 := H.hk.symm
  have hN := hok.node
  have hBW := hb0.size
  have HBA := hid_of (hb0.trans ((bel_alloc w (.cells #[.int .i64 8, .int .i64 lo, .int .i64 hi, .slice an nn cn, .slice ap np cp, .slice ar nr cr] 26)).mono hb0.size))
  have KA := hid_of (WK.start (h.alloc (.cells #[.int .i64 8, .int .i64 lo, .int .i64 hi, .slice an nn cn, .slice ap np cp, .slice ar nr cr] 26)) hb (Nat.le_trans hBW (by simp)))
  have HBX : Hid (∀ w' l', WK w0.heap.size b (w.alloc (.cells #[.int .i64 8, .int .i64 lo, .int .i64 hi, .slice an nn cn, .slice ap np cp, .slice ar nr cr] 26)) v w' l' → _) := hid_of (fun w' l' k => wr_box h _ _ _ _ _ _ k)
  have HE : Hid (encL t = Wr.enc 8 ++ nsE t.ns) := hid_of (by
    rw [encL_k, hk, if_neg (by decide : ¬((8 : Int) = 2 ∨ (8 : Int) = 3)), if_pos (by decide : (8 : Int) = 4 ∨ (8 : Int) = 8)]
    rfl)
  have HL : Hid (l.length + (Wr.enc 8).length + (nsE t.ns).length ≤ 60000000000000) := hid_of (by
    have h1 := hl
    rw [HE.out, List.length_append] at h1
    omega)
  have C0 := hid_of (show Calls Try.prog 49 #[.pointer (some ⟨b, 0, none⟩), .int .u64 8] _ _ from uint_wk 8 KA.out (by omega) (by omega))
  have CN : Hid (∀ w1, WK w0.heap.size b (w.alloc (.cells #[.int .i64 8, .int .i64 lo, .int .i64 hi, .slice an nn cn, .slice ap np cp, .slice ar nr cr] 26)) v w1 (l ++ Wr.enc 8) → _) := hid_of (fun w1 k => wn_wk k HBA.out H.n hN.nm (by have := hN.nl; omega) (by have := HL.out; simp only [List.length_append] at this ⊢; omega))
  clear H hok hb0 hb h hl IH hk hN
  go_enter Try.func27, Try.ntmps27
  go_wp2_with (first
    | (go_at_call 49; ((with_reducible refine (C0.out).mono ?_); (rintro e w1 ⟨rfl, q1⟩)); have K1 := hid_of q1; obtain ⟨a0, a1, a2, a3, a4, a5⟩ := HBX.out w1 _ q1; clear q1)
    | (go_at_call 51; ((with_reducible refine (CN.out w1 K1.out).mono ?_); (rintro e w2 ⟨rfl, q1⟩)); have K2 := hid_of q1; obtain ⟨d0, d1, d2, d3, d4, d5⟩ := HBX.out w2 _ q1; clear q1))
  go_end0
  have R := K2.out
  exact ⟨rfl, by rw [HE.out]; have := R.of_alloc hBW; simpa only [List.append_assoc, List.append_nil] using this⟩
theorem wr_5 (H : LO w0 5 lo hi an nn cn ap np cp ar nr cr t) (hok : Okay t) (hb0 : Below w0.heap.size w0 w) (hb : w0.heap.size ≤ b) (h : Wr.Wst w0.heap.size b w v l) (hl : l.length + (encL t).length ≤ 60000000000000) (IH : ∀ p ∈ t.ps, WP w0 b p) :
    Calls Try.prog 27 #[.pointer (some ⟨b, 0, none⟩), .agg #[.int .i64 5, .int .i64 lo, .int .i64 hi, .slice an nn cn, .slice ap np cp, .slice ar nr cr]] w fun e w' => e = .returned (.tuple #[]) ∧ WK w0.heap.size b w v w' (l ++ encL t) := by
  have hlp := H.lp
  have hpn : t.ps.length = 1 := shape_5 hok.node.shape H.hk.symm
  obtain ⟨p0, hp0⟩ : ∃ p, t.ps[0]? = some p := ⟨_, List.getElem?_eq_getElem (by omega)⟩
  obtain ⟨g, o, pk0, plo0, phi0, pan0, pnn0, pcn0, pap0, pnp0, pcp0, par0, pnr0, pcr0, rfl, PO0, PC0⟩ := H.p.get hp0
  have hk : t.k = 5 := H.hk.symm
  have hN := hok.node
  have hBW := hb0.size
  have HBA := hid_of (hb0.trans ((bel_alloc w (.cells #[.int .i64 5, .int .i64 lo, .int .i64 hi, .slice an nn cn, .slice (some ⟨g, o, none⟩) np cp, .slice ar nr cr] 26)).mono hb0.size))
  have KA := hid_of (WK.start (h.alloc (.cells #[.int .i64 5, .int .i64 lo, .int .i64 hi, .slice an nn cn, .slice (some ⟨g, o, none⟩) np cp, .slice ar nr cr] 26)) hb (Nat.le_trans hBW (by simp)))
  have HBX : Hid (∀ w' l', WK w0.heap.size b (w.alloc (.cells #[.int .i64 5, .int .i64 lo, .int .i64 hi, .slice an nn cn, .slice (some ⟨g, o, none⟩) np cp, .slice ar nr cr] 26)) v w' l' → _) := hid_of (fun w' l' k => wr_box h _ _ _ _ _ _ k)
  have HE : Hid (encL t = Wr.enc 5 ++ (nsE t.ns ++ encL p0)) := hid_of (by
    have e : t.ps = [p0] := one_of hpn hp0
    rw [encL_k, hk, if_neg (by decide : ¬((5 : Int) = 2 ∨ (5 : Int) = 3)), if_neg (by decide : ¬((5 : Int) = 4 ∨ (5 : Int) = 8)), if_pos (by decide : (5 : Int) = 5), e, encLs_cons, encLs_nil, List.append_nil]
    rfl)
  have HL : Hid (l.length + (Wr.enc 5).length + ((nsE t.ns ++ encL p0)).length ≤ 60000000000000) := hid_of (by
    have h1 := hl
    rw [HE.out, List.length_append] at h1
    omega)
  have C0 := hid_of (show Calls Try.prog 49 #[.pointer (some ⟨b, 0, none⟩), .int .u64 5] _ _ from uint_wk 5 KA.out (by omega) (by omega))
  have CN : Hid (∀ w1, WK w0.heap.size b (w.alloc (.cells #[.int .i64 5, .int .i64 lo, .int .i64 hi, .slice an nn cn, .slice (some ⟨g, o, none⟩) np cp, .slice ar nr cr] 26)) v w1 (l ++ Wr.enc 5) → _) := hid_of (fun w1 k => wn_wk k HBA.out H.n hN.nm (by have := hN.nl; omega) (by have := HL.out; simp only [List.length_append] at this ⊢; omega))
  have HP0 : Hid (∀ w' l', WK w0.heap.size b (w.alloc (.cells #[.int .i64 5, .int .i64 lo, .int .i64 hi, .slice an nn cn, .slice (some ⟨g, o, none⟩) np cp, .slice ar nr cr] 26)) v w' l' → w'.cell? ⟨g, o, none⟩ = some (.int .i64 pk0) ∧ w'.cell? ⟨g, o + 1, none⟩ = some (.int .i64 plo0) ∧ w'.cell? ⟨g, o + 2, none⟩ = some (.int .i64 phi0) ∧ w'.cell? ⟨g, o + 3, none⟩ = some (.slice pan0 pnn0 pcn0) ∧ w'.cell? ⟨g, o + 4, none⟩ = some (.slice pap0 pnp0 pcp0) ∧ w'.cell? ⟨g, o + 5, none⟩ = some (.slice par0 pnr0 pcr0)) := hid_of (fun w' l' k => by
    have := PC0 w' (HBA.out.trans (k.bel.mono (Nat.le_refl _)))
    simpa using this)
  have CW0 : Hid (∀ w2, WK w0.heap.size b (w.alloc (.cells #[.int .i64 5, .int .i64 lo, .int .i64 hi, .slice an nn cn, .slice (some ⟨g, o, none⟩) np cp, .slice ar nr cr] 26)) v w2 (l ++ Wr.enc 5 ++ nsE t.ns) → _) := hid_of (fun w2 k => wp_wk (IH p0 (List.mem_of_getElem? hp0)) PO0 k HBA.out (by have := HL.out; simp only [List.length_append] at this ⊢; omega))
  have hnp : 0 < np := by omega
  have hcp := (LDs.len H.p).2
  clear PO0 PC0 hp0 hpn hlp
  clear H hok hb0 hb h hl IH hk hN
  go_enter Try.func27, Try.ntmps27
  go_wp2_with (first
    | (go_at_call 49; ((with_reducible refine (C0.out).mono ?_); (rintro e w1 ⟨rfl, q1⟩)); have K1 := hid_of q1; obtain ⟨a0, a1, a2, a3, a4, a5⟩ := HBX.out w1 _ q1; clear q1)
    | (go_at_call 51; ((with_reducible refine (CN.out w1 K1.out).mono ?_); (rintro e w2 ⟨rfl, q1⟩)); have K2 := hid_of q1; obtain ⟨d0, d1, d2, d3, d4, d5⟩ := HBX.out w2 _ q1; obtain ⟨r0, r1, r2, r3, r4, r5⟩ := HP0.out w2 _ q1; clear q1)
    | (go_at_call 27; ((with_reducible refine (CW0.out w2 K2.out).mono ?_); (rintro e w3 ⟨rfl, q1⟩)); have K3 := hid_of q1; obtain ⟨e0, e1, e2, e3, e4, e5⟩ := HBX.out w3 _ q1; clear q1))
  go_end0
  have R := K3.out
  exact ⟨rfl, by rw [HE.out]; have := R.of_alloc hBW; simpa only [List.append_assoc, List.append_nil] using this⟩
theorem wr_7 (H : LO w0 7 lo hi an nn cn ap np cp ar nr cr t) (hok : Okay t) (hb0 : Below w0.heap.size w0 w) (hb : w0.heap.size ≤ b) (h : Wr.Wst w0.heap.size b w v l) (hl : l.length + (encL t).length ≤ 60000000000000) (IH : ∀ p ∈ t.ps, WP w0 b p) :
    Calls Try.prog 27 #[.pointer (some ⟨b, 0, none⟩), .agg #[.int .i64 7, .int .i64 lo, .int .i64 hi, .slice an nn cn, .slice ap np cp, .slice ar nr cr]] w fun e w' => e = .returned (.tuple #[]) ∧ WK w0.heap.size b w v w' (l ++ encL t) := by
  have hlp := H.lp
  have hpn : t.ps.length = 2 := shape_7 hok.node.shape H.hk.symm
  obtain ⟨p0, hp0⟩ : ∃ p, t.ps[0]? = some p := ⟨_, List.getElem?_eq_getElem (by omega)⟩
  obtain ⟨g, o, pk0, plo0, phi0, pan0, pnn0, pcn0, pap0, pnp0, pcp0, par0, pnr0, pcr0, rfl, PO0, PC0⟩ := H.p.get hp0
  obtain ⟨p1, hp1⟩ : ∃ p, t.ps[1]? = some p := ⟨_, List.getElem?_eq_getElem (by omega)⟩
  obtain ⟨g', o', pk1, plo1, phi1, pan1, pnn1, pcn1, pap1, pnp1, pcp1, par1, pnr1, pcr1, e1, PO1, PC1⟩ := H.p.get hp1
  cases e1
  have hk : t.k = 7 := H.hk.symm
  have hN := hok.node
  have hBW := hb0.size
  have HBA := hid_of (hb0.trans ((bel_alloc w (.cells #[.int .i64 7, .int .i64 lo, .int .i64 hi, .slice an nn cn, .slice (some ⟨g, o, none⟩) np cp, .slice ar nr cr] 26)).mono hb0.size))
  have KA := hid_of (WK.start (h.alloc (.cells #[.int .i64 7, .int .i64 lo, .int .i64 hi, .slice an nn cn, .slice (some ⟨g, o, none⟩) np cp, .slice ar nr cr] 26)) hb (Nat.le_trans hBW (by simp)))
  have HBX : Hid (∀ w' l', WK w0.heap.size b (w.alloc (.cells #[.int .i64 7, .int .i64 lo, .int .i64 hi, .slice an nn cn, .slice (some ⟨g, o, none⟩) np cp, .slice ar nr cr] 26)) v w' l' → _) := hid_of (fun w' l' k => wr_box h _ _ _ _ _ _ k)
  have HE : Hid (encL t = Wr.enc 7 ++ (encL p0 ++ encL p1)) := hid_of (by
    have e : t.ps = [p0, p1] := two_of hpn hp0 hp1
    rw [encL_k, hk, if_neg (by decide : ¬((7 : Int) = 2 ∨ (7 : Int) = 3)), if_neg (by decide : ¬((7 : Int) = 4 ∨ (7 : Int) = 8)), if_neg (by decide : ¬((7 : Int) = 5)), if_neg (by decide : ¬((7 : Int) = 6)), if_pos (by decide : (7 : Int) = 7), e, encLs_cons, encLs_cons, encLs_nil, List.append_nil]
    rfl)
  have HL : Hid (l.length + (Wr.enc 7).length + ((encL p0 ++ encL p1)).length ≤ 60000000000000) := hid_of (by
    have h1 := hl
    rw [HE.out, List.length_append] at h1
    omega)
  have C0 := hid_of (show Calls Try.prog 49 #[.pointer (some ⟨b, 0, none⟩), .int .u64 7] _ _ from uint_wk 7 KA.out (by omega) (by omega))
  have HP0 : Hid (∀ w' l', WK w0.heap.size b (w.alloc (.cells #[.int .i64 7, .int .i64 lo, .int .i64 hi, .slice an nn cn, .slice (some ⟨g, o, none⟩) np cp, .slice ar nr cr] 26)) v w' l' → w'.cell? ⟨g, o, none⟩ = some (.int .i64 pk0) ∧ w'.cell? ⟨g, o + 1, none⟩ = some (.int .i64 plo0) ∧ w'.cell? ⟨g, o + 2, none⟩ = some (.int .i64 phi0) ∧ w'.cell? ⟨g, o + 3, none⟩ = some (.slice pan0 pnn0 pcn0) ∧ w'.cell? ⟨g, o + 4, none⟩ = some (.slice pap0 pnp0 pcp0) ∧ w'.cell? ⟨g, o + 5, none⟩ = some (.slice par0 pnr0 pcr0)) := hid_of (fun w' l' k => by
    have := PC0 w' (HBA.out.trans (k.bel.mono (Nat.le_refl _)))
    simpa using this)
  have HP1 : Hid (∀ w' l', WK w0.heap.size b (w.alloc (.cells #[.int .i64 7, .int .i64 lo, .int .i64 hi, .slice an nn cn, .slice (some ⟨g, o, none⟩) np cp, .slice ar nr cr] 26)) v w' l' → w'.cell? ⟨g, o + 6, none⟩ = some (.int .i64 pk1) ∧ w'.cell? ⟨g, o + 6 + 1, none⟩ = some (.int .i64 plo1) ∧ w'.cell? ⟨g, o + 6 + 2, none⟩ = some (.int .i64 phi1) ∧ w'.cell? ⟨g, o + 6 + 3, none⟩ = some (.slice pan1 pnn1 pcn1) ∧ w'.cell? ⟨g, o + 6 + 4, none⟩ = some (.slice pap1 pnp1 pcp1) ∧ w'.cell? ⟨g, o + 6 + 5, none⟩ = some (.slice par1 pnr1 pcr1)) := hid_of (fun w' l' k => by
    have := PC1 w' (HBA.out.trans (k.bel.mono (Nat.le_refl _)))
    simpa using this)
  have CW0 : Hid (∀ w1, WK w0.heap.size b (w.alloc (.cells #[.int .i64 7, .int .i64 lo, .int .i64 hi, .slice an nn cn, .slice (some ⟨g, o, none⟩) np cp, .slice ar nr cr] 26)) v w1 (l ++ Wr.enc 7) → _) := hid_of (fun w2 k => wp_wk (IH p0 (List.mem_of_getElem? hp0)) PO0 k HBA.out (by have := HL.out; simp only [List.length_append] at this ⊢; omega))
  have CW1 : Hid (∀ w1, WK w0.heap.size b (w.alloc (.cells #[.int .i64 7, .int .i64 lo, .int .i64 hi, .slice an nn cn, .slice (some ⟨g, o, none⟩) np cp, .slice ar nr cr] 26)) v w1 (l ++ Wr.enc 7 ++ encL p0) → _) := hid_of (fun w2 k => wp_wk (IH p1 (List.mem_of_getElem? hp1)) PO1 k HBA.out (by have := HL.out; simp only [List.length_append] at this ⊢; omega))
  have hnp : 0 < np := by omega
  have hnp1 : 1 < np := by omega
  have hcp := (LDs.len H.p).2
  clear PO0 PC0 hp0 PO1 PC1 hp1 hpn hlp
  clear H hok hb0 hb h hl IH hk hN
  go_enter Try.func27, Try.ntmps27
  go_wp2_with (first
    | (go_at_call 49; ((with_reducible refine (C0.out).mono ?_); (rintro e w1 ⟨rfl, q1⟩)); have K1 := hid_of q1; obtain ⟨a0, a1, a2, a3, a4, a5⟩ := HBX.out w1 _ q1; obtain ⟨r0, r1, r2, r3, r4, r5⟩ := HP0.out w1 _ q1; clear q1)
    | (go_at_call 27; ((with_reducible refine (CW0.out w1 K1.out).mono ?_); (rintro e w2 ⟨rfl, q1⟩)); have K2 := hid_of q1; obtain ⟨e0, e1, e2, e3, e4, e5⟩ := HBX.out w2 _ q1; obtain ⟨s0, s1, s2, s3, s4, s5⟩ := HP1.out w2 _ q1; clear q1)
    | (go_at_call 27; ((with_reducible refine (CW1.out w2 K2.out).mono ?_); (rintro e w3 ⟨rfl, q1⟩)); have K3 := hid_of q1; obtain ⟨e0, e1, e2, e3, e4, e5⟩ := HBX.out w3 _ q1; clear q1))
  go_end0
  have R := K3.out
  exact ⟨rfl, by rw [HE.out]; have := R.of_alloc hBW; simpa only [List.append_assoc, List.append_nil] using this⟩
theorem wr_6 (H : LO w0 6 lo hi an nn cn ap np cp ar nr cr t) (hok : Okay t) (hb0 : Below w0.heap.size w0 w) (hb : w0.heap.size ≤ b) (h : Wr.Wst w0.heap.size b w v l) (hl : l.length + (encL t).length ≤ 60000000000000) (IH : ∀ p ∈ t.ps, WP w0 b p) :
    Calls Try.prog 27 #[.pointer (some ⟨b, 0, none⟩), .agg #[.int .i64 6, .int .i64 lo, .int .i64 hi, .slice an nn cn, .slice ap np cp, .slice ar nr cr]] w fun e w' => e = .returned (.tuple #[]) ∧ WK w0.heap.size b w v w' (l ++ encL t) := by
  have hps := shape_6 hok.node.shape H.hk.symm
  have HPT : Hid (∀ j, j < nn → ∃ gn on x bx g o pk plo phi pan pnn pcn pap pnp pcp par pnr pcr p, an = some ⟨gn, on, none⟩ ∧ ap = some ⟨g, o, none⟩ ∧ (t.ns[j]? = some x ∧ t.ps[j]? = some p ∧ x.length ≤ 16 ∧ bx = ba x) ∧ LO w0 pk plo phi pan pnn pcn pap pnp pcp par pnr pcr p ∧ WP w0 b p ∧ nn ≤ cn ∧ np ≤ cp ∧
      Hid (∀ w', Below w0.heap.size w0 w' → w'.cell? ⟨gn, on + j, none⟩ = some (.string bx) ∧ w'.cell? ⟨g, o + j * 6, none⟩ = some (.int .i64 pk) ∧ w'.cell? ⟨g, o + j * 6 + 1, none⟩ = some (.int .i64 plo) ∧ w'.cell? ⟨g, o + j * 6 + 2, none⟩ = some (.int .i64 phi) ∧ w'.cell? ⟨g, o + j * 6 + 3, none⟩ = some (.slice pan pnn pcn) ∧ w'.cell? ⟨g, o + j * 6 + 4, none⟩ = some (.slice pap pnp pcp) ∧ w'.cell? ⟨g, o + j * 6 + 5, none⟩ = some (.slice par pnr pcr))) := hid_of (fun j hj => by
    have hln := H.ln
    obtain ⟨x, hx⟩ : ∃ x, t.ns[j]? = some x := ⟨_, List.getElem?_eq_getElem (by omega)⟩
    obtain ⟨p, hp⟩ : ∃ p, t.ps[j]? = some p := ⟨_, List.getElem?_eq_getElem (by omega)⟩
    obtain ⟨g, o, pk, plo, phi, pan, pnn, pcn, pap, pnp, pcp, par, pnr, pcr, e1, PO, PC⟩ := H.p.get hp
    obtain ⟨_, q1, q2, q3⟩ := rds_open H.n
    obtain ⟨gn, on, e2, hg, hc⟩ := q3.resolve_left (fun e => by rw [e] at hx; simp at hx)
    refine ⟨gn, on, x, _, g, o, pk, plo, phi, pan, pnn, pcn, pap, pnp, pcp, par, pnr, pcr, p, e2, e1, ⟨hx, hp, hok.node.nm x (List.mem_of_getElem? hx), rfl⟩, PO, IH p (List.mem_of_getElem? hp), q1, (LDs.len H.p).2.1, hid_of fun w' hw => ⟨(hw.cell (p := ⟨gn, on + j, none⟩) hg).trans (hc j x hx), PC w' hw⟩⟩)
  have HNN := hid_of H.ln
  have HNP := hid_of H.lp
  have hnn8 : nn ≤ 8 := by have := hok.node.pl H.hk.symm; have := H.ln; omega
  have hnpn : np = nn := by have := H.lp; have := H.ln; omega
  have hk : t.k = 6 := H.hk.symm
  have hN := hok.node
  have hBW := hb0.size
  have HBA := hid_of (hb0.trans ((bel_alloc w (.cells #[.int .i64 6, .int .i64 lo, .int .i64 hi, .slice an nn cn, .slice ap np cp, .slice ar nr cr] 26)).mono hb0.size))
  have KA := hid_of (WK.start (h.alloc (.cells #[.int .i64 6, .int .i64 lo, .int .i64 hi, .slice an nn cn, .slice ap np cp, .slice ar nr cr] 26)) hb (Nat.le_trans hBW (by simp)))
  have HBX : Hid (∀ w' l', WK w0.heap.size b (w.alloc (.cells #[.int .i64 6, .int .i64 lo, .int .i64 hi, .slice an nn cn, .slice ap np cp, .slice ar nr cr] 26)) v w' l' → _) := hid_of (fun w' l' k => wr_box h _ _ _ _ _ _ k)
  have HE : Hid (encL t = Wr.enc 6 ++ (Wr.enc nn ++ encPs t.ns t.ps)) := hid_of (by
    rw [encL_k, hk, if_neg (by decide : ¬((6 : Int) = 2 ∨ (6 : Int) = 3)), if_neg (by decide : ¬((6 : Int) = 4 ∨ (6 : Int) = 8)), if_neg (by decide : ¬((6 : Int) = 5)), if_pos (by decide : (6 : Int) = 6), ← H.ln]
    rfl)
  have HL : Hid (l.length + (Wr.enc 6).length + ((Wr.enc nn ++ encPs t.ns t.ps)).length ≤ 60000000000000) := hid_of (by
    have h1 := hl
    rw [HE.out, List.length_append] at h1
    omega)
  have C0 := hid_of (show Calls Try.prog 49 #[.pointer (some ⟨b, 0, none⟩), .int .u64 6] _ _ from uint_wk 6 KA.out (by omega) (by omega))
  have C2 : Hid (∀ w1, WK w0.heap.size b (w.alloc (.cells #[.int .i64 6, .int .i64 lo, .int .i64 hi, .slice an nn cn, .slice ap np cp, .slice ar nr cr] 26)) v w1 (l ++ Wr.enc 6) → _) := hid_of (fun w1 k => uint_wk nn k (by omega) (by have := HL.out; simp only [List.length_append] at this ⊢; omega))
  subst hnpn
  clear H hok hb0 hb h hl IH hk hN hps
  go_enter Try.func27, Try.ntmps27
  go_wp2_with (first
    | (go_at_call 49; ((with_reducible refine (C0.out).mono ?_); (rintro e w1 ⟨rfl, q1⟩)); have K1 := hid_of q1; obtain ⟨a0, a1, a2, a3, a4, a5⟩ := HBX.out w1 _ q1; clear q1)
    | (go_at_call 49; ((with_reducible refine (C2.out w1 K1.out).mono ?_); (rintro e w2 ⟨rfl, q1⟩)); have K2 := hid_of q1; obtain ⟨d0, d1, d2, d3, d4, d5⟩ := HBX.out w2 _ q1; clear q1))
  go_loopw [4, 5, 56] (fun v4 v5 iv wr => ∃ (j : Nat) (x4 x5 : Value), v4 = x4 ∧ v5 = x5 ∧ j ≤ np ∧ iv = .int .i64 j ∧ Hid (WK w0.heap.size b (w.alloc (.cells #[.int .i64 6, .int .i64 lo, .int .i64 hi, .slice an np cn, .slice ap np cp, .slice ar nr cr] 26)) v wr (l ++ Wr.enc 6 ++ Wr.enc np ++ encPs (t.ns.take j) (t.ps.take j)))) (fun _ _ iv _ => np - (intOf iv).toNat)
  case atStart => exact ⟨0, _, _, rfl, rfl, Nat.zero_le _, rfl, hid_of (by rw [List.take_zero, List.take_zero, encPs_nil, List.append_nil]; exact K2.out)⟩
  case round =>
    obtain ⟨j, x4, x5, rfl, rfl, hj, rfl, hk⟩ := hrel
    by_cases hlt : j < np
    · have hd : decide (j < np) = true := by simp; omega
      obtain ⟨gn, on, x, bx, g, o, pk, plo, phi, pan, pnn, pcn, pap, pnp, pcp, par, pnr, pcr, p, rfl, rfl, hxp, PO, IHp, hcn, hcp, HC⟩ := HPT.out j hlt
      have HXP := hid_of hxp
      have HBL : Hid (l.length + (Wr.enc 6).length + (Wr.enc np).length + ((encPs (t.ns.take j) (t.ps.take j)).length + ((txE x).length + (encL p).length)) ≤ 60000000000000) := hid_of (by
        have h1 := HL.out
        have h2 := encPs_pre t.ns t.ps (j + 1) (by have := HNN.out; omega) (by have := HNN.out; have := HNP.out; omega)
        rw [encPs_snoc _ _ _ _ _ HXP.out.1 HXP.out.2.1] at h2
        simp only [List.length_append] at h1 h2 ⊢
        omega)
      have CT := hid_of (text_wk x bx HXP.out.2.2.2 hk.out HXP.out.2.2.1 (by have := HBL.out; simp only [List.length_append]; omega))
      have CW : Hid (∀ w3, WK w0.heap.size b (w.alloc (.cells #[.int .i64 6, .int .i64 lo, .int .i64 hi, .slice (some ⟨gn, on, none⟩) np cn, .slice (some ⟨g, o, none⟩) np cp, .slice ar nr cr] 26)) v w3 (l ++ Wr.enc 6 ++ Wr.enc np ++ encPs (t.ns.take j) (t.ps.take j) ++ txE x) → _) := hid_of (fun w3 k => wp_wk IHp PO k HBA.out (by have := HBL.out; simp only [List.length_append] at this ⊢; omega))
      obtain ⟨y0, y1, y2, y3, y4, y5⟩ := HBX.out _ _ hk.out
      obtain ⟨z0, z1, z2, z3, z4, z5, z6⟩ := HC.out _ (HBA.out.trans (hk.out.bel.mono (Nat.le_refl _)))
      have HNX : Hid (encPs (t.ns.take (j + 1)) (t.ps.take (j + 1)) = encPs (t.ns.take j) (t.ps.take j) ++ (txE x ++ encL p)) := hid_of (encPs_snoc _ _ _ _ _ HXP.out.1 HXP.out.2.1)
      clear hxp
      go_wp2_with (first
        | (go_at_call 52; ((with_reducible refine (CT.out).mono ?_); (rintro e w3 ⟨rfl, q1⟩)); have K3 := hid_of q1; obtain ⟨e0, e1, e2, e3, e4, e5⟩ := HBX.out w3 _ q1; obtain ⟨u0, u1, u2, u3, u4, u5, u6⟩ := HC.out w3 (HBA.out.trans (q1.bel.mono (Nat.le_refl _))); clear q1)
        | (go_at_call 27; ((with_reducible refine (CW.out w3 K3.out).mono ?_); (rintro e w4 ⟨rfl, q1⟩)); have K4 := hid_of q1; clear q1))
      go_roundw
      case rel => exact ⟨j + 1, _, _, rfl, rfl, by omega, by go_num, hid_of (by rw [HNX.out]; have := K4.out; simpa only [List.append_assoc] using this)⟩
      case measure => simp [intOf]; omega
    · have hd : decide (j < np) = false := by simp; omega
      have HF : Hid (WK w0.heap.size b w v wr (l ++ encL t)) := hid_of (by
        have h1 := hk.out.of_alloc hBW
        rw [List.take_of_length_le (by have := HNN.out; omega), List.take_of_length_le (by have := HNP.out; omega)] at h1
        rw [HE.out]
        simpa only [List.append_assoc] using h1)
      go_wp2
      go_end0
      exact ⟨rfl, HF.out⟩
theorem wr_10 (H : LO w0 10 lo hi an nn cn ap np cp ar nr cr t) (hok : Okay t) (hb0 : Below w0.heap.size w0 w) (hb : w0.heap.size ≤ b) (h : Wr.Wst w0.heap.size b w v l) (hl : l.length + (encL t).length ≤ 60000000000000) (IH : ∀ p ∈ t.ps, WP w0 b p) :
    Calls Try.prog 27 #[.pointer (some ⟨b, 0, none⟩), .agg #[.int .i64 10, .int .i64 lo, .int .i64 hi, .slice an nn cn, .slice ap np cp, .slice ar nr cr]] w fun e w' => e = .returned (.tuple #[]) ∧ WK w0.heap.size b w v w' (l ++ encL t) := by
  have HRT : Hid (∀ j, j < nr → ∃ gr og a n c bx r, ar = some ⟨gr, og, none⟩ ∧ (t.rs[j]? = some r ∧ bx = ba r.2 ∧ SmR r ∧ Rd w0 (.slice a n c) (ss r.1)) ∧ nr ≤ cr ∧ cr ≤ 9223372036854775807 ∧ Hid (∀ w', Below w0.heap.size w0 w' → w'.cell? ⟨gr, og + j * 2, none⟩ = some (.slice a n c) ∧ w'.cell? ⟨gr, og + j * 2 + 1, none⟩ = some (.string bx))) := hid_of (fun j hj => by
    have hlr := H.lr
    obtain ⟨rl, q1, q2, q3⟩ := H.r
    obtain ⟨c1, c2, c3⟩ := q1.cut
    obtain ⟨y, hy⟩ : ∃ y, rl[j]? = some y := ⟨_, List.getElem?_eq_getElem (by omega)⟩
    obtain ⟨r, hr⟩ : ∃ r, t.rs[j]? = some r := ⟨_, List.getElem?_eq_getElem (by omega)⟩
    obtain ⟨k1, k2⟩ := q3 j y r hy hr
    obtain ⟨gr, og, e, d0, d1⟩ := q1.get hy
    obtain ⟨y1, y2⟩ := y
    simp only at k1 k2 d0 d1
    subst k2
    have k1' := k1
    obtain ⟨a, c, rfl, _⟩ := k1
    refine ⟨gr, og, a, _, c, _, r, e, ⟨hr, rfl, hok.node.ru r (List.mem_of_getElem? hr), k1'⟩, c2, c3, hid_of fun w' hw => ⟨(hw.cell (p := ⟨gr, og + j * 2, none⟩) (World.block_lt_of_cell? _ _ d0)).trans d0, (hw.cell (p := ⟨gr, og + j * 2 + 1, none⟩) (World.block_lt_of_cell? _ _ d1)).trans d1⟩⟩)
  have HNR := hid_of H.lr
  have hnr32 : nr ≤ 32 := by have := hok.node.rl; have := H.lr; omega
  have HHB := hid_of hb
  have hk : t.k = 10 := H.hk.symm
  have hN := hok.node
  have hBW := hb0.size
  have HBA := hid_of (hb0.trans ((bel_alloc w (.cells #[.int .i64 10, .int .i64 lo, .int .i64 hi, .slice an nn cn, .slice ap np cp, .slice ar nr cr] 26)).mono hb0.size))
  have KA := hid_of (WK.start (h.alloc (.cells #[.int .i64 10, .int .i64 lo, .int .i64 hi, .slice an nn cn, .slice ap np cp, .slice ar nr cr] 26)) hb (Nat.le_trans hBW (by simp)))
  have HBX : Hid (∀ w' l', WK w0.heap.size b (w.alloc (.cells #[.int .i64 10, .int .i64 lo, .int .i64 hi, .slice an nn cn, .slice ap np cp, .slice ar nr cr] 26)) v w' l' → _) := hid_of (fun w' l' k => wr_box h _ _ _ _ _ _ k)
  have HE : Hid (encL t = Wr.enc 10 ++ (nsE t.ns ++ (Wr.enc nr ++ t.rs.flatMap ruE1))) := hid_of (by
    rw [encL_k, hk, if_neg (by decide : ¬((10 : Int) = 2 ∨ (10 : Int) = 3)), if_neg (by decide : ¬((10 : Int) = 4 ∨ (10 : Int) = 8)), if_neg (by decide : ¬((10 : Int) = 5)), if_neg (by decide : ¬((10 : Int) = 6)), if_neg (by decide : ¬((10 : Int) = 7)), if_pos (by decide : (10 : Int) = 10)]
    rw [show rsE t.rs = Wr.enc nr ++ t.rs.flatMap ruE1 by rw [H.lr]; rfl]
    rfl)
  have HL : Hid (l.length + (Wr.enc 10).length + ((nsE t.ns ++ (Wr.enc nr ++ t.rs.flatMap ruE1))).length ≤ 60000000000000) := hid_of (by
    have h1 := hl
    rw [HE.out, List.length_append] at h1
    omega)
  have C0 := hid_of (show Calls Try.prog 49 #[.pointer (some ⟨b, 0, none⟩), .int .u64 10] _ _ from uint_wk 10 KA.out (by omega) (by omega))
  have CN : Hid (∀ w1, WK w0.heap.size b (w.alloc (.cells #[.int .i64 10, .int .i64 lo, .int .i64 hi, .slice an nn cn, .slice ap np cp, .slice ar nr cr] 26)) v w1 (l ++ Wr.enc 10) → _) := hid_of (fun w1 k => wn_wk k HBA.out H.n hN.nm (by have := hN.nl; omega) (by have := HL.out; simp only [List.length_append] at this ⊢; omega))
  have C2 : Hid (∀ w2, WK w0.heap.size b (w.alloc (.cells #[.int .i64 10, .int .i64 lo, .int .i64 hi, .slice an nn cn, .slice ap np cp, .slice ar nr cr] 26)) v w2 (l ++ Wr.enc 10 ++ nsE t.ns) → _) := hid_of (fun w2 k => uint_wk nr k (by omega) (by have := HL.out; simp only [List.length_append] at this ⊢; omega))
  clear H hok hb0 hb h hl IH hk hN
  go_enter Try.func27, Try.ntmps27
  go_wp2_with (first
    | (go_at_call 49; ((with_reducible refine (C0.out).mono ?_); (rintro e w1 ⟨rfl, q1⟩)); have K1 := hid_of q1; obtain ⟨a0, a1, a2, a3, a4, a5⟩ := HBX.out w1 _ q1; clear q1)
    | (go_at_call 51; ((with_reducible refine (CN.out w1 K1.out).mono ?_); (rintro e w2 ⟨rfl, q1⟩)); have K2 := hid_of q1; obtain ⟨d0, d1, d2, d3, d4, d5⟩ := HBX.out w2 _ q1; clear q1)
    | (go_at_call 49; ((with_reducible refine (C2.out w2 K2.out).mono ?_); (rintro e w3 ⟨rfl, q1⟩)); have K3 := hid_of q1; obtain ⟨g0, g1, g2, g3, g4, g5⟩ := HBX.out w3 _ q1; clear q1))
  go_loopw [7, 101] (fun v7 iv wr => ∃ (j : Nat) (x7 : Value), v7 = x7 ∧ j ≤ nr ∧ iv = .int .i64 j ∧ Hid (WK w0.heap.size b (w.alloc (.cells #[.int .i64 10, .int .i64 lo, .int .i64 hi, .slice an nn cn, .slice ap np cp, .slice ar nr cr] 26)) v wr (l ++ Wr.enc 10 ++ nsE t.ns ++ Wr.enc nr ++ (t.rs.take j).flatMap ruE1))) (fun _ iv _ => nr - (intOf iv).toNat)
  case atStart => exact ⟨0, _, rfl, Nat.zero_le _, rfl, hid_of (by rw [List.take_zero]; simpa using K3.out)⟩
  case round =>
    obtain ⟨j, x7, rfl, hj, rfl, hk⟩ := hrel
    by_cases hlt : j < nr
    · have hd : decide (j < nr) = true := by simp; omega
      obtain ⟨gr, og, a, n, c, bx, r, rfl, hxr, hcr, hcr9, HC⟩ := HRT.out j hlt
      have HXR := hid_of hxr
      have HBR : Hid (Below w0.heap.size w0 wr) := hid_of (HBA.out.trans (hk.out.bel.mono (Nat.le_refl _)))
      obtain ⟨z0, z1⟩ := HC.out _ HBR.out
      obtain ⟨v2, hv2, hk2, ho2⟩ := hk.out.ex
      have HV2 := hid_of hv2
      have HST := hid_of (And.intro hk2 ho2)
      have HBB : Hid (Below w0.heap.size w0 (wr.alloc (.cells #[.slice a n c, .string bx] 47))) := hid_of (HBR.out.trans ((bel_alloc wr _).mono HBR.out.size))
      have KB := hid_of (WK.start (hv2.alloc (.cells #[.slice a n c, .string bx] 47)) HHB.out (HBB.out.size))
      have HBL : Hid (l.length + (Wr.enc 10).length + (nsE t.ns).length + (Wr.enc nr).length + (((t.rs.take j).flatMap ruE1).length + ((nsE r.1).length + (txE r.2).length)) ≤ 60000000000000) := hid_of (by
        have h1 := HL.out
        have h2 := flat_take ruE1 t.rs (j + 1)
        rw [take_snocL HXR.out.1, List.flatMap_append, List.flatMap_singleton, List.length_append, show ruE1 r = nsE r.1 ++ txE r.2 from rfl, List.length_append] at h2
        simp only [List.length_append] at h1 h2 ⊢
        omega)
      have CN2 := hid_of (wn_wk KB.out HBB.out HXR.out.2.2.2 HXR.out.2.2.1.1.2 (by have := HXR.out.2.2.1.1.1; omega) (by have := HBL.out; simp only [List.length_append]; omega))
      have CT : Hid (∀ w5, WK w0.heap.size b (wr.alloc (.cells #[.slice a n c, .string bx] 47)) v2 w5 (l ++ Wr.enc 10 ++ nsE t.ns ++ Wr.enc nr ++ (t.rs.take j).flatMap ruE1 ++ nsE r.1) → _) := hid_of (fun w5 k => text_wk r.2 bx HXR.out.2.1 k HXR.out.2.2.1.2 (by have := HBL.out; simp only [List.length_append]; omega))
      have HRB : Hid (∀ w' l', WK w0.heap.size b (wr.alloc (.cells #[.slice a n c, .string bx] 47)) v2 w' l' → w'.cell? ⟨wr.heap.size, 0, none⟩ = some (.slice a n c) ∧ w'.cell? ⟨wr.heap.size, 1, none⟩ = some (.string bx)) := hid_of (fun w' l' k => rule_box HV2.out _ _ k)
      have HNX : Hid ((t.rs.take (j + 1)).flatMap ruE1 = (t.rs.take j).flatMap ruE1 ++ (nsE r.1 ++ txE r.2)) := hid_of (by rw [take_snocL HXR.out.1, List.flatMap_append, List.flatMap_singleton]; rfl)
      clear hxr hv2 hk2 ho2
      go_wp2_with (first
        | (go_at_call 51; ((with_reducible refine (CN2.out).mono ?_); (rintro e w5 ⟨rfl, q1⟩)); have K5 := hid_of q1; obtain ⟨u0, u1⟩ := HRB.out w5 _ q1; clear q1)
        | (go_at_call 52; ((with_reducible refine (CT.out w5 K5.out).mono ?_); (rintro e w6 ⟨rfl, q1⟩)); have K6 := hid_of q1; clear q1))
      go_roundw
      case rel => exact ⟨j + 1, _, rfl, by omega, by go_num, hid_of (by
        have h6 := hk.out.step HV2.out HST.out.1 HST.out.2 (K6.out.of_alloc HBR.out.size)
        rw [HNX.out]
        simpa only [List.append_assoc] using h6)⟩
      case measure => simp [intOf]; omega
    · have hd : decide (j < nr) = false := by simp; omega
      have HF : Hid (WK w0.heap.size b w v wr (l ++ encL t)) := hid_of (by
        have h1 := hk.out.of_alloc hBW
        rw [List.take_of_length_le (by have := HNR.out; omega)] at h1
        rw [HE.out]
        simpa only [List.append_assoc] using h1)
      go_wp2
      go_end0
      exact ⟨rfl, HF.out⟩
end
theorem write_any (w0 : World) (b : Nat) : ∀ t, Okay t → WP w0 b t := by
  refine lat_ind ?_
  intro k lo hi ns ps rs ih hok
  have IH : ∀ p ∈ (Lat.mk k lo hi ns ps rs).ps, WP w0 b p := fun p hp => ih p hp (hok.part p hp)
  intro k' lo' hi' an nn cn ap np cp ar nr cr w v l H hb0 hb h hl
  have hk := hok.node.kk
  have e := H.hk
  have hk2 : 1 ≤ k' ∧ k' ≤ 10 := by rw [e]; exact hk
  rcases kinds k' with rfl | rfl | rfl | rfl | rfl | rfl | rfl | rfl | rfl | rfl | hx
  case inr.inr.inr.inr.inr.inr.inr.inr.inr.inr => omega
  · exact wr_1 b lo' hi' an nn cn ap np cp ar nr cr _ w0 w v l H hok hb0 hb h hl IH
  · exact wr_2 b lo' hi' an nn cn ap np cp ar nr cr _ w0 w v l H hok hb0 hb h hl IH
  · exact wr_3 b lo' hi' an nn cn ap np cp ar nr cr _ w0 w v l H hok hb0 hb h hl IH
  · exact wr_4 b lo' hi' an nn cn ap np cp ar nr cr _ w0 w v l H hok hb0 hb h hl IH
  · exact wr_5 b lo' hi' an nn cn ap np cp ar nr cr _ w0 w v l H hok hb0 hb h hl IH
  · exact wr_6 b lo' hi' an nn cn ap np cp ar nr cr _ w0 w v l H hok hb0 hb h hl IH
  · exact wr_7 b lo' hi' an nn cn ap np cp ar nr cr _ w0 w v l H hok hb0 hb h hl IH
  · exact wr_8 b lo' hi' an nn cn ap np cp ar nr cr _ w0 w v l H hok hb0 hb h hl IH
  · exact wr_9 b lo' hi' an nn cn ap np cp ar nr cr _ w0 w v l H hok hb0 hb h hl IH
  · exact wr_10 b lo' hi' an nn cn ap np cp ar nr cr _ w0 w v l H hok hb0 hb h hl IH
end Go.Proofs.Ytdmonbcinlmljaa

/- write and Encode of package lattice, of a description of the kind Max. Bounds on sizes alone. -/
namespace Go.Proofs.Ytdmonbcinlmljaa
open Go.RowKit

def WS2 (b : Nat) (v : Value) (q : Nat) : Prop := q = b ∨ v.ownBlock = some q
set_option maxRecDepth 100000 in
set_option maxHeartbeats 3200000 in
theorem wmax_any (lo hi : Int) (b B : Nat) (v : Value) (l : List Int) (w : World) (rlo : R64 lo) (rhi : R64 hi) (h : Wr.Wst B b w v l) (hl : l.length ≤ 60000000000000) (hB : B ≤ w.heap.size) :
    Calls Try.prog 27 #[.pointer (some ⟨b, 0, none⟩), .agg #[.int .i64 2, .int .i64 lo, .int .i64 hi, .slice none 0 0, .slice none 0 0, .slice none 0 0]] w fun e w' => e = .returned (.tuple #[]) ∧ ∃ v', Wr.Wst B b w' v' (l ++ Wr.enc 2 ++ Wr.enc (Wr.zig lo) ++ Wr.enc (Wr.zig hi)) ∧ Wr.Kept (fun k => k = b ∨ v.ownBlock = some k) w w' := by
  have HW : Hid (Wr.Wst B b (w.alloc (.cells #[.int .i64 2, .int .i64 lo, .int .i64 hi, .slice none 0 0, .slice none 0 0, .slice none 0 0] 26)) v l) := hid_of (h.alloc _)
  have hb := lt_of_block h.blk
  have hbx : ∀ w', Wr.Kept (fun k => k = b ∨ v.ownBlock = some k) (w.alloc (.cells #[.int .i64 2, .int .i64 lo, .int .i64 hi, .slice none 0 0, .slice none 0 0, .slice none 0 0] 26)) w' → w'.cell? ⟨w.heap.size, 0, none⟩ = some (.int .i64 2) ∧ w'.cell? ⟨w.heap.size, 1, none⟩ = some (.int .i64 lo) ∧ w'.cell? ⟨w.heap.size, 2, none⟩ = some (.int .i64 hi) := fun w' hk => by
    have e := (hk.block w.heap.size (by simp) (fun hs => by
      rcases hs with hs | hs
      · omega
      · have := (h.own.lt _ hs).2; omega)).trans (heap_alloc_new w (.cells [.int .i64 2, .int .i64 lo, .int .i64 hi, .slice none 0 0, .slice none 0 0, .slice none 0 0].toArray 26 (0, 0)))
    exact ⟨cell_blk e rfl, cell_blk e rfl, cell_blk e rfl⟩
  have HBX := hid_of hbx
  have HB := hid_of hB
  have HL := hid_of hl
  have l1 : Hid ((Wr.enc 2).length ≤ 10) := hid_of (Wr.enc_length_10 2 (by omega))
  have l2 : Hid ((Wr.enc (Wr.zig lo)).length ≤ 10) := hid_of (Wr.enc_length_10 _ (Wr.zig_lt lo rlo.1 rlo.2))
  have C0 := hid_of (show Calls Try.prog 49 #[.pointer (some ⟨b, 0, none⟩), .int .u64 2] _ _ from Wr.uint_any 2 b B v l (w.alloc (.cells #[.int .i64 2, .int .i64 lo, .int .i64 hi, .slice none 0 0, .slice none 0 0, .slice none 0 0] 26)) (by omega) HW.out (by omega) (by simp; omega))
  clear hbx hb h hl hB
  go_enter Try.func27, Try.ntmps27
  go_wp2_with (first
    | (go_at_call 49; ((with_reducible refine (C0.out).mono ?_); (rintro e w1 ⟨rfl, v1, h1, k1, o1⟩); have W1 := hid_of h1; have K1 := hid_of k1; have O1 := hid_of o1; have C1 := hid_of (Wr.int_any lo b B v1 _ w1 rlo.1 rlo.2 h1 (by rw [List.length_append]; have := HL.out; have := l1.out; omega) (Nat.le_trans HB.out (Nat.le_trans (by simp) k1.size))); obtain ⟨p0, p1, p2⟩ := HBX.out w1 k1; clear h1 k1 o1))
    | (go_at_call 50; ((with_reducible refine (C1.out).mono ?_)); rintro e w2 ⟨rfl, v2, h1, k1, o1⟩; have W2 := hid_of h1; have K2 := hid_of (Wr.kept_two K1.out k1 O1.out); have O2 := hid_of (Wr.own_two K1.out.size O1.out o1); have C2 := hid_of (Wr.int_any hi b B v2 _ w2 rhi.1 rhi.2 h1 (by rw [List.length_append, List.length_append]; have := HL.out; have := l1.out; have := l2.out; omega) (Nat.le_trans HB.out (Nat.le_trans (by simp) K2.out.size))); obtain ⟨q0, q1, q2⟩ := HBX.out w2 K2.out; clear h1 k1 o1 p0 p1 p2)
    | (go_at_call 50; ((with_reducible refine (C2.out).mono ?_)); rintro e w3 ⟨rfl, v3, h1, k1, o1⟩; have W3 := hid_of h1; have K3 := hid_of (Wr.kept_two K2.out k1 O2.out); clear h1 k1 o1 q0 q1 q2))
  go_end0
  exact ⟨rfl, v3, W3.out, K3.out.of_alloc⟩
set_option maxRecDepth 100000 in
set_option maxHeartbeats 3200000 in
theorem encmax_any (lo hi : Int) (t : Lat) (ht : t = ⟨2, lo, hi, [], [], []⟩) (hok : chkL t = 0) (w : World) (rlo : R64 lo) (rhi : R64 hi) (M : List Int) (hM : M = Wr.enc 2 ++ Wr.enc (Wr.zig lo) ++ Wr.enc (Wr.zig hi)) :
    Calls Try.prog 10 #[.agg #[.int .i64 2, .int .i64 lo, .int .i64 hi, .slice none 0 0, .slice none 0 0, .slice none 0 0]] w fun e w' => ∃ g, e = .returned (.slice (some ⟨g, 0, none⟩) M.length M.length) ∧ w'.heap[g]? = some (.cells (Wr.bs M).toArray 5 (0, 0)) ∧ Below w.heap.size w w' ∧ w.heap.size ≤ g := by
  have HO : ∀ w, LO w 2 lo hi none 0 0 none 0 0 none 0 0 t := fun w => by
    subst ht
    exact ⟨rfl, rfl, rfl, ⟨by omega, by omega⟩, rlo, rhi, ⟨none, 0, rfl, Nat.le_refl _, by omega, fun h => by simp [ss, Lat.ns] at h⟩, by intro y hy; simp [Lat.ns] at hy, rfl, lds_nil w, rfl, rur_nil w, by intro y hy; simp [Lat.rs] at hy, rfl⟩
  have HBW := hid_of (bel_alloc w (.cells #[.int .i64 2, .int .i64 lo, .int .i64 hi, .slice none 0 0, .slice none 0 0, .slice none 0 0] 26))
  have CH := hid_of (check_any t 2 lo hi none 0 0 none 0 0 none 0 0 (w.alloc (.cells #[.int .i64 2, .int .i64 lo, .int .i64 hi, .slice none 0 0, .slice none 0 0, .slice none 0 0] 26)) (HO _))
  rw [hok] at CH
  have HC : Hid (∀ w', Below (w.alloc (.cells #[.int .i64 2, .int .i64 lo, .int .i64 hi, .slice none 0 0, .slice none 0 0, .slice none 0 0] 26)).heap.size (w.alloc (.cells #[.int .i64 2, .int .i64 lo, .int .i64 hi, .slice none 0 0, .slice none 0 0, .slice none 0 0] 26)) w' → _) := hid_of (fun w' h => box6 2 lo hi none 0 0 none 0 0 none 0 0 h)
  have l1 := Wr.enc_length_10 2 (by omega)
  have l2 := Wr.enc_length_10 _ (Wr.zig_lt lo rlo.1 rlo.2)
  have l3 := Wr.enc_length_10 _ (Wr.zig_lt hi rhi.1 rhi.2)
  have hML : M.length ≤ 30 := by rw [hM, List.length_append, List.length_append]; omega
  have HML := hid_of hML
  have WM : Hid (∀ w2 : World, Calls Try.prog 27 #[.pointer (some ⟨w2.heap.size, 0, none⟩), .agg #[.int .i64 2, .int .i64 lo, .int .i64 hi, .slice none 0 0, .slice none 0 0, .slice none 0 0]] (w2.alloc (.cells #[.slice none 0 0] 52)) fun e w' => e = .returned (.tuple #[]) ∧ ∃ v', Wr.Wst w2.heap.size w2.heap.size w' v' M ∧ Below w2.heap.size w2 w') := hid_of (fun w2 => by
    have hw : Wr.Wst w2.heap.size w2.heap.size (w2.alloc (.cells #[.slice none 0 0] 52)) (.slice none 0 0) [] := ⟨heap_alloc_new _ _, World.ownsRow_nil _ _ _ _⟩
    refine (wmax_any lo hi w2.heap.size w2.heap.size (.slice none 0 0) [] (w2.alloc (.cells #[.slice none 0 0] 52)) rlo rhi hw (by simp) (by simp)).mono ?_
    rintro e w' ⟨rfl, v', h1, h2⟩
    refine ⟨rfl, v', by rw [hM]; exact h1, (bel_alloc w2 (.cells #[.slice none 0 0] 52)).trans ?_⟩
    refine h2.below (by simp) (fun k hk => ?_)
    rcases hk with hk | hk
    · omega
    · cases hk)
  clear hM HO l1 l2 l3 hML
  go_enter Try.func10, Try.ntmps10
  go_wp2_with (first
    | (go_at_call 6; ((with_reducible refine (CH.out).mono ?_); (rintro e w2 ⟨rfl, h2⟩); (have H2 := hid_of h2); (obtain ⟨p0, p1, p2, p3, p4, p5⟩ := HC.out (w2.alloc (.cells #[.slice none 0 0] 52)) (h2.alloc h2.size _)); clear h2))
    | (go_at_call 27; ((with_reducible refine (WM.out w2).mono ?_); (rintro e w3 ⟨rfl, v3, h3, h4⟩); (have W3 := hid_of h3); (have H4 := hid_of h4); (have DT := hid_of (Wr.data_any w2.heap.size w2.heap.size v3 M w3 h3 (by have := HML.out; omega))); clear h3 h4))
    | (go_at_call 28; ((with_reducible refine (DT.out).mono ?_); (rintro e w4 ⟨rfl, h3, h4⟩); (have R4 := hid_of h3); (have H5 := hid_of h4); clear h3 h4)))
  go_ret
  have hx2 : Below w.heap.size w w2 := HBW.out.trans (H2.out.mono HBW.out.size)
  have hx3 : Below w.heap.size w w3 := hx2.trans (H4.out.mono hx2.size)
  exact ⟨_, rfl, R4.out, hx3.trans (H5.out.mono hx3.size), hx3.size⟩
end Go.Proofs.Ytdmonbcinlmljaa

/- read of package lattice, of a description of the kind Max. Bounds on sizes alone. -/
namespace Go.Proofs.Ytdmonbcinlmljaa
open Go.RowKit

theorem wk_blk {S : Nat → Prop} {w w' : World} (h : Wr.Kept S w w') (k : Nat) (hk : k < w.heap.size) (hs : ¬ S k) : w'.heap[k]? = w.heap[k]? := h.block k hk hs
theorem fr_blk {w : World} {b : Nat} {cs : List Value} {E : TypeId} (hb : w.heap[b]? = some (.cells cs.toArray E (0, 0))) (j : Nat) : w.frozen? ⟨b, j, none⟩ = false := by
  simp [World.frozen?, hb]
theorem set_blk {w : World} {b k a : Nat} {v : Value} (p : Nat) (hne : a ≠ b) : (w.setCell ⟨a, k, none⟩ v).heap[b]? = w.heap[b]? := Below.heap_setCell w ⟨a, k, none⟩ v b (fun h => hne h.symm)
set_option maxRecDepth 100000 in
set_option maxHeartbeats 3200000 in
theorem readmax_any (b g k1 k2 k3 n1 n2 : Nat) (d : List Int) (w : World) (h : Wr.Rst w b g d 0 0 0) (h1 : Wr.dec (d.drop 0) = some (2, k1)) (h2 : Wr.dec (d.drop (0 + k1)) = some (n1, k2)) (h3 : Wr.dec (d.drop (0 + k1 + k2)) = some (n2, k3)) :
    Calls Try.prog 30 #[.pointer (some ⟨b, 0, none⟩), .int .i64 1] w fun e w' => e = .returned (.agg #[.int .i64 2, .int .i64 (Wr.unzig n1), .int .i64 (Wr.unzig n2), .slice none 0 0, .slice none 0 0, .slice none 0 0]) ∧ Wr.Rst w' b g d (0 + k1 + k2 + k3) (0 + k1 + k2) 0 ∧ Wr.Kept (fun k => k = b) w w' := by
  have hgb := h.gne
  have hb := h.blt
  have hg := h.glt
  have HB := hid_of hb
  have HG := hid_of hg
  have R0 : Hid (Wr.Rst (w.alloc (.cells [.int .i64 0, .int .i64 0, .int .i64 0, .slice none 0 0, .slice none 0 0, .slice none 0 0].toArray 26 (0, 0))) b g d 0 0 0) := hid_of (h.same ((bel_alloc w _).block b hb) ((bel_alloc w _).block g hg))
  have C0 := hid_of (show Calls Try.prog 54 #[.pointer (some ⟨b, 0, none⟩)] (w.alloc (.cells #[.int .i64 0, .int .i64 0, .int .i64 0, .slice none 0 0, .slice none 0 0, .slice none 0 0] 26 (0, 0))) (fun e w' => e = .returned (.int .u64 2) ∧ Wr.RTo (w.alloc (.cells [.int .i64 0, .int .i64 0, .int .i64 0, .slice none 0 0, .slice none 0 0, .slice none 0 0].toArray 26 (0, 0))) w' b g d (0 + k1) 0 0) from Wr.ruint_ok b g 0 0 2 k1 d _ R0.out h1)
  -- what stands behind the first call
  have S1 : Hid (∀ w1 : World, Wr.RTo (w.alloc (.cells [.int .i64 0, .int .i64 0, .int .i64 0, .slice none 0 0, .slice none 0 0, .slice none 0 0].toArray 26 (0, 0))) w1 b g d (0 + k1) 0 0 → w1.heap.size = w.heap.size + 1 ∧ w1.heap[w.heap.size]? = some (.cells [.int .i64 0, .int .i64 0, .int .i64 0, .slice none 0 0, .slice none 0 0, .slice none 0 0].toArray 26 (0, 0)) ∧ Wr.Kept (fun k => k = b) w w1 ∧ Wr.Rst (w1.alloc (.cells [.int .i64 2, .int .i64 0, .int .i64 0, .slice none 0 0, .slice none 0 0, .slice none 0 0].toArray 26 (0, 0))) b g d (0 + k1) 0 0) := hid_of (fun w1 h => by
    obtain ⟨q1, q2, q3⟩ := h
    have hs : (w.alloc (.cells [.int .i64 0, .int .i64 0, .int .i64 0, .slice none 0 0, .slice none 0 0, .slice none 0 0].toArray 26 (0, 0))).heap.size = w.heap.size + 1 := by simp
    refine ⟨by rw [q3, hs], (q2.block w.heap.size (by rw [hs]; omega) (by omega)).trans (heap_alloc_new w _), q2.of_alloc, ?_⟩
    exact q1.same ((bel_alloc w1 _).block b q1.blt) ((bel_alloc w1 _).block g q1.glt))
  have S2 : Hid (∀ w1 w2 : World, w1.heap.size = w.heap.size + 1 → w1.heap[w.heap.size]? = some (.cells [.int .i64 0, .int .i64 0, .int .i64 0, .slice none 0 0, .slice none 0 0, .slice none 0 0].toArray 26 (0, 0)) → Wr.RTo (w1.alloc (.cells [.int .i64 2, .int .i64 0, .int .i64 0, .slice none 0 0, .slice none 0 0, .slice none 0 0].toArray 26 (0, 0))) w2 b g d (0 + k1 + k2) (0 + k1) 0 → w2.heap.size = w.heap.size + 2 ∧ w2.heap[w.heap.size]? = some (.cells [.int .i64 0, .int .i64 0, .int .i64 0, .slice none 0 0, .slice none 0 0, .slice none 0 0].toArray 26 (0, 0)) ∧ w2.heap[w1.heap.size]? = some (.cells [.int .i64 2, .int .i64 0, .int .i64 0, .slice none 0 0, .slice none 0 0, .slice none 0 0].toArray 26 (0, 0)) ∧ Wr.Kept (fun k => k = b) w1 w2 ∧
      Wr.Rst (w2.setCell ⟨w1.heap.size, 1, none⟩ (.int .i64 (Wr.unzig n1))) b g d (0 + k1 + k2) (0 + k1) 0 ∧ (w2.setCell ⟨w1.heap.size, 1, none⟩ (.int .i64 (Wr.unzig n1))).heap[w.heap.size]? = some (.cells [.int .i64 0, .int .i64 0, .int .i64 0, .slice none 0 0, .slice none 0 0, .slice none 0 0].toArray 26 (0, 0)) ∧ (w2.setCell ⟨w1.heap.size, 1, none⟩ (.int .i64 (Wr.unzig n1))).heap[w1.heap.size]? = some (.cells [.int .i64 2, .int .i64 (Wr.unzig n1), .int .i64 0, .slice none 0 0, .slice none 0 0, .slice none 0 0].toArray 26 (0, 0))) := hid_of (fun w1 w2 hs hz h => by
    obtain ⟨q1, q2, q3⟩ := h
    have hs2 : (w1.alloc (.cells [.int .i64 2, .int .i64 0, .int .i64 0, .slice none 0 0, .slice none 0 0, .slice none 0 0].toArray 26 (0, 0))).heap.size = w1.heap.size + 1 := by simp
    have e1 : w2.heap[w.heap.size]? = some (.cells [.int .i64 0, .int .i64 0, .int .i64 0, .slice none 0 0, .slice none 0 0, .slice none 0 0].toArray 26 (0, 0)) := (q2.block w.heap.size (by rw [hs2]; omega) (by omega)).trans (((bel_alloc w1 _).block _ (by omega)).trans hz)
    have e2 : w2.heap[w1.heap.size]? = some (.cells [.int .i64 2, .int .i64 0, .int .i64 0, .slice none 0 0, .slice none 0 0, .slice none 0 0].toArray 26 (0, 0)) := (q2.block w1.heap.size (by rw [hs2]; omega) (by omega)).trans (heap_alloc_new w1 _)
    refine ⟨by rw [q3, hs2, hs], e1, e2, q2.of_alloc, ?_, ?_, ?_⟩
    · exact q1.same (set_blk 0 (by omega)) (set_blk 0 (by omega))
    · exact (set_blk 0 (by omega)).trans e1
    · exact Go.Proofs.Ytdmonbcinlmljaa.blk_setCell (k := 1) e2)
  have S3 : Hid (∀ w1 w2 w3 : World, w1.heap.size = w.heap.size + 1 → w2.heap.size = w.heap.size + 2 → (w2.setCell ⟨w1.heap.size, 1, none⟩ (.int .i64 (Wr.unzig n1))).heap[w.heap.size]? = some (.cells [.int .i64 0, .int .i64 0, .int .i64 0, .slice none 0 0, .slice none 0 0, .slice none 0 0].toArray 26 (0, 0)) → (w2.setCell ⟨w1.heap.size, 1, none⟩ (.int .i64 (Wr.unzig n1))).heap[w1.heap.size]? = some (.cells [.int .i64 2, .int .i64 (Wr.unzig n1), .int .i64 0, .slice none 0 0, .slice none 0 0, .slice none 0 0].toArray 26 (0, 0)) → Wr.RTo (w2.setCell ⟨w1.heap.size, 1, none⟩ (.int .i64 (Wr.unzig n1))) w3 b g d (0 + k1 + k2 + k3) (0 + k1 + k2) 0 →
      w3.heap[w.heap.size]? = some (.cells [.int .i64 0, .int .i64 0, .int .i64 0, .slice none 0 0, .slice none 0 0, .slice none 0 0].toArray 26 (0, 0)) ∧ w3.heap[w1.heap.size]? = some (.cells [.int .i64 2, .int .i64 (Wr.unzig n1), .int .i64 0, .slice none 0 0, .slice none 0 0, .slice none 0 0].toArray 26 (0, 0)) ∧ Wr.Kept (fun k => k = b ∨ k = w1.heap.size) w2 w3 ∧
      Wr.Rst (w3.setCell ⟨w1.heap.size, 2, none⟩ (.int .i64 (Wr.unzig n2))) b g d (0 + k1 + k2 + k3) (0 + k1 + k2) 0 ∧ (w3.setCell ⟨w1.heap.size, 2, none⟩ (.int .i64 (Wr.unzig n2))).heap[w.heap.size]? = some (.cells [.int .i64 0, .int .i64 0, .int .i64 0, .slice none 0 0, .slice none 0 0, .slice none 0 0].toArray 26 (0, 0)) ∧ (w3.setCell ⟨w1.heap.size, 2, none⟩ (.int .i64 (Wr.unzig n2))).heap[w1.heap.size]? = some (.cells [.int .i64 2, .int .i64 (Wr.unzig n1), .int .i64 (Wr.unzig n2), .slice none 0 0, .slice none 0 0, .slice none 0 0].toArray 26 (0, 0))) := hid_of (fun w1 w2 w3 hs hs2 hz hl h => by
    obtain ⟨q1, q2, q3⟩ := h
    have hss : (w2.setCell ⟨w1.heap.size, 1, none⟩ (.int .i64 (Wr.unzig n1))).heap.size = w2.heap.size := by simp
    have e1 : w3.heap[w.heap.size]? = some (.cells [.int .i64 0, .int .i64 0, .int .i64 0, .slice none 0 0, .slice none 0 0, .slice none 0 0].toArray 26 (0, 0)) := (q2.block w.heap.size (by rw [hss]; omega) (by omega)).trans hz
    have e2 : w3.heap[w1.heap.size]? = some (.cells [.int .i64 2, .int .i64 (Wr.unzig n1), .int .i64 0, .slice none 0 0, .slice none 0 0, .slice none 0 0].toArray 26 (0, 0)) := (q2.block w1.heap.size (by rw [hss]; omega) (by omega)).trans hl
    refine ⟨e1, e2, ?_, ?_, ?_, ?_⟩
    · exact ⟨q2.os, q2.tape, q2.output, by rw [← hss]; exact q2.size, fun k hk hn => (q2.block k (by rw [hss]; exact hk) (fun e => hn (.inl e))).trans (set_blk 0 (fun e => hn (.inr e.symm)))⟩
    · exact q1.same (set_blk 0 (by omega)) (set_blk 0 (by omega))
    · exact (set_blk 0 (by omega)).trans e1
    · exact Go.Proofs.Ytdmonbcinlmljaa.blk_setCell (k := 2) e2)
  have LX1 : Hid ((#[.int .i64 2, .int .i64 (Wr.unzig n1), .int .i64 (Wr.unzig n2), .slice none 0 0, .slice none 0 0, .slice none 0 0] : Array Value).all (·.oneCell') = true) := hid_of (by simp [Value.oneCell'])
  have H2 := hid_of h2
  have H3 := hid_of h3
  clear h h1 h2 h3 hb hg hgb
  go_enter Try.func30, Try.ntmps30
  go_wp2_with (first
    | (go_at_call 54; ((with_reducible refine (C0.out).mono ?_); (rintro e w1 ⟨rfl, r1⟩); (have R1 := hid_of (S1.out w1 r1)); (have C1 := hid_of (Wr.rint_ok b g _ _ n1 k2 d _ R1.out.2.2.2 H2.out)); clear r1))
    | (go_at_call 56; ((with_reducible refine (C1.out).mono ?_); (rintro e w2 ⟨rfl, r1⟩); (have R2 := hid_of (S2.out w1 w2 R1.out.1 R1.out.2.1 r1)); (have s1 := cell_blk R2.out.2.2.1 (j := 1) rfl); (have s2 := fr_blk R2.out.2.2.1 1); (have C2 := hid_of (Wr.rint_ok b g _ _ n2 k3 d _ R2.out.2.2.2.2.1 H3.out)); clear r1))
    | (go_at_call 56; ((with_reducible refine (C2.out).mono ?_); (rintro e w3 ⟨rfl, r1⟩); (have R3 := hid_of (S3.out w1 w2 w3 R1.out.1 R2.out.1 R2.out.2.2.2.2.2.1 R2.out.2.2.2.2.2.2 r1)); (have t1 := cell_blk R3.out.2.1 (j := 2) rfl); (have t2 := fr_blk R3.out.2.1 2); (have y0 := cell_blk R3.out.2.2.2.2.2 (j := 0) rfl); (have y1 := cell_blk R3.out.2.2.2.2.2 (j := 1) rfl); (have y2 := cell_blk R3.out.2.2.2.2.2 (j := 2) rfl); (have y3 := cell_blk R3.out.2.2.2.2.2 (j := 3) rfl); (have y4 := cell_blk R3.out.2.2.2.2.2 (j := 4) rfl); (have y5 := cell_blk R3.out.2.2.2.2.2 (j := 5) rfl); clear r1 s1 s2))
    | (refine wpList_store_row rfl 26 (.tmp 4) (.tmp 108) rfl w.heap.size #[.int .i64 2, .int .i64 (Wr.unzig n1), .int .i64 (Wr.unzig n2), .slice none 0 0, .slice none 0 0, .slice none 0 0] rfl rfl 26 _ R3.out.2.2.2.2.1 infoLat rfl LX1.out ?_))
  refine bodyPost_ret (results_cell_row rfl _ _ w.heap.size 26 #[.int .i64 2, .int .i64 (Wr.unzig n1), .int .i64 (Wr.unzig n2), .slice none 0 0, .slice none 0 0, .slice none 0 0] (0, 0) _ rfl (setRow_heap _ _ _ _ _ _ R3.out.2.2.2.2.1) Try.underlying26 rfl infoLat) rfl ⟨rfl, ?_, ?_⟩
  · exact R3.out.2.2.2.1.same (setRow_other _ _ _ _ (by have := HB.out; omega)) (setRow_other _ _ _ _ (by have := HG.out; omega))
  · have a1 := R1.out.2.2.1
    have a2 := R2.out.2.2.2.1
    have a3 := R3.out.2.2.1
    have z1 := R1.out.1
    have z2 := R2.out.1
    refine ⟨a3.os.trans (a2.os.trans a1.os), a3.tape.trans (a2.tape.trans a1.tape), a3.output.trans (a2.output.trans a1.output), ?_, fun k hk hn => ?_⟩
    · have := a3.size
      simp [World.setRow]
      omega
    · rw [setRow_other _ _ _ _ (by omega)]
      exact (set_blk 0 (by omega)).trans ((a3.block k (by omega) (by omega)).trans ((a2.block k (by omega) hn).trans (a1.block k hk hn)))
end Go.Proofs.Ytdmonbcinlmljaa

/- Decode of package lattice, of a description of the kind Max. Bounds on sizes alone. -/
namespace Go.Proofs.Ytdmonbcinlmljaa
open Go.RowKit

theorem lo_leaf (k lo hi : Int) (rk : R64 k) (rlo : R64 lo) (rhi : R64 hi) (w : World) : LO w k lo hi none 0 0 none 0 0 none 0 0 ⟨k, lo, hi, [], [], []⟩ :=
  ⟨rfl, rfl, rfl, rk, rlo, rhi, ⟨none, 0, rfl, Nat.le_refl _, by omega, fun h => by simp [ss, Lat.ns] at h⟩, by intro y hy; simp [Lat.ns] at hy, rfl, lds_nil w, rfl, rur_nil w, by intro y hy; simp [Lat.rs] at hy, rfl⟩
set_option maxRecDepth 100000 in
set_option maxHeartbeats 3200000 in
theorem decmax_any (ao : Option Addr) (cap k1 k2 k3 n1 n2 : Nat) (d : List Int) (w : World) (hr : ∀ x ∈ d, 0 ≤ x ∧ x ≤ 255) (hl : d.length ≤ 140737488351232)
    (hpos : 0 < d.length → ∃ ad, ao = some ad ∧ ∀ w', Below w.heap.size w w' → ∀ j v, (Wr.bs d)[j]? = some v → w'.cell? (ad.add j) = some v)
    (h1 : Wr.dec (d.drop 0) = some (2, k1)) (h2 : Wr.dec (d.drop (0 + k1)) = some (n1, k2)) (h3 : Wr.dec (d.drop (0 + k1 + k2)) = some (n2, k3)) (hend : 0 + k1 + k2 + k3 = d.length)
    (r1 : R64 (Wr.unzig n1)) (r2 : R64 (Wr.unzig n2)) (hok : chkL ⟨2, Wr.unzig n1, Wr.unzig n2, [], [], []⟩ = 0) :
    Calls Try.prog 11 #[.slice ao d.length cap] w fun e w' => e = .returned (.tuple #[.agg #[.int .i64 2, .int .i64 (Wr.unzig n1), .int .i64 (Wr.unzig n2), .slice none 0 0, .slice none 0 0, .slice none 0 0], .int .i64 0]) ∧ Below w.heap.size w w' := by
  have HBW := hid_of (bel_alloc w (.cells #[.int .i64 0, .int .i64 0, .int .i64 0, .slice none 0 0, .slice none 0 0, .slice none 0 0] 26))
  have NR := hid_of (Wr.newReader_any ao d cap (w.alloc (.cells #[.int .i64 0, .int .i64 0, .int .i64 0, .slice none 0 0, .slice none 0 0, .slice none 0 0] 26)) hr hl (fun h0 => by obtain ⟨ad, e, hc⟩ := hpos h0; exact ⟨ad, e, hc _ HBW.out⟩))
  have RD : Hid (∀ b g w2, Wr.Rst w2 b g d 0 0 0 → Calls Try.prog 30 #[.pointer (some ⟨b, 0, none⟩), .int .i64 1] w2 fun e w' => e = .returned (.agg #[.int .i64 2, .int .i64 (Wr.unzig n1), .int .i64 (Wr.unzig n2), .slice none 0 0, .slice none 0 0, .slice none 0 0]) ∧ Wr.Rst w' b g d d.length (0 + k1 + k2) 0 ∧ Wr.Kept (fun k => k = b) w2 w') := hid_of (fun b g w2 h => by
    have := readmax_any b g k1 k2 k3 n1 n2 d w2 h h1 h2 h3
    rw [hend] at this
    exact this)
  have EN : Hid (∀ b g last w2, Wr.Rst w2 b g d d.length last 0 → Calls Try.prog 31 #[.pointer (some ⟨b, 0, none⟩)] w2 fun e w' => e = .returned (.int .i64 0) ∧ ∃ m, w' = w2.drewN m) := hid_of (fun b g last w2 h => Wr.end_ok b g d.length last d w2 h rfl)
  have CH : Hid (∀ w2, Calls Try.prog 6 #[.agg #[.int .i64 2, .int .i64 (Wr.unzig n1), .int .i64 (Wr.unzig n2), .slice none 0 0, .slice none 0 0, .slice none 0 0]] w2 (ErP 0 w2)) := hid_of (fun w2 => by
    have := check_any _ 2 (Wr.unzig n1) (Wr.unzig n2) none 0 0 none 0 0 none 0 0 w2 (lo_leaf 2 _ _ ⟨by omega, by omega⟩ r1 r2 w2)
    rwa [hok] at this)
  have LX1 : Hid ((#[.int .i64 2, .int .i64 (Wr.unzig n1), .int .i64 (Wr.unzig n2), .slice none 0 0, .slice none 0 0, .slice none 0 0] : Array Value).all (·.oneCell') = true) := hid_of (by simp [Value.oneCell'])
  clear hr hpos h1 h2 h3 hend r1 r2 hok
  go_enter Try.func11, Try.ntmps11
  go_wp2_with (first
    | (go_at_call 29; ((with_reducible refine (NR.out).mono ?_); (rintro e w1 ⟨b, g, rfl, q1, q2, q3, q4⟩); (have R1 := hid_of q1); (have B1 := hid_of q2); (have B3 := hid_of q3); (have Z1 : Hid (w1.heap[w.heap.size]? = some (.cells [.int .i64 0, .int .i64 0, .int .i64 0, .slice none 0 0, .slice none 0 0, .slice none 0 0].toArray 26 (0, 0))) := hid_of ((q2.block _ (by simp)).trans (heap_alloc_new w _))); clear q1 q2 q3 q4))
    | (go_at_call 30; ((with_reducible refine (RD.out b g w1 R1.out).mono ?_); (rintro e w2 ⟨rfl, q1, q2⟩); (have R2 := hid_of q1); (have K2 := hid_of q2); clear q1 q2))
    | (go_at_call 31; ((with_reducible refine (EN.out b g (0 + k1 + k2) (w2.alloc (.cells #[.int .i64 2, .int .i64 (Wr.unzig n1), .int .i64 (Wr.unzig n2), .slice none 0 0, .slice none 0 0, .slice none 0 0] 26)) (R2.out.same ((bel_alloc w2 _).block _ R2.out.blt) ((bel_alloc w2 _).block _ R2.out.glt))).mono ?_); (rintro e w3 ⟨rfl, m, rfl⟩)))
    | (go_at_call 6; ((with_reducible refine (CH.out _).mono ?_); (rintro e w4 ⟨rfl, q1⟩); (have B4 : Hid (Below (w2.alloc (.cells #[.int .i64 2, .int .i64 (Wr.unzig n1), .int .i64 (Wr.unzig n2), .slice none 0 0, .slice none 0 0, .slice none 0 0] 26)).heap.size (w2.alloc (.cells #[.int .i64 2, .int .i64 (Wr.unzig n1), .int .i64 (Wr.unzig n2), .slice none 0 0, .slice none 0 0, .slice none 0 0] 26)) w4) := hid_of ⟨q1.os, q1.tape, q1.output, q1.size, q1.block⟩); (have Z4 : Hid (w4.heap[w.heap.size]? = some (.cells [.int .i64 0, .int .i64 0, .int .i64 0, .slice none 0 0, .slice none 0 0, .slice none 0 0].toArray 26 (0, 0))) := hid_of ((B4.out.block _ (by have := K2.out.size; have := B1.out.size; simp at *; omega)).trans (((bel_alloc w2 _).block _ (by have := K2.out.size; have := B1.out.size; simp at *; omega)).trans ((K2.out.block _ (by have := B1.out.size; simp at *; omega) (by have := B3.out; simp at *; omega)).trans Z1.out)))); (obtain ⟨y0, y1, y2, y3, y4, y5⟩ := box6 2 (Wr.unzig n1) (Wr.unzig n2) none 0 0 none 0 0 none 0 0 B4.out); clear q1))
    | (refine wpList_store_row rfl 26 (.tmp 2) (.tmp 19) rfl w.heap.size #[.int .i64 2, .int .i64 (Wr.unzig n1), .int .i64 (Wr.unzig n2), .slice none 0 0, .slice none 0 0, .slice none 0 0] rfl rfl 26 _ Z4.out infoLat rfl LX1.out ?_))
  refine bodyPost_ret (res_ct rfl w.heap.size rfl (setRow_heap _ _ _ #[.int .i64 2, .int .i64 (Wr.unzig n1), .int .i64 (Wr.unzig n2), .slice none 0 0, .slice none 0 0, .slice none 0 0] _ _ Z4.out) Try.underlying26 rfl infoLat) rfl ⟨rfl, ?_⟩
  have x1 : Below w.heap.size w w1 := HBW.out.trans (B1.out.mono (by simp))
  have x2 : Below w.heap.size w w2 := x1.trans ⟨K2.out.os, K2.out.tape, K2.out.output, K2.out.size, fun k hk => K2.out.block k (by have := x1.size; omega) (by have := B3.out; simp at this; omega)⟩
  exact below_setRow ((x2.trans ((bel_alloc w2 _).mono x2.size)).trans (B4.out.mono (by have := x2.size; simp; omega))) (Nat.le_refl _) _
end Go.Proofs.Ytdmonbcinlmljaa

/- The examples of the chapter hold: awake. No condition. -/
namespace Go.Proofs.Ytdmonbcinlmljaa
open Go.RowKit

theorem pair_row {W : World} {g : Nat} (a b : LX) {ta tb : Lat} (hb : W.heap[g]? = some (.cells (a.q.cs ++ b.q.cs).toArray 26 (0, 0))) (ha : LD W a ta) (hb2 : LD W b tb) : LDs W (.slice (some ⟨g, 0, none⟩) 2 2) [ta, tb] := by
  refine ⟨[a, b], ⟨_, _, rfl, by simp, by simp, fun _ => ⟨g, 0, rfl, lt_of_block hb, fun i t ht => ?_⟩⟩, rfl, fun i y u hy hu => ?_⟩
  · match i, ht with
    | 0, ht =>
      simp only [List.map_cons, List.getElem?_cons_zero, Option.some.injEq] at ht
      subst ht
      exact ⟨cell_blk hb rfl, cell_blk hb rfl, cell_blk hb rfl, cell_blk hb rfl, cell_blk hb rfl, cell_blk hb rfl⟩
    | 1, ht =>
      simp only [List.map_cons, List.map_nil, List.getElem?_cons_succ, List.getElem?_cons_zero, Option.some.injEq] at ht
      subst ht
      exact ⟨cell_blk hb rfl, cell_blk hb rfl, cell_blk hb rfl, cell_blk hb rfl, cell_blk hb rfl, cell_blk hb rfl⟩
    | i + 2, ht => simp at ht
  · match i, hy, hu with
    | 0, hy, hu =>
      simp only [List.getElem?_cons_zero, Option.some.injEq] at hy hu
      subst hy hu
      exact ha
    | 1, hy, hu =>
      simp only [List.getElem?_cons_succ, List.getElem?_cons_zero, Option.some.injEq] at hy hu
      subst hy hu
      exact hb2
    | i + 2, hy, _ => simp at hy
theorem lex_row {W : World} {g : Nat} {t : Lat} {ts : List Lat} (hp : LDs W (.slice (some ⟨g, 0, none⟩) 2 2) ts) (ht : t = ⟨7, 0, 0, [], ts, []⟩) : LO W 7 0 0 none 0 0 (some ⟨g, 0, none⟩) 2 2 none 0 0 t := by
  subst ht
  exact ⟨rfl, rfl, rfl, ⟨by omega, by omega⟩, ⟨by omega, by omega⟩, ⟨by omega, by omega⟩, ⟨none, 0, rfl, Nat.le_refl _, by omega, fun h => by simp [ss, Lat.ns] at h⟩, by intro y hy; simp [Lat.ns] at hy, rfl, hp, hp.len.1, rur_nil W, by intro y hy; simp [Lat.rs] at hy, rfl⟩
def tn : Lat := ⟨2, 0, 9, [], [], []⟩
def ts : Lat := ⟨4, 0, 0, [], [], []⟩
def tx : Lat := ⟨7, 0, 0, [], [tn, ts], []⟩
def tl : Lat := ⟨7, 0, 0, [], [ts, tn], []⟩
theorem lo_n (w : World) : LO w 2 0 9 none 0 0 none 0 0 none 0 0 tn := lo_leaf 2 0 9 ⟨by omega, by omega⟩ ⟨by omega, by omega⟩ ⟨by omega, by omega⟩ w
theorem lo_s (w : World) : LO w 4 0 0 none 0 0 none 0 0 none 0 0 ts := lo_leaf 4 0 0 ⟨by omega, by omega⟩ ⟨by omega, by omega⟩ ⟨by omega, by omega⟩ w
theorem tn_ts : decide (tn = ts) = false := decide_eq_false (by intro h; cases h)
theorem seven_new (w : World) (o0 o1 o2 o3 o4 o5 o6 : Obj) : let W := (((((((w.alloc o0).alloc o1).alloc o2).alloc o3).alloc o4).alloc o5).alloc o6)
    W.heap.size = w.heap.size + 7 ∧ W.heap[w.heap.size]? = some o0 ∧ W.heap[w.heap.size + 1]? = some o1 ∧ W.heap[w.heap.size + 1 + 1]? = some o2 ∧ W.heap[w.heap.size + 1 + 1 + 1]? = some o3 ∧ W.heap[w.heap.size + 1 + 1 + 1 + 1]? = some o4 ∧ W.heap[w.heap.size + 1 + 1 + 1 + 1 + 1]? = some o5 ∧ W.heap[w.heap.size + 1 + 1 + 1 + 1 + 1 + 1]? = some o6 := by
  intro W
  have hs : W.heap.size = w.heap.size + 7 := by simp [W]
  obtain ⟨a0, a1, a2⟩ := three_new w o0 o1 o2
  obtain ⟨b0, b1, b2⟩ := three_new (((w.alloc o0).alloc o1).alloc o2) o3 o4 o5
  have hs3 : (((w.alloc o0).alloc o1).alloc o2).heap.size = w.heap.size + 1 + 1 + 1 := by simp
  have hs6 : ((((((w.alloc o0).alloc o1).alloc o2).alloc o3).alloc o4).alloc o5).heap.size = w.heap.size + 1 + 1 + 1 + 1 + 1 + 1 := by simp
  rw [hs3] at b0 b1 b2
  have c6 := heap_alloc_new ((((((w.alloc o0).alloc o1).alloc o2).alloc o3).alloc o4).alloc o5) o6
  rw [hs6] at c6
  have up : ∀ k, k < w.heap.size + 1 + 1 + 1 + 1 + 1 + 1 → W.heap[k]? = ((((((w.alloc o0).alloc o1).alloc o2).alloc o3).alloc o4).alloc o5).heap[k]? := fun k hk => (bel_alloc _ o6).block k (by rw [hs6]; exact hk)
  have up3 : ∀ k, k < w.heap.size + 1 + 1 + 1 → ((((((w.alloc o0).alloc o1).alloc o2).alloc o3).alloc o4).alloc o5).heap[k]? = (((w.alloc o0).alloc o1).alloc o2).heap[k]? := fun k hk =>
    ((bel_alloc _ o5).block k (by simp; omega)).trans (((bel_alloc _ o4).block k (by simp; omega)).trans ((bel_alloc _ o3).block k (by rw [hs3]; exact hk)))
  exact ⟨hs, (up _ (by omega)).trans ((up3 _ (by omega)).trans a0), (up _ (by omega)).trans ((up3 _ (by omega)).trans a1), (up _ (by omega)).trans ((up3 _ (by omega)).trans a2), (up _ (by omega)).trans b0, (up _ (by omega)).trans b1, (up _ (by omega)).trans b2, c6⟩
set_option maxRecDepth 100000 in
set_option maxHeartbeats 6400000 in
theorem awake_any (w : World) : Calls Try.prog 5 #[] w (BoP true w) := by
  have Z := seven_new w (.cells #[.int .i64 2, .int .i64 0, .int .i64 9, .slice none 0 0, .slice none 0 0, .slice none 0 0] 26) (.cells #[.int .i64 4, .int .i64 0, .int .i64 0, .slice none 0 0, .slice none 0 0, .slice none 0 0] 26) (.cells #[.int .i64 2, .int .i64 0, .int .i64 9, .slice none 0 0, .slice none 0 0, .slice none 0 0, .int .i64 4, .int .i64 0, .int .i64 0, .slice none 0 0, .slice none 0 0, .slice none 0 0] 26) (.cells #[.int .i64 7, .int .i64 0, .int .i64 0, .slice none 0 0, .slice (some ⟨w.heap.size + 1 + 1, 0, none⟩) 2 2, .slice none 0 0] 26) (.cells #[.string { data := #[98] }, .string { data := #[97] }] 9) (.cells #[.int .i64 1, .int .i64 0, .int .i64 0, .slice none 0 0, .slice none 0 0, .slice none 0 0, .int .i64 4, .int .i64 0, .int .i64 0, .slice none 0 0, .slice none 0 0, .slice none 0 0] 26) (.cells #[.int .i64 6, .int .i64 0, .int .i64 0, .slice (some ⟨w.heap.size + 1 + 1 + 1 + 1, 0, none⟩) 2 2, .slice (some ⟨w.heap.size + 1 + 1 + 1 + 1 + 1, 0, none⟩) 2 2, .slice none 0 0] 26)
  simp only at Z
  obtain ⟨zs, z0, z1, z2, z3, z4, z5, z6⟩ := Z
  have HBW : Hid (Below w.heap.size w (((((((w.alloc (.cells #[.int .i64 2, .int .i64 0, .int .i64 9, .slice none 0 0, .slice none 0 0, .slice none 0 0] 26)).alloc (.cells #[.int .i64 4, .int .i64 0, .int .i64 0, .slice none 0 0, .slice none 0 0, .slice none 0 0] 26)).alloc (.cells #[.int .i64 2, .int .i64 0, .int .i64 9, .slice none 0 0, .slice none 0 0, .slice none 0 0, .int .i64 4, .int .i64 0, .int .i64 0, .slice none 0 0, .slice none 0 0, .slice none 0 0] 26)).alloc (.cells #[.int .i64 7, .int .i64 0, .int .i64 0, .slice none 0 0, .slice (some ⟨w.heap.size + 1 + 1, 0, none⟩) 2 2, .slice none 0 0] 26)).alloc (.cells #[.string { data := #[98] }, .string { data := #[97] }] 9)).alloc (.cells #[.int .i64 1, .int .i64 0, .int .i64 0, .slice none 0 0, .slice none 0 0, .slice none 0 0, .int .i64 4, .int .i64 0, .int .i64 0, .slice none 0 0, .slice none 0 0, .slice none 0 0] 26)).alloc (.cells #[.int .i64 6, .int .i64 0, .int .i64 0, .slice (some ⟨w.heap.size + 1 + 1 + 1 + 1, 0, none⟩) 2 2, .slice (some ⟨w.heap.size + 1 + 1 + 1 + 1 + 1, 0, none⟩) 2 2, .slice none 0 0] 26))) := hid_of ⟨rfl, rfl, rfl, by rw [zs]; omega, fun k hk => by
    refine ((bel_alloc _ _).block k (by simp; omega)).trans (((bel_alloc _ _).block k (by simp; omega)).trans (((bel_alloc _ _).block k (by simp; omega)).trans (((bel_alloc _ _).block k (by simp; omega)).trans (((bel_alloc _ _).block k (by simp; omega)).trans (((bel_alloc _ _).block k (by simp; omega)).trans ((bel_alloc _ _).block k hk))))))⟩
  obtain ⟨W, hW⟩ : ∃ W, W = (((((((w.alloc (.cells #[.int .i64 2, .int .i64 0, .int .i64 9, .slice none 0 0, .slice none 0 0, .slice none 0 0] 26)).alloc (.cells #[.int .i64 4, .int .i64 0, .int .i64 0, .slice none 0 0, .slice none 0 0, .slice none 0 0] 26)).alloc (.cells #[.int .i64 2, .int .i64 0, .int .i64 9, .slice none 0 0, .slice none 0 0, .slice none 0 0, .int .i64 4, .int .i64 0, .int .i64 0, .slice none 0 0, .slice none 0 0, .slice none 0 0] 26)).alloc (.cells #[.int .i64 7, .int .i64 0, .int .i64 0, .slice none 0 0, .slice (some ⟨w.heap.size + 1 + 1, 0, none⟩) 2 2, .slice none 0 0] 26)).alloc (.cells #[.string { data := #[98] }, .string { data := #[97] }] 9)).alloc (.cells #[.int .i64 1, .int .i64 0, .int .i64 0, .slice none 0 0, .slice none 0 0, .slice none 0 0, .int .i64 4, .int .i64 0, .int .i64 0, .slice none 0 0, .slice none 0 0, .slice none 0 0] 26)).alloc (.cells #[.int .i64 6, .int .i64 0, .int .i64 0, .slice (some ⟨w.heap.size + 1 + 1 + 1 + 1, 0, none⟩) 2 2, .slice (some ⟨w.heap.size + 1 + 1 + 1 + 1 + 1, 0, none⟩) 2 2, .slice none 0 0] 26)) := ⟨_, rfl⟩
  have HW := hid_of hW
  rw [← hW] at zs z0 z1 z2 z3 z4 z5 z6 HBW
  have HN : Hid (∀ wz, Below W.heap.size W wz → wz.cell? ⟨w.heap.size, 0, none⟩ = some (.int .i64 2) ∧ wz.cell? ⟨w.heap.size, 1, none⟩ = some (.int .i64 0) ∧ wz.cell? ⟨w.heap.size, 2, none⟩ = some (.int .i64 9) ∧ wz.cell? ⟨w.heap.size, 3, none⟩ = some (.slice none 0 0) ∧ wz.cell? ⟨w.heap.size, 4, none⟩ = some (.slice none 0 0) ∧ wz.cell? ⟨w.heap.size, 5, none⟩ = some (.slice none 0 0)) := hid_of (fun wz hz => ⟨blk_kept (cs := [.int .i64 2, .int .i64 0, .int .i64 9, .slice none 0 0, .slice none 0 0, .slice none 0 0]) z0 hz rfl, blk_kept (cs := [.int .i64 2, .int .i64 0, .int .i64 9, .slice none 0 0, .slice none 0 0, .slice none 0 0]) z0 hz rfl, blk_kept (cs := [.int .i64 2, .int .i64 0, .int .i64 9, .slice none 0 0, .slice none 0 0, .slice none 0 0]) z0 hz rfl, blk_kept (cs := [.int .i64 2, .int .i64 0, .int .i64 9, .slice none 0 0, .slice none 0 0, .slice none 0 0]) z0 hz rfl, blk_kept (cs := [.int .i64 2, .int .i64 0, .int .i64 9, .slice none 0 0, .slice none 0 0, .slice none 0 0]) z0 hz rfl, blk_kept (cs := [.int .i64 2, .int .i64 0, .int .i64 9, .slice none 0 0, .slice none 0 0, .slice none 0 0]) z0 hz rfl⟩)
  have HS : Hid (∀ wz, Below W.heap.size W wz → wz.cell? ⟨w.heap.size + 1, 0, none⟩ = some (.int .i64 4) ∧ wz.cell? ⟨w.heap.size + 1, 1, none⟩ = some (.int .i64 0) ∧ wz.cell? ⟨w.heap.size + 1, 2, none⟩ = some (.int .i64 0) ∧ wz.cell? ⟨w.heap.size + 1, 3, none⟩ = some (.slice none 0 0) ∧ wz.cell? ⟨w.heap.size + 1, 4, none⟩ = some (.slice none 0 0) ∧ wz.cell? ⟨w.heap.size + 1, 5, none⟩ = some (.slice none 0 0)) := hid_of (fun wz hz => ⟨blk_kept (cs := [.int .i64 4, .int .i64 0, .int .i64 0, .slice none 0 0, .slice none 0 0, .slice none 0 0]) z1 hz rfl, blk_kept (cs := [.int .i64 4, .int .i64 0, .int .i64 0, .slice none 0 0, .slice none 0 0, .slice none 0 0]) z1 hz rfl, blk_kept (cs := [.int .i64 4, .int .i64 0, .int .i64 0, .slice none 0 0, .slice none 0 0, .slice none 0 0]) z1 hz rfl, blk_kept (cs := [.int .i64 4, .int .i64 0, .int .i64 0, .slice none 0 0, .slice none 0 0, .slice none 0 0]) z1 hz rfl, blk_kept (cs := [.int .i64 4, .int .i64 0, .int .i64 0, .slice none 0 0, .slice none 0 0, .slice none 0 0]) z1 hz rfl, blk_kept (cs := [.int .i64 4, .int .i64 0, .int .i64 0, .slice none 0 0, .slice none 0 0, .slice none 0 0]) z1 hz rfl⟩)
  have HX : Hid (∀ wz, Below W.heap.size W wz → wz.cell? ⟨w.heap.size + 1 + 1 + 1, 0, none⟩ = some (.int .i64 7) ∧ wz.cell? ⟨w.heap.size + 1 + 1 + 1, 1, none⟩ = some (.int .i64 0) ∧ wz.cell? ⟨w.heap.size + 1 + 1 + 1, 2, none⟩ = some (.int .i64 0) ∧ wz.cell? ⟨w.heap.size + 1 + 1 + 1, 3, none⟩ = some (.slice none 0 0) ∧ wz.cell? ⟨w.heap.size + 1 + 1 + 1, 4, none⟩ = some (.slice (some ⟨w.heap.size + 1 + 1, 0, none⟩) 2 2) ∧ wz.cell? ⟨w.heap.size + 1 + 1 + 1, 5, none⟩ = some (.slice none 0 0)) := hid_of (fun wz hz => ⟨blk_kept (cs := [.int .i64 7, .int .i64 0, .int .i64 0, .slice none 0 0, .slice (some ⟨w.heap.size + 1 + 1, 0, none⟩) 2 2, .slice none 0 0]) z3 hz rfl, blk_kept (cs := [.int .i64 7, .int .i64 0, .int .i64 0, .slice none 0 0, .slice (some ⟨w.heap.size + 1 + 1, 0, none⟩) 2 2, .slice none 0 0]) z3 hz rfl, blk_kept (cs := [.int .i64 7, .int .i64 0, .int .i64 0, .slice none 0 0, .slice (some ⟨w.heap.size + 1 + 1, 0, none⟩) 2 2, .slice none 0 0]) z3 hz rfl, blk_kept (cs := [.int .i64 7, .int .i64 0, .int .i64 0, .slice none 0 0, .slice (some ⟨w.heap.size + 1 + 1, 0, none⟩) 2 2, .slice none 0 0]) z3 hz rfl, blk_kept (cs := [.int .i64 7, .int .i64 0, .int .i64 0, .slice none 0 0, .slice (some ⟨w.heap.size + 1 + 1, 0, none⟩) 2 2, .slice none 0 0]) z3 hz rfl, blk_kept (cs := [.int .i64 7, .int .i64 0, .int .i64 0, .slice none 0 0, .slice (some ⟨w.heap.size + 1 + 1, 0, none⟩) 2 2, .slice none 0 0]) z3 hz rfl⟩)
  have LXW : Hid (LO W 7 0 0 none 0 0 (some ⟨w.heap.size + 1 + 1, 0, none⟩) 2 2 none 0 0 tx) := hid_of (lex_row (pair_row ⟨2, 0, 9, .slice none 0 0, .slice none 0 0, .slice none 0 0⟩ ⟨4, 0, 0, .slice none 0 0, .slice none 0 0, .slice none 0 0⟩ z2 (lo_n W).ld (lo_s W).ld) rfl)
  have RN : Rd W (.slice (some ⟨w.heap.size + 1 + 1 + 1 + 1, 0, none⟩) 2 2) (ss [[98], [97]]) := ⟨_, _, rfl, by simp [ss], by simp [ss], fun _ => ⟨_, _, rfl, lt_of_block z4, fun j u hu => by
    rw [Nat.zero_add]
    match j, hu with
    | 0, hu => simp only [ss, List.map_cons, List.getElem?_cons_zero, Option.some.injEq] at hu; subst hu; exact cell_blk (cs := [.string { data := #[98] }, .string { data := #[97] }]) z4 rfl
    | 1, hu => simp only [ss, List.map_cons, List.map_nil, List.getElem?_cons_succ, List.getElem?_cons_zero, Option.some.injEq] at hu; subst hu; exact cell_blk (cs := [.string { data := #[98] }, .string { data := #[97] }]) z4 rfl
    | j + 2, hu => simp [ss] at hu⟩⟩
  have FI := hid_of (field_yes 0 0 (some ⟨w.heap.size + 1 + 1 + 1 + 1, 0, none⟩) 2 2 (w.heap.size + 1 + 1 + 1 + 1 + 1) 0 2 2 none 0 0 4 0 0 none 0 0 none 0 0 none 0 0 [[98], [97]] [97] 1 W RN (.inl ⟨1, rfl, rfl, by intro j hj; match j, hj with | 0, _ => simp⟩) (by omega) (by omega)
    (fun w' h => ⟨blk_kept (cs := [.int .i64 1, .int .i64 0, .int .i64 0, .slice none 0 0, .slice none 0 0, .slice none 0 0, .int .i64 4, .int .i64 0, .int .i64 0, .slice none 0 0, .slice none 0 0, .slice none 0 0]) z5 h rfl, blk_kept (cs := [.int .i64 1, .int .i64 0, .int .i64 0, .slice none 0 0, .slice none 0 0, .slice none 0 0, .int .i64 4, .int .i64 0, .int .i64 0, .slice none 0 0, .slice none 0 0, .slice none 0 0]) z5 h rfl, blk_kept (cs := [.int .i64 1, .int .i64 0, .int .i64 0, .slice none 0 0, .slice none 0 0, .slice none 0 0, .int .i64 4, .int .i64 0, .int .i64 0, .slice none 0 0, .slice none 0 0, .slice none 0 0]) z5 h rfl, blk_kept (cs := [.int .i64 1, .int .i64 0, .int .i64 0, .slice none 0 0, .slice none 0 0, .slice none 0 0, .int .i64 4, .int .i64 0, .int .i64 0, .slice none 0 0, .slice none 0 0, .slice none 0 0]) z5 h rfl, blk_kept (cs := [.int .i64 1, .int .i64 0, .int .i64 0, .slice none 0 0, .slice none 0 0, .slice none 0 0, .int .i64 4, .int .i64 0, .int .i64 0, .slice none 0 0, .slice none 0 0, .slice none 0 0]) z5 h rfl, blk_kept (cs := [.int .i64 1, .int .i64 0, .int .i64 0, .slice none 0 0, .slice none 0 0, .slice none 0 0, .int .i64 4, .int .i64 0, .int .i64 0, .slice none 0 0, .slice none 0 0, .slice none 0 0]) z5 h rfl⟩) (fun cells _ => cells = #[.int .i64 4, .int .i64 0, .int .i64 0, .slice none 0 0, .slice none 0 0, .slice none 0 0]) (fun wz hz _ => (clone_leaf 4 0 0 wz).mono (by
      rintro e w' ⟨rfl, h2⟩
      exact ⟨_, rfl, rfl, by simp [Value.oneCell'], h2, rfl⟩)))
  clear z0 z1 z2 z3 z4 z5 z6 RN
  have HF : Hid (∀ w1 wz : World, Below (w1.alloc (.cells #[.int .i64 4, .int .i64 0, .int .i64 0, .slice none 0 0, .slice none 0 0, .slice none 0 0] 26)).heap.size (w1.alloc (.cells #[.int .i64 4, .int .i64 0, .int .i64 0, .slice none 0 0, .slice none 0 0, .slice none 0 0] 26)) wz → wz.cell? ⟨w1.heap.size, 0, none⟩ = some (.int .i64 4)) := hid_of (fun w1 wz hz => blk_kept (cs := [.int .i64 4, .int .i64 0, .int .i64 0, .slice none 0 0, .slice none 0 0, .slice none 0 0]) (heap_alloc_new w1 _) hz rfl)
  have HD : Hid (∀ w2 wz : World, Below (w2.alloc (.cells #[.int .i64 2, .int .i64 0, .int .i64 9, .slice none 0 0, .slice none 0 0, .slice none 0 0] 26)).heap.size (w2.alloc (.cells #[.int .i64 2, .int .i64 0, .int .i64 9, .slice none 0 0, .slice none 0 0, .slice none 0 0] 26)) wz → wz.cell? ⟨w2.heap.size, 0, none⟩ = some (.int .i64 2) ∧ wz.cell? ⟨w2.heap.size, 1, none⟩ = some (.int .i64 0) ∧ wz.cell? ⟨w2.heap.size, 2, none⟩ = some (.int .i64 9) ∧ wz.cell? ⟨w2.heap.size, 3, none⟩ = some (.slice none 0 0) ∧ wz.cell? ⟨w2.heap.size, 4, none⟩ = some (.slice none 0 0) ∧ wz.cell? ⟨w2.heap.size, 5, none⟩ = some (.slice none 0 0)) := hid_of (fun w2 wz hz => ⟨blk_kept (cs := [.int .i64 2, .int .i64 0, .int .i64 9, .slice none 0 0, .slice none 0 0, .slice none 0 0]) (heap_alloc_new w2 _) hz rfl, blk_kept (cs := [.int .i64 2, .int .i64 0, .int .i64 9, .slice none 0 0, .slice none 0 0, .slice none 0 0]) (heap_alloc_new w2 _) hz rfl, blk_kept (cs := [.int .i64 2, .int .i64 0, .int .i64 9, .slice none 0 0, .slice none 0 0, .slice none 0 0]) (heap_alloc_new w2 _) hz rfl, blk_kept (cs := [.int .i64 2, .int .i64 0, .int .i64 9, .slice none 0 0, .slice none 0 0, .slice none 0 0]) (heap_alloc_new w2 _) hz rfl, blk_kept (cs := [.int .i64 2, .int .i64 0, .int .i64 9, .slice none 0 0, .slice none 0 0, .slice none 0 0]) (heap_alloc_new w2 _) hz rfl, blk_kept (cs := [.int .i64 2, .int .i64 0, .int .i64 9, .slice none 0 0, .slice none 0 0, .slice none 0 0]) (heap_alloc_new w2 _) hz rfl⟩)
  have DC : Hid (∀ w1 : World, Calls Try.prog 11 #[.slice (some ⟨w1.heap.size + 1, 0, none⟩) 3 3] ((w1.alloc (.cells #[.int .i64 4, .int .i64 0, .int .i64 0, .slice none 0 0, .slice none 0 0, .slice none 0 0] 26)).alloc (.cells #[.int .u8 2, .int .u8 0, .int .u8 18] 5)) fun e w' => e = .returned (.tuple #[.agg #[.int .i64 2, .int .i64 0, .int .i64 9, .slice none 0 0, .slice none 0 0, .slice none 0 0], .int .i64 0]) ∧ Below ((w1.alloc (.cells #[.int .i64 4, .int .i64 0, .int .i64 0, .slice none 0 0, .slice none 0 0, .slice none 0 0] 26)).alloc (.cells #[.int .u8 2, .int .u8 0, .int .u8 18] 5)).heap.size ((w1.alloc (.cells #[.int .i64 4, .int .i64 0, .int .i64 0, .slice none 0 0, .slice none 0 0, .slice none 0 0] 26)).alloc (.cells #[.int .u8 2, .int .u8 0, .int .u8 18] 5)) w') := hid_of (fun w1 => by
    have q := (two_new w1 (.cells #[.int .i64 4, .int .i64 0, .int .i64 0, .slice none 0 0, .slice none 0 0, .slice none 0 0] 26) (.cells #[.int .u8 2, .int .u8 0, .int .u8 18] 5)).2
    have u0 : Wr.unzig 0 = 0 := by rfl
    have u1 : Wr.unzig 18 = 9 := by rfl
    have := decmax_any (some ⟨w1.heap.size + 1, 0, none⟩) 3 1 1 1 0 18 [2, 0, 18] ((w1.alloc (.cells #[.int .i64 4, .int .i64 0, .int .i64 0, .slice none 0 0, .slice none 0 0, .slice none 0 0] 26)).alloc (.cells #[.int .u8 2, .int .u8 0, .int .u8 18] 5)) (by intro x hx; simp at hx; omega) (by simp)
      (fun _ => ⟨_, rfl, fun w' hb j v hv => by rw [Addr.add_mid, Nat.zero_add]; exact blk_kept (cs := Wr.bs [2, 0, 18]) q hb hv⟩)
      (by rfl) (by rfl) (by rfl) (by rfl) (by rw [u0]; exact ⟨by omega, by omega⟩) (by rw [u1]; exact ⟨by omega, by omega⟩) (by rw [u0, u1]; kernel_rfl)
    rw [u0, u1] at this
    exact this)
  have EN : Hid (∀ wz : World, Calls Try.prog 10 #[.agg #[.int .i64 2, .int .i64 0, .int .i64 9, .slice none 0 0, .slice none 0 0, .slice none 0 0]] wz fun e w' => ∃ g, e = .returned (.slice (some ⟨g, 0, none⟩) 3 3) ∧ w'.heap[g]? = some (.cells (Wr.bs [2, 0, 18]).toArray 5 (0, 0)) ∧ Below wz.heap.size wz w' ∧ wz.heap.size ≤ g) := hid_of (fun wz =>
    encmax_any 0 9 tn rfl (by kernel_rfl) wz ⟨by omega, by omega⟩ ⟨by omega, by omega⟩ [2, 0, 18] (by
      rw [show Wr.zig 0 = 0 by rfl, show Wr.zig 9 = 18 by rfl, Wr.enc_lt (by omega), Wr.enc_lt (by omega), Wr.enc_lt (by omega)]; rfl))
  have CK1 : Hid (∀ wz : World, Calls Try.prog 6 #[.agg #[.int .i64 2, .int .i64 3, .int .i64 2, .slice none 0 0, .slice none 0 0, .slice none 0 0]] wz (ErP 5 wz)) := hid_of (fun wz => by
    have := check_any _ 2 3 2 none 0 0 none 0 0 none 0 0 wz (lo_leaf 2 3 2 ⟨by omega, by omega⟩ ⟨by omega, by omega⟩ ⟨by omega, by omega⟩ wz)
    rwa [show chkL ⟨2, 3, 2, [], [], []⟩ = 5 by kernel_rfl] at this)
  have CN : Hid (∀ wz : World, Calls Try.prog 14 #[.agg #[.int .i64 2, .int .i64 0, .int .i64 9, .slice none 0 0, .slice none 0 0, .slice none 0 0]] wz (BoP true wz)) := hid_of (fun wz => by
    have := chain_any tn 2 0 9 none 0 0 none 0 0 none 0 0 wz (lo_n wz)
    rwa [show chainL tn = true by kernel_rfl] at this)
  have CX : Hid (∀ wz : World, Below W.heap.size W wz → Calls Try.prog 14 #[.agg #[.int .i64 7, .int .i64 0, .int .i64 0, .slice none 0 0, .slice (some ⟨w.heap.size + 1 + 1, 0, none⟩) 2 2, .slice none 0 0]] wz (BoP false wz)) := hid_of (fun wz hz => by
    have := chain_any tx 7 0 0 none 0 0 _ 2 2 none 0 0 wz (LXW.out.at hz)
    rwa [show chainL tx = false by kernel_rfl] at this)
  have FN : Hid (∀ wz : World, Calls Try.prog 15 #[.agg #[.int .i64 2, .int .i64 0, .int .i64 9, .slice none 0 0, .slice none 0 0, .slice none 0 0]] wz (BoP true wz)) := hid_of (fun wz => by
    have := finite_any tn 2 0 9 none 0 0 none 0 0 none 0 0 wz (lo_n wz)
    rwa [show finL tn = true by kernel_rfl] at this)
  have FX : Hid (∀ wz : World, Below W.heap.size W wz → Calls Try.prog 15 #[.agg #[.int .i64 7, .int .i64 0, .int .i64 0, .slice none 0 0, .slice (some ⟨w.heap.size + 1 + 1, 0, none⟩) 2 2, .slice none 0 0]] wz (BoP false wz)) := hid_of (fun wz hz => by
    have := finite_any tx 7 0 0 none 0 0 _ 2 2 none 0 0 wz (LXW.out.at hz)
    rwa [show finL tx = false by kernel_rfl] at this)
  have DX : Hid (∀ wz : World, Below W.heap.size W wz → Calls Try.prog 16 #[.agg #[.int .i64 7, .int .i64 0, .int .i64 0, .slice none 0 0, .slice (some ⟨w.heap.size + 1 + 1, 0, none⟩) 2 2, .slice none 0 0]] wz (BoP true wz)) := hid_of (fun wz hz => by
    have := dist_any tx 7 0 0 none 0 0 _ 2 2 none 0 0 wz (LXW.out.at hz)
    rwa [show distL tx = true by kernel_rfl] at this)
  have PX : Hid (∀ wz : World, Below W.heap.size W wz → Calls Try.prog 17 #[.agg #[.int .i64 7, .int .i64 0, .int .i64 0, .slice none 0 0, .slice (some ⟨w.heap.size + 1 + 1, 0, none⟩) 2 2, .slice none 0 0]] wz fun e w' => e = .returned (.int .i64 2) ∧ Below wz.heap.size wz w') := hid_of (fun wz hz => by
    have hd : depthL tx = 2 := by kernel_rfl
    have := depth_any tx 7 0 0 none 0 0 _ 2 2 none 0 0 wz (LXW.out.at hz) (by rw [hd]; omega)
    unfold DepP at this
    rwa [hd] at this)
  have EQ1 : Hid (∀ wz : World, Calls Try.prog 8 #[.agg #[.int .i64 2, .int .i64 0, .int .i64 9, .slice none 0 0, .slice none 0 0, .slice none 0 0], .agg #[.int .i64 2, .int .i64 0, .int .i64 9, .slice none 0 0, .slice none 0 0, .slice none 0 0]] wz (BoP true wz)) := hid_of (fun wz => by
    have := equal_any tn tn 2 0 9 none 0 0 none 0 0 none 0 0 2 0 9 none 0 0 none 0 0 none 0 0 wz (lo_n wz) (lo_n wz)
    rwa [show decide (tn = tn) = true by simp] at this)
  have EQ2 : Hid (∀ wz : World, Calls Try.prog 8 #[.agg #[.int .i64 2, .int .i64 0, .int .i64 9, .slice none 0 0, .slice none 0 0, .slice none 0 0], .agg #[.int .i64 4, .int .i64 0, .int .i64 0, .slice none 0 0, .slice none 0 0, .slice none 0 0]] wz (BoP false wz)) := hid_of (fun wz => by
    have := equal_any tn ts 2 0 9 none 0 0 none 0 0 none 0 0 4 0 0 none 0 0 none 0 0 none 0 0 wz (lo_n wz) (lo_s wz)
    rwa [tn_ts] at this)
  have CK2 : Hid (∀ wz : World, Calls Try.prog 6 #[.agg #[.int .i64 7, .int .i64 0, .int .i64 0, .slice none 0 0, .slice (some ⟨wz.heap.size, 0, none⟩) 2 2, .slice none 0 0]] (wz.alloc (.cells #[.int .i64 4, .int .i64 0, .int .i64 0, .slice none 0 0, .slice none 0 0, .slice none 0 0, .int .i64 2, .int .i64 0, .int .i64 9, .slice none 0 0, .slice none 0 0, .slice none 0 0] 26)) (ErP 4 (wz.alloc (.cells #[.int .i64 4, .int .i64 0, .int .i64 0, .slice none 0 0, .slice none 0 0, .slice none 0 0, .int .i64 2, .int .i64 0, .int .i64 9, .slice none 0 0, .slice none 0 0, .slice none 0 0] 26)))) := hid_of (fun wz => by
    have := check_any tl 7 0 0 none 0 0 _ 2 2 none 0 0 (wz.alloc (.cells #[.int .i64 4, .int .i64 0, .int .i64 0, .slice none 0 0, .slice none 0 0, .slice none 0 0, .int .i64 2, .int .i64 0, .int .i64 9, .slice none 0 0, .slice none 0 0, .slice none 0 0] 26)) (lex_row (pair_row ⟨4, 0, 0, .slice none 0 0, .slice none 0 0, .slice none 0 0⟩ ⟨2, 0, 9, .slice none 0 0, .slice none 0 0, .slice none 0 0⟩ (heap_alloc_new wz _) (lo_s _).ld (lo_n _).ld) rfl)
    rwa [show chkL tl = 4 by kernel_rfl] at this)
  have HSTR : Hid (strOfNums [2, 0, 18] = { data := #[2, 0, 18] }) := hid_of (by rfl)
  have FI2 : Hid (Calls Try.prog 7 #[.agg #[.int .i64 6, .int .i64 0, .int .i64 0, .slice (some ⟨w.heap.size + 1 + 1 + 1 + 1, 0, none⟩) 2 2, .slice (some ⟨w.heap.size + 1 + 1 + 1 + 1 + 1, 0, none⟩) 2 2, .slice none 0 0], .string { data := #[97] }] W fun e w' => e = .returned (.tuple #[.agg #[.int .i64 4, .int .i64 0, .int .i64 0, .slice none 0 0, .slice none 0 0, .slice none 0 0], .bool true]) ∧ Below W.heap.size W w') := hid_of (FI.out.mono (by
    rintro e w' ⟨cells, w3, rfl, rfl, _, h⟩
    exact ⟨rfl, h⟩))
  clear FI
  go_enter Try.func5, Try.ntmps5
  clear hW
  go_wp2_with (first
    | (go_at_call 7; ((rw [← HW.out]); (refine (FI2.out).mono ?_); (rintro e w1 ⟨rfl, h1⟩); (have B1 := hid_of h1); clear h1))
    | (go_at_call 11; ((with_reducible refine (DC.out w1).mono ?_); (rintro e w2 ⟨rfl, h2⟩); (have XF0 : Hid (Below (w1.alloc (.cells #[.int .i64 4, .int .i64 0, .int .i64 0, .slice none 0 0, .slice none 0 0, .slice none 0 0] 26)).heap.size (w1.alloc (.cells #[.int .i64 4, .int .i64 0, .int .i64 0, .slice none 0 0, .slice none 0 0, .slice none 0 0] 26)) w2) := hid_of ((bel_alloc _ _).trans (h2.mono (by simp)))); (have XF : Hid (Below (w1.alloc (.cells #[.int .i64 4, .int .i64 0, .int .i64 0, .slice none 0 0, .slice none 0 0, .slice none 0 0] 26)).heap.size (w1.alloc (.cells #[.int .i64 4, .int .i64 0, .int .i64 0, .slice none 0 0, .slice none 0 0, .slice none 0 0] 26)) (w2.alloc (.cells #[.int .i64 2, .int .i64 0, .int .i64 9, .slice none 0 0, .slice none 0 0, .slice none 0 0] 26))) := hid_of (XF0.out.trans ((bel_alloc w2 _).mono XF0.out.size))); (have XW : Hid (Below W.heap.size W (w2.alloc (.cells #[.int .i64 2, .int .i64 0, .int .i64 9, .slice none 0 0, .slice none 0 0, .slice none 0 0] 26))) := hid_of (((B1.out.trans ((bel_alloc w1 _).mono B1.out.size))).trans (XF.out.mono (by have := B1.out.size; simp; omega)))); (have E2 : Hid (Below (w2.alloc (.cells #[.int .i64 2, .int .i64 0, .int .i64 9, .slice none 0 0, .slice none 0 0, .slice none 0 0] 26)).heap.size (w2.alloc (.cells #[.int .i64 2, .int .i64 0, .int .i64 9, .slice none 0 0, .slice none 0 0, .slice none 0 0] 26)) (w2.alloc (.cells #[.int .i64 2, .int .i64 0, .int .i64 9, .slice none 0 0, .slice none 0 0, .slice none 0 0] 26))) := hid_of (Below.refl _ _)); (obtain ⟨n20, n21, n22, n23, n24, n25⟩ := HN.out (w2.alloc (.cells #[.int .i64 2, .int .i64 0, .int .i64 9, .slice none 0 0, .slice none 0 0, .slice none 0 0] 26)) XW.out); clear h2))
    | (go_at_call 10; ((with_reducible refine (EN.out _).mono ?_); (rintro e w3 ⟨g3, rfl, hg3, h3, _⟩); (have E3 := hid_of h3); (have G3 := hid_of hg3); (have cv := Wr.run_str w3 34 9 5 Try.underlying34 Try.underlying5 Try.underlying9 (some ⟨g3, 0, none⟩) [2, 0, 18] 3 (Wr.row_src G3.out)); (rw [HSTR.out] at cv); (simp only [List.length_cons, List.length_nil, Nat.zero_add, Nat.reduceAdd] at cv); clear h3 hg3 n20 n21 n22 n23 n24 n25))
    | (go_at_call 6; ((with_reducible refine (CK1.out _).mono ?_); (rintro e w4 ⟨rfl, h4⟩); (have E4 := hid_of (E3.out.trans (h4.mono E3.out.size))); (obtain ⟨n40, n41, n42, n43, n44, n45⟩ := HN.out w4 (XW.out.trans (E4.out.mono XW.out.size))); clear h4))
    | (go_at_call 14; ((with_reducible refine (CN.out _).mono ?_); (rintro e w5 ⟨rfl, h5⟩); (have E5 := hid_of (E4.out.trans (h5.mono E4.out.size))); (obtain ⟨x50, x51, x52, x53, x54, x55⟩ := HX.out w5 (XW.out.trans (E5.out.mono XW.out.size))); clear n40 n41 n42 n43 n44 n45; clear h5))
    | (go_at_call 14; ((with_reducible refine (CX.out _ (XW.out.trans (E5.out.mono XW.out.size))).mono ?_); (rintro e w6 ⟨rfl, h6⟩); (have E6 := hid_of (E5.out.trans (h6.mono E5.out.size))); (obtain ⟨n60, n61, n62, n63, n64, n65⟩ := HN.out w6 (XW.out.trans (E6.out.mono XW.out.size))); clear x50 x51 x52 x53 x54 x55; clear h6))
    | (go_at_call 15; ((with_reducible refine (FN.out _).mono ?_); (rintro e w7 ⟨rfl, h7⟩); (have E7 := hid_of (E6.out.trans (h7.mono E6.out.size))); (obtain ⟨x70, x71, x72, x73, x74, x75⟩ := HX.out w7 (XW.out.trans (E7.out.mono XW.out.size))); clear n60 n61 n62 n63 n64 n65; clear h7))
    | (go_at_call 15; ((with_reducible refine (FX.out _ (XW.out.trans (E7.out.mono XW.out.size))).mono ?_); (rintro e w8 ⟨rfl, h8⟩); (have E8 := hid_of (E7.out.trans (h8.mono E7.out.size))); (obtain ⟨x80, x81, x82, x83, x84, x85⟩ := HX.out w8 (XW.out.trans (E8.out.mono XW.out.size))); clear x70 x71 x72 x73 x74 x75; clear h8))
    | (go_at_call 16; ((with_reducible refine (DX.out _ (XW.out.trans (E8.out.mono XW.out.size))).mono ?_); (rintro e w9 ⟨rfl, h9⟩); (have E9 := hid_of (E8.out.trans (h9.mono E8.out.size))); (obtain ⟨x90, x91, x92, x93, x94, x95⟩ := HX.out w9 (XW.out.trans (E9.out.mono XW.out.size))); clear x80 x81 x82 x83 x84 x85; clear h9))
    | (go_at_call 17; ((with_reducible refine (PX.out _ (XW.out.trans (E9.out.mono XW.out.size))).mono ?_); (rintro e w10 ⟨rfl, h10⟩); (have E10 := hid_of (E9.out.trans (h10.mono E9.out.size))); (obtain ⟨n100, n101, n102, n103, n104, n105⟩ := HN.out w10 (XW.out.trans (E10.out.mono XW.out.size))); (obtain ⟨d100, d101, d102, d103, d104, d105⟩ := HD.out w2 w10 E10.out); (have f10 := HF.out w1 w10 (XF.out.trans (E10.out.mono XF.out.size))); clear x90 x91 x92 x93 x94 x95; clear h10))
    | (go_at_call 8; ((with_reducible refine (EQ1.out _).mono ?_); (rintro e w11 ⟨rfl, h11⟩); (have E11 := hid_of (E10.out.trans (h11.mono E10.out.size))); (obtain ⟨s110, s111, s112, s113, s114, s115⟩ := HS.out w11 (XW.out.trans (E11.out.mono XW.out.size))); (obtain ⟨d110, d111, d112, d113, d114, d115⟩ := HD.out w2 w11 E11.out); clear f10 d100 d101 d102 d103 d104 d105 n100 n101 n102 n103 n104 n105; clear h11))
    | (go_at_call 8; ((with_reducible refine (EQ2.out _).mono ?_); (rintro e w12 ⟨rfl, h12⟩); (have E12 := hid_of (E11.out.trans (h12.mono E11.out.size))); (obtain ⟨n120, n121, n122, n123, n124, n125⟩ := HN.out w12 (XW.out.trans (E12.out.mono XW.out.size))); (obtain ⟨s120, s121, s122, s123, s124, s125⟩ := HS.out w12 (XW.out.trans (E12.out.mono XW.out.size))); clear d110 d111 d112 d113 d114 d115 s110 s111 s112 s113 s114 s115; clear h12))
    | (go_at_call 6; ((with_reducible refine (CK2.out w12).mono ?_); (rintro e w13 ⟨rfl, h13⟩); (have E13 := hid_of (E12.out.trans (((bel_alloc w12 _).trans (h13.mono (by simp))).mono E12.out.size))); clear h13)))
  go_ret
  exact ⟨rfl, HBW.out.trans ((XW.out.trans (E13.out.mono XW.out.size)).mono HBW.out.size)⟩
end Go.Proofs.Ytdmonbcinlmljaa

/- Encode of package lattice. Bounds on sizes alone. -/
namespace Go.Proofs.Ytdmonbcinlmljaa
open Go.RowKit

def By (l : List Int) : Prop := ∀ y ∈ l, 0 ≤ y ∧ y ≤ 255
theorem By.app {l m : List Int} (h : By l) (h2 : By m) : By (l ++ m) := fun y hy => (List.mem_append.1 hy).elim (h y) (h2 y)
theorem By.nil : By [] := fun y hy => by cases hy
theorem by_enc (n : Nat) : By (Wr.enc n) := Wr.enc_byte n
theorem by_tx (x : Str) : By (txE x) := (by_enc _).app fun y hy => by
  unfold Wr.strBytes at hy
  obtain ⟨c, _, rfl⟩ := List.mem_map.1 hy
  have := c.toNat_lt
  omega
theorem by_flat {α : Type} {f : α → List Int} {l : List α} (h : ∀ x ∈ l, By (f x)) : By (l.flatMap f) := fun y hy => by
  obtain ⟨x, hx, hy⟩ := List.mem_flatMap.1 hy
  exact h x hx y hy
theorem by_ns (l : List Str) : By (nsE l) := (by_enc _).app (by_flat fun x _ => by_tx x)
theorem by_rs (l : List Gr) : By (rsE l) := (by_enc _).app (by_flat fun r _ => (by_ns r.1).app (by_tx r.2))
theorem by_ps : ∀ (ns : List Str) (ps : List Lat), (∀ p ∈ ps, By (encL p)) → By (encPs ns ps)
  | [], ps, _ => by rw [encPs_nil]; exact .nil
  | _ :: _, [], _ => by rw [encPs]; exact .nil
  | n :: ns, p :: ps, h => by
    rw [encPs_cons]
    exact ((by_tx n).app (h p (by simp))).app (by_ps ns ps fun q hq => h q (by simp [hq]))
theorem encL_byte : ∀ t, By (encL t) := by
  refine lat_ind ?_
  intro k lo hi ns ps rs ih
  rw [encL]
  refine (by_enc _).app ?_
  split
  · exact (by_enc _).app (by_enc _)
  · split
    · exact by_ns ns
    · split
      · refine (by_ns ns).app ?_
        rw [encLs_map]; exact by_flat ih
      · split
        · exact (by_enc _).app (by_ps ns ps ih)
        · split
          · rw [encLs_map]; exact by_flat ih
          · split
            · exact (by_ns ns).app (by_rs rs)
            · exact .nil
/-- The bytes of a list as a string, and back. -/
def strU (l : List Int) : Str := l.map fun n => UInt8.ofNat n.toNat
theorem strU_ba (l : List Int) : strOfNums l = ba (strU l) := rfl
theorem strU_inj {l m : List Int} (h : By l) (h2 : By m) (e : strU l = strU m) : l = m := by
  have hx : ∀ z : List Int, By z → (strU z).map (fun c => (c.toNat : Int)) = z := fun z hz => by
    unfold strU
    rw [List.map_map]
    refine (List.map_congr_left (fun y hy => ?_)).trans (List.map_id z)
    have := hz y hy
    simp only [Function.comp, UInt8.toNat_ofNat', id]
    omega
  rw [← hx l h, ← hx m h2, e]
theorem enc_bound {t : Lat} (h : chkL t = 0) : (encL t).length ≤ 30000000000 := by
  have h1 := encL_len t (okay_of t 1 0 h)
  have h2 := (parts_ok h).1
  have h3 : 10 ^ depthL t ≤ 10 ^ 6 := Nat.pow_le_pow_right (by omega) h2
  have h4 := Nat.mul_le_mul_left 30000 h3
  have h5 : 30000 * 10 ^ 6 = 30000000000 := by decide
  omega
set_option maxRecDepth 100000 in
set_option maxHeartbeats 3200000 in
theorem encode_any (t : Lat) (k lo hi : Int) (an : Option Addr) (nn cn : Nat) (ap : Option Addr) (np cp : Nat) (ar : Option Addr) (nr cr : Nat) (w : World) (H : LO w k lo hi an nn cn ap np cp ar nr cr t) (hok : chkL t = 0) (M : List Int) (hM : M = encL t) :
    Calls Try.prog 10 #[.agg #[.int .i64 k, .int .i64 lo, .int .i64 hi, .slice an nn cn, .slice ap np cp, .slice ar nr cr]] w fun e w' => ∃ g, e = .returned (.slice (some ⟨g, 0, none⟩) M.length M.length) ∧ w'.heap[g]? = some (.cells (Wr.bs M).toArray 5 (0, 0)) ∧ Below w.heap.size w w' ∧ w.heap.size ≤ g := by
  have HBW := hid_of (bel_alloc w (.cells #[.int .i64 k, .int .i64 lo, .int .i64 hi, .slice an nn cn, .slice ap np cp, .slice ar nr cr] 26))
  have CH := hid_of (check_any t k lo hi an nn cn ap np cp ar nr cr (w.alloc (.cells #[.int .i64 k, .int .i64 lo, .int .i64 hi, .slice an nn cn, .slice ap np cp, .slice ar nr cr] 26)) (H.at HBW.out))
  rw [hok] at CH
  have HC : Hid (∀ w', Below (w.alloc (.cells #[.int .i64 k, .int .i64 lo, .int .i64 hi, .slice an nn cn, .slice ap np cp, .slice ar nr cr] 26)).heap.size (w.alloc (.cells #[.int .i64 k, .int .i64 lo, .int .i64 hi, .slice an nn cn, .slice ap np cp, .slice ar nr cr] 26)) w' → _) := hid_of (fun w' h => box6 k lo hi an nn cn ap np cp ar nr cr h)
  have HML : Hid (M.length ≤ 30000000000) := hid_of (by rw [hM]; exact enc_bound hok)
  have WM : Hid (∀ w2 : World, Below w.heap.size w w2 → Calls Try.prog 27 #[.pointer (some ⟨w2.heap.size, 0, none⟩), .agg #[.int .i64 k, .int .i64 lo, .int .i64 hi, .slice an nn cn, .slice ap np cp, .slice ar nr cr]] (w2.alloc (.cells #[.slice none 0 0] 52)) fun e w' => e = .returned (.tuple #[]) ∧ ∃ v', Wr.Wst w2.heap.size w2.heap.size w' v' M ∧ Below w2.heap.size w2 w') := hid_of (fun w2 h2 => by
    have hw : Wr.Wst w2.heap.size w2.heap.size (w2.alloc (.cells #[.slice none 0 0] 52)) (.slice none 0 0) [] := ⟨heap_alloc_new _ _, World.ownsRow_nil _ _ _ _⟩
    have hb := bel_alloc w2 (.cells #[.slice none 0 0] 52)
    refine (write_any w2 w2.heap.size t (okay_of t 1 0 hok) k lo hi an nn cn ap np cp ar nr cr _ _ _ (H.at h2) hb (Nat.le_refl _) hw (by rw [← hM, List.length_nil]; have := HML.out; omega)).mono ?_
    rintro e w' ⟨rfl, k⟩
    obtain ⟨v', k1, _⟩ := k.ex
    rw [List.nil_append, ← hM] at k1
    exact ⟨rfl, v', k1, hb.trans k.bel⟩)
  clear hM H
  go_enter Try.func10, Try.ntmps10
  go_wp2_with (first
    | (go_at_call 6; ((with_reducible refine (CH.out).mono ?_); (rintro e w2 ⟨rfl, h2⟩); (have H2 := hid_of h2); (have HX2 := hid_of (HBW.out.trans (h2.mono HBW.out.size))); (obtain ⟨p0, p1, p2, p3, p4, p5⟩ := HC.out (w2.alloc (.cells #[.slice none 0 0] 52)) (h2.alloc h2.size _)); clear h2))
    | (go_at_call 27; ((with_reducible refine (WM.out w2 HX2.out).mono ?_); (rintro e w3 ⟨rfl, v3, h3, h4⟩); (have W3 := hid_of h3); (have H4 := hid_of h4); (have DT := hid_of (Wr.data_any w2.heap.size w2.heap.size v3 M w3 h3 (by have := HML.out; omega))); clear h3 h4))
    | (go_at_call 28; ((with_reducible refine (DT.out).mono ?_); (rintro e w4 ⟨rfl, h3, h4⟩); (have R4 := hid_of h3); (have H5 := hid_of h4); clear h3 h4)))
  go_ret
  have hx2 : Below w.heap.size w w2 := HBW.out.trans (H2.out.mono HBW.out.size)
  have hx3 : Below w.heap.size w w3 := hx2.trans (H4.out.mono hx2.size)
  exact ⟨_, rfl, R4.out, hx3.trans (H5.out.mono hx3.size), hx3.size⟩
end Go.Proofs.Ytdmonbcinlmljaa

/- The reference: Equal. Bounds on sizes alone. -/
namespace Go.Proofs.Ytdmonbcinlmljaa
open Go.RowKit

set_option maxRecDepth 100000 in
set_option maxHeartbeats 3200000 in
theorem rnames_q (l m : List Str) (ao bo : Option Addr) (n n2 cap cap2 : Nat) (w : World) (R1 : Rd w (.slice ao n cap) (ss l)) (R2 : Rd w (.slice bo n2 cap2) (ss m)) :
    Calls Try.prog 36 #[.slice ao n cap, .slice bo n2 cap2] w (fun e w' => e = .returned (.bool (decide (l = m))) ∧ ∃ m, w' = w.drewN m) := by
  obtain ⟨hn, _, hcap, h3⟩ := rds_open R1
  obtain ⟨hn2, _, hcap2, k3⟩ := rds_open R2
  obtain ⟨r, hr⟩ : ∃ r, r = decide (l = m) := ⟨_, rfl⟩
  rw [← hr]
  have HR := hid_of hr
  clear hr R1 R2
  by_cases hnn : n = n2
  case neg =>
    have RF : Hid (false = r) := hid_of (by rw [HR.out]; exact (decide_eq_false (fun h => hnn (by rw [hn, hn2, h]))).symm)
    have e1 : (n == n2) = false := beq_eq_false_iff_ne.2 hnn
    have e2 : ((n : Int) == (n2 : Int)) = false := beq_eq_false_iff_ne.2 (by omega)
    have e3 : ((n : Int) != (n2 : Int)) = true := bne_iff_ne.2 (by omega)
    clear hnn hn hn2 h3 k3
    go_enter Try.func36, Try.ntmps36
    go_wp2
    go_ret
    exact ⟨ret_b RF.out, 0, rfl⟩
  subst hnn
  have HN := hid_of hn
  have HN2 := hid_of hn2
  have H3 := hid_of h3
  have K3 := hid_of k3
  clear hn hn2 h3 k3
  go_enter Try.func36, Try.ntmps36
  go_wp2
  go_loopw [5] (fun iv wr => ∃ i : Nat, iv = .int .i64 i ∧ i ≤ n ∧ Hid (∀ j, j < i → l[j]? = m[j]?) ∧ Hid (∃ m, wr = w.drewN m)) (fun iv _ => n - (intOf iv).toNat)
  case atStart => exact ⟨0, rfl, Nat.zero_le _, hid_of (fun j h => absurd h (Nat.not_lt_zero j)), hid_of ⟨0, rfl⟩⟩
  case round =>
    obtain ⟨i, rfl, hi, HM, hb⟩ := hrel
    by_cases hlt : i < n
    · have d1 : decide (i < n) = true := decide_eq_true hlt
      have hlt' : (i : Int) < (n : Int) := by omega
      have HLT := hid_of hlt
      have hl : i < l.length := by have := HN.out; omega
      have hm : i < m.length := by have := HN2.out; omega
      rcases H3.out with h3 | ⟨g, o, rfl, hg, hc⟩
      · exfalso; rw [h3] at hl; simp at hl
      rcases K3.out with k3 | ⟨g2, o2, rfl, hg2, hc2⟩
      · exfalso; rw [k3] at hm; simp at hm
      have hbb : Below w.heap.size w wr := by obtain ⟨md, hmd⟩ := hb.out; rw [hmd]; exact bel_drewN (Below.refl _ _) md
      have c1 := (hbb.cell (p := ⟨g, o + i, none⟩) hg).trans (hc i _ (List.getElem?_eq_getElem hl))
      have c2 := (hbb.cell (p := ⟨g2, o2 + i, none⟩) hg2).trans (hc2 i _ (List.getElem?_eq_getElem hm))
      obtain ⟨bx, hx⟩ : ∃ bx, bx = ba l[i] := ⟨_, rfl⟩
      obtain ⟨by', hy⟩ : ∃ by', by' = ba m[i] := ⟨_, rfl⟩
      rw [← hx] at c1
      rw [← hy] at c2
      by_cases he : l[i] = m[i]
      · have et := eq_t hx hy he
        have HE : Hid (∀ j, j < i + 1 → l[j]? = m[j]?) := hid_of (fun j hj => by
          by_cases e : j = i
          · subst e; rw [List.getElem?_eq_getElem hl, List.getElem?_eq_getElem hm, he]
          · exact HM.out j (by omega))
        clear hbb hlt hc hc2 hx hy he hl hm H3 K3 hg hg2 HM
        go_wp2
        go_quiet (fail)
        go_wp2
        go_roundw
        case rel => exact ⟨i + 1, by go_num, HLT.out, HE, hid_of (by obtain ⟨md, hmd⟩ := hb.out; exact ⟨md + nq, by rw [hmd, World.drewN_drewN]⟩)⟩
        case measure => have := HLT.out; simp [intOf]; omega
      · have et := eq_f hx hy he
        have RF : Hid (false = r) := hid_of (by
          rw [HR.out]
          refine (decide_eq_false fun h => he ?_).symm
          subst h; rfl)
        clear hbb hlt hc hc2 hx hy he hl hm H3 K3 hg hg2 HM
        go_wp2
        go_quiet (fail)
        go_wp2
        go_ret
        exact ⟨ret_b RF.out, by obtain ⟨md, hmd⟩ := hb.out; exact ⟨md + nq, by rw [hmd, World.drewN_drewN]⟩⟩
    · have d1 : decide (i < n) = false := decide_eq_false hlt
      have RT : Hid (true = r) := hid_of (by
        rw [HR.out]
        refine (decide_eq_true ?_).symm
        refine List.ext_getElem? fun j => ?_
        by_cases hj : j < n
        · exact HM.out j (by omega)
        · rw [List.getElem?_eq_none (by have := HN.out; omega), List.getElem?_eq_none (by have := HN2.out; omega)])
      go_wp2
      go_ret
      exact ⟨ret_b RT.out, hb.out⟩

theorem two_box {w w' : World} (kA loA hiA : Int) (anA : Option Addr) (nnA cnA : Nat) (apA : Option Addr) (npA cpA : Nat) (arA : Option Addr) (nrA crA : Nat) (kB loB hiB : Int) (anB : Option Addr) (nnB cnB : Nat) (apB : Option Addr) (npB cpB : Nat) (arB : Option Addr) (nrB crB : Nat) (h : Below ((w.alloc (.cells #[.int .i64 kA, .int .i64 loA, .int .i64 hiA, .slice anA nnA cnA, .slice apA npA cpA, .slice arA nrA crA] 26)).alloc (.cells #[.int .i64 kB, .int .i64 loB, .int .i64 hiB, .slice anB nnB cnB, .slice apB npB cpB, .slice arB nrB crB] 26)).heap.size ((w.alloc (.cells #[.int .i64 kA, .int .i64 loA, .int .i64 hiA, .slice anA nnA cnA, .slice apA npA cpA, .slice arA nrA crA] 26)).alloc (.cells #[.int .i64 kB, .int .i64 loB, .int .i64 hiB, .slice anB nnB cnB, .slice apB npB cpB, .slice arB nrB crB] 26)) w') : w'.cell? ⟨w.heap.size, 0, none⟩ = some (.int .i64 kA) ∧ w'.cell? ⟨w.heap.size, 1, none⟩ = some (.int .i64 loA) ∧ w'.cell? ⟨w.heap.size, 2, none⟩ = some (.int .i64 hiA) ∧ w'.cell? ⟨w.heap.size, 3, none⟩ = some (.slice anA nnA cnA) ∧ w'.cell? ⟨w.heap.size, 4, none⟩ = some (.slice apA npA cpA) ∧ w'.cell? ⟨w.heap.size, 5, none⟩ = some (.slice arA nrA crA) ∧
    w'.cell? ⟨w.heap.size + 1, 0, none⟩ = some (.int .i64 kB) ∧ w'.cell? ⟨w.heap.size + 1, 1, none⟩ = some (.int .i64 loB) ∧ w'.cell? ⟨w.heap.size + 1, 2, none⟩ = some (.int .i64 hiB) ∧ w'.cell? ⟨w.heap.size + 1, 3, none⟩ = some (.slice anB nnB cnB) ∧ w'.cell? ⟨w.heap.size + 1, 4, none⟩ = some (.slice apB npB cpB) ∧ w'.cell? ⟨w.heap.size + 1, 5, none⟩ = some (.slice arB nrB crB) := by
  obtain ⟨b1, b2⟩ := two_new w (.cells #[.int .i64 kA, .int .i64 loA, .int .i64 hiA, .slice anA nnA cnA, .slice apA npA cpA, .slice arA nrA crA] 26) (.cells #[.int .i64 kB, .int .i64 loB, .int .i64 hiB, .slice anB nnB cnB, .slice apB npB cpB, .slice arB nrB crB] 26)
  exact ⟨blk_kept (cs := [.int .i64 kA, .int .i64 loA, .int .i64 hiA, .slice anA nnA cnA, .slice apA npA cpA, .slice arA nrA crA]) b1 h rfl, blk_kept (cs := [.int .i64 kA, .int .i64 loA, .int .i64 hiA, .slice anA nnA cnA, .slice apA npA cpA, .slice arA nrA crA]) b1 h rfl, blk_kept (cs := [.int .i64 kA, .int .i64 loA, .int .i64 hiA, .slice anA nnA cnA, .slice apA npA cpA, .slice arA nrA crA]) b1 h rfl, blk_kept (cs := [.int .i64 kA, .int .i64 loA, .int .i64 hiA, .slice anA nnA cnA, .slice apA npA cpA, .slice arA nrA crA]) b1 h rfl, blk_kept (cs := [.int .i64 kA, .int .i64 loA, .int .i64 hiA, .slice anA nnA cnA, .slice apA npA cpA, .slice arA nrA crA]) b1 h rfl, blk_kept (cs := [.int .i64 kA, .int .i64 loA, .int .i64 hiA, .slice anA nnA cnA, .slice apA npA cpA, .slice arA nrA crA]) b1 h rfl, blk_kept (cs := [.int .i64 kB, .int .i64 loB, .int .i64 hiB, .slice anB nnB cnB, .slice apB npB cpB, .slice arB nrB crB]) b2 h rfl, blk_kept (cs := [.int .i64 kB, .int .i64 loB, .int .i64 hiB, .slice anB nnB cnB, .slice apB npB cpB, .slice arB nrB crB]) b2 h rfl, blk_kept (cs := [.int .i64 kB, .int .i64 loB, .int .i64 hiB, .slice anB nnB cnB, .slice apB npB cpB, .slice arB nrB crB]) b2 h rfl, blk_kept (cs := [.int .i64 kB, .int .i64 loB, .int .i64 hiB, .slice anB nnB cnB, .slice apB npB cpB, .slice arB nrB crB]) b2 h rfl, blk_kept (cs := [.int .i64 kB, .int .i64 loB, .int .i64 hiB, .slice anB nnB cnB, .slice apB npB cpB, .slice arB nrB crB]) b2 h rfl, blk_kept (cs := [.int .i64 kB, .int .i64 loB, .int .i64 hiB, .slice anB nnB cnB, .slice apB npB cpB, .slice arB nrB crB]) b2 h rfl⟩
theorem ext_to {α : Type} {l m : List α} {n : Nat} (h1 : n = l.length) (h2 : n = m.length) (h : ∀ j, j < n → l[j]? = m[j]?) : l = m := by
  refine List.ext_getElem? fun j => ?_
  by_cases hj : j < n
  · exact h j hj
  · rw [List.getElem?_eq_none (by omega), List.getElem?_eq_none (by omega)]
set_option maxRecDepth 100000 in
set_option maxHeartbeats 6400000 in
theorem requal_any : ∀ (t u : Lat) (kA loA hiA : Int) (anA : Option Addr) (nnA cnA : Nat) (apA : Option Addr) (npA cpA : Nat) (arA : Option Addr) (nrA crA : Nat) (kB loB hiB : Int) (anB : Option Addr) (nnB cnB : Nat) (apB : Option Addr) (npB cpB : Nat) (arB : Option Addr) (nrB crB : Nat) (w : World), LO w kA loA hiA anA nnA cnA apA npA cpA arA nrA crA t → LO w kB loB hiB anB nnB cnB apB npB cpB arB nrB crB u → Calls Try.prog 13 #[.agg #[.int .i64 kA, .int .i64 loA, .int .i64 hiA, .slice anA nnA cnA, .slice apA npA cpA, .slice arA nrA crA], .agg #[.int .i64 kB, .int .i64 loB, .int .i64 hiB, .slice anB nnB cnB, .slice apB npB cpB, .slice arB nrB crB]] w (BoP (decide (t = u)) w) := by
  refine lat_ind ?_
  intro k' lo' hi' ns' ps' rs' ih u kA loA hiA anA nnA cnA apA npA cpA arA nrA crA kB loB hiB anB nnB cnB apB npB cpB arB nrB crB w H1 H2
  obtain rfl : kA = k' := H1.hk
  obtain rfl : loA = lo' := H1.hlo
  obtain rfl : hiA = hi' := H1.hhi
  obtain ⟨r, hr⟩ : ∃ r, r = decide (Lat.mk kA loA hiA ns' ps' rs' = u) := ⟨_, rfl⟩
  have hr0 := hr
  rw [lat_eq, ← H2.hk, ← H2.hlo, ← H2.hhi] at hr
  rw [← hr0]
  have HR := hid_of hr
  have HBB := hid_of (((Below.refl w.heap.size w).alloc (Nat.le_refl _) (.cells #[.int .i64 kA, .int .i64 loA, .int .i64 hiA, .slice anA nnA cnA, .slice apA npA cpA, .slice arA nrA crA] 26)).alloc (by simp) (.cells #[.int .i64 kB, .int .i64 loB, .int .i64 hiB, .slice anB nnB cnB, .slice apB npB cpB, .slice arB nrB crB] 26))
  have HC := hid_of (fun (w' : World) (h : Below ((w.alloc (.cells #[.int .i64 kA, .int .i64 loA, .int .i64 hiA, .slice anA nnA cnA, .slice apA npA cpA, .slice arA nrA crA] 26)).alloc (.cells #[.int .i64 kB, .int .i64 loB, .int .i64 hiB, .slice anB nnB cnB, .slice apB npB cpB, .slice arB nrB crB] 26)).heap.size ((w.alloc (.cells #[.int .i64 kA, .int .i64 loA, .int .i64 hiA, .slice anA nnA cnA, .slice apA npA cpA, .slice arA nrA crA] 26)).alloc (.cells #[.int .i64 kB, .int .i64 loB, .int .i64 hiB, .slice anB nnB cnB, .slice apB npB cpB, .slice arB nrB crB] 26)) w') => two_box kA loA hiA anA nnA cnA apA npA cpA arA nrA crA kB loB hiB anB nnB cnB apB npB cpB arB nrB crB h)
  have CN := hid_of (fun (wz : World) (hz : Below w.heap.size w wz) => rnames_any ns' u.ns anA anB nnA nnB cnA cnB wz (H1.n.at hz) (H2.n.at hz))
  have L1p := H1.p.len
  have L2p := H2.p.len
  have L1r := H1.r.len
  have L2r := H2.r.len
  have hpA : npA ≤ 9223372036854775807 := by omega
  have hpB : npB ≤ 9223372036854775807 := by omega
  have hrA : nrA ≤ 9223372036854775807 := by omega
  have hrB : nrB ≤ 9223372036854775807 := by omega
  have X1 := hid_of H1
  have X2 := hid_of H2
  have IH := hid_of ih
  obtain ⟨qn, hqn⟩ : ∃ q, q = decide (ns' = u.ns) := ⟨_, rfl⟩
  rw [← hqn] at CN
  have HQN := hid_of hqn
  have HL : Hid (npA = ps'.length ∧ npB = u.ps.length ∧ nrA = rs'.length ∧ nrB = u.rs.length) := hid_of ⟨L1p.1, L2p.1, L1r.1, L2r.1⟩
  clear hr hr0 H1 H2 ih hqn L1p L2p L1r L2r
  by_cases hk : kA = kB
  case neg =>
    have RF : Hid (false = r) := hid_of (by rw [HR.out, decide_eq_false hk]; rfl)
    have e1 : (kA == kB) = false := beq_eq_false_iff_ne.2 hk
    have e1' : (kA != kB) = true := bne_iff_ne.2 hk
    clear hk
    go_enter Try.func13, Try.ntmps13
    go_wp2
    go_ret
    exact ⟨ret_b RF.out, HBB.out⟩
  by_cases hlo : loA = loB
  case neg =>
    have RF : Hid (false = r) := hid_of (by rw [HR.out, decide_eq_false hlo]; simp)
    have e1 : (kA == kB) = true := beq_iff_eq.2 hk
    have e1' : (kA != kB) = false := by simp [hk]
    have e2 : (loA == loB) = false := beq_eq_false_iff_ne.2 hlo
    have e2' : (loA != loB) = true := bne_iff_ne.2 hlo
    clear hk hlo
    go_enter Try.func13, Try.ntmps13
    go_wp2
    go_ret
    exact ⟨ret_b RF.out, HBB.out⟩
  by_cases hhi : hiA = hiB
  case neg =>
    have RF : Hid (false = r) := hid_of (by rw [HR.out, decide_eq_false hhi]; simp)
    have e1 : (kA == kB) = true := beq_iff_eq.2 hk
    have e1' : (kA != kB) = false := by simp [hk]
    have e2 : (loA == loB) = true := beq_iff_eq.2 hlo
    have e2' : (loA != loB) = false := by simp [hlo]
    have e3 : (hiA == hiB) = false := beq_eq_false_iff_ne.2 hhi
    have e3' : (hiA != hiB) = true := bne_iff_ne.2 hhi
    clear hk hlo hhi
    go_enter Try.func13, Try.ntmps13
    go_wp2
    go_ret
    exact ⟨ret_b RF.out, HBB.out⟩
  have e1 : (kA == kB) = true := beq_iff_eq.2 hk
  have e1' : (kA != kB) = false := by simp [hk]
  have e2 : (loA == loB) = true := beq_iff_eq.2 hlo
  have e2' : (loA != loB) = false := by simp [hlo]
  have e3 : (hiA == hiB) = true := beq_iff_eq.2 hhi
  have e3' : (hiA != hiB) = false := by simp [hhi]
  have HR2 : Hid (r = (qn && decide (ps' = u.ps) && decide (rs' = u.rs))) := hid_of (by rw [HR.out, decide_eq_true hk, decide_eq_true hlo, decide_eq_true hhi, HQN.out]; rfl)
  clear hk hlo hhi HR
  cases qn
  · have RF : Hid (false = r) := hid_of (by rw [HR2.out]; rfl)
    go_enter Try.func13, Try.ntmps13
    go_wp2_with (go_at_call 36; ((with_reducible refine (CN.out _ HBB.out).mono ?_); (rintro e w2 ⟨rfl, h2⟩)); (have K2 := hid_of h2); (obtain ⟨a0, a1, a2, a3, a4, a5, b0, b1, b2, b3, b4, b5⟩ := HC.out w2 h2); clear h2)
    go_ret
    exact ⟨ret_b RF.out, HBB.out.trans (K2.out.mono HBB.out.size)⟩
  by_cases hp : npA = npB
  case neg =>
    have RF : Hid (false = r) := hid_of (by rw [HR2.out, decide_eq_false (p := ps' = u.ps) (fun h => hp (by rw [HL.out.1, HL.out.2.1, h]))]; rfl)
    have f1 : (npA == npB) = false := beq_eq_false_iff_ne.2 hp
    have f2 : ((npA : Int) == (npB : Int)) = false := beq_eq_false_iff_ne.2 (by omega)
    have f3 : ((npA : Int) != (npB : Int)) = true := bne_iff_ne.2 (by omega)
    clear hp
    go_enter Try.func13, Try.ntmps13
    go_wp2_with (go_at_call 36; ((with_reducible refine (CN.out _ HBB.out).mono ?_); (rintro e w2 ⟨rfl, h2⟩)); (have K2 := hid_of h2); (obtain ⟨a0, a1, a2, a3, a4, a5, b0, b1, b2, b3, b4, b5⟩ := HC.out w2 h2); clear h2)
    go_ret
    exact ⟨ret_b RF.out, HBB.out.trans (K2.out.mono HBB.out.size)⟩
  by_cases hrr : nrA = nrB
  case neg =>
    subst hp
    have RF : Hid (false = r) := hid_of (by rw [HR2.out, decide_eq_false (p := rs' = u.rs) (fun h => hrr (by rw [HL.out.2.2.1, HL.out.2.2.2, h])), Bool.and_false])
    have f1 : (nrA == nrB) = false := beq_eq_false_iff_ne.2 hrr
    have f2 : ((nrA : Int) == (nrB : Int)) = false := beq_eq_false_iff_ne.2 (by omega)
    have f3 : ((nrA : Int) != (nrB : Int)) = true := bne_iff_ne.2 (by omega)
    clear hrr
    go_enter Try.func13, Try.ntmps13
    go_wp2_with (go_at_call 36; ((with_reducible refine (CN.out _ HBB.out).mono ?_); (rintro e w2 ⟨rfl, h2⟩)); (have K2 := hid_of h2); (obtain ⟨a0, a1, a2, a3, a4, a5, b0, b1, b2, b3, b4, b5⟩ := HC.out w2 h2); clear h2)
    go_ret
    exact ⟨ret_b RF.out, HBB.out.trans (K2.out.mono HBB.out.size)⟩
  subst hp hrr
  go_enter Try.func13, Try.ntmps13
  go_wp2_with (go_at_call 36; ((with_reducible refine (CN.out _ HBB.out).mono ?_); (rintro e w2 ⟨rfl, h2⟩)); (have K2 := hid_of h2); (obtain ⟨a0, a1, a2, a3, a4, a5, b0, b1, b2, b3, b4, b5⟩ := HC.out w2 h2); clear h2)
  obtain ⟨WW, hWW⟩ : ∃ WW, WW = ((w.alloc (.cells #[.int .i64 kA, .int .i64 loA, .int .i64 hiA, .slice anA nnA cnA, .slice apA npA cpA, .slice arA nrA crA] 26)).alloc (.cells #[.int .i64 kB, .int .i64 loB, .int .i64 hiB, .slice anB nnB cnB, .slice apB npA cpB, .slice arB nrA crB] 26)) := ⟨_, rfl⟩
  rw [← hWW] at K2 HC HBB
  clear hWW
  clear a0 a1 a2 a3 a4 a5 b0 b1 b2 b3 b4 b5
  go_loopw [5] (fun iv wr => ∃ i : Nat, iv = .int .i64 i ∧ i ≤ nrA ∧ Hid (∀ j, j < i → rs'[j]? = u.rs[j]?) ∧ Hid (Below WW.heap.size WW wr)) (fun iv _ => nrA - (intOf iv).toNat)
  case atStart => exact ⟨0, rfl, Nat.zero_le _, hid_of (fun j h => absurd h (Nat.not_lt_zero j)), K2⟩
  case round =>
    clear K2
    obtain ⟨i, rfl, hi, HM, hb⟩ := hrel
    obtain ⟨a0, a1, a2, a3, a4, a5, b0, b1, b2, b3, b4, b5⟩ := HC.out wr hb.out
    by_cases hlt : i < nrA
    · have d1 : decide (i < nrA) = true := decide_eq_true hlt
      have hlt' : (i : Int) < (nrA : Int) := by omega
      have HLT := hid_of hlt
      have hl : i < rs'.length := by have := HL.out; omega
      have hm : i < u.rs.length := by have := HL.out; omega
      obtain ⟨g, o, aX, kX, dX, rfl, RX, hcX⟩ := X1.out.r.get (List.getElem?_eq_getElem hl)
      obtain ⟨g2, o2, aY, kY, dY, rfl, RY, hcY⟩ := X2.out.r.get (List.getElem?_eq_getElem hm)
      have hbw : Below w.heap.size w wr := HBB.out.trans (hb.out.mono HBB.out.size)
      obtain ⟨c0, c1⟩ := hcX wr hbw
      obtain ⟨d0, d2⟩ := hcY wr hbw
      obtain ⟨bx, hx⟩ : ∃ bx, bx = ba rs'[i].2 := ⟨_, rfl⟩
      obtain ⟨bz, hz⟩ : ∃ bz, bz = ba u.rs[i].2 := ⟨_, rfl⟩
      rw [← hx] at c1
      rw [← hz] at d2
      have RQ : Hid (∀ m, Calls Try.prog 36 #[.slice aX kX dX, .slice aY kY dY] (wr.drewN m) fun e w' => e = .returned (.bool (decide (rs'[i].1 = u.rs[i].1))) ∧ ∃ m', w' = (wr.drewN m).drewN m') := hid_of (fun m => rnames_q _ _ aX aY kX kY dX dY _ (RX.at (bel_drewN hbw m)) (RY.at (bel_drewN hbw m)))
      obtain ⟨q, hq⟩ : ∃ q, q = decide (rs'[i].1 = u.rs[i].1) := ⟨_, rfl⟩
      rw [← hq] at RQ
      have HLX := hid_of hl
      have HMX := hid_of hm
      by_cases he : rs'[i].2 = u.rs[i].2
      case neg =>
        have et := eq_f hx hz he
        have RF : Hid (false = r) := hid_of (by
          rw [HR2.out, decide_eq_false (p := rs' = u.rs) (fun h => he (by subst h; rfl)), Bool.and_false])
        clear hlt hl hm hcX hcY hx hz he hq hbw RX RY
        go_wp2
        go_quiet (fail)
        go_wp2
        go_ret
        exact ⟨ret_b RF.out, HBB.out.trans ((bel_drewN hb.out nq).mono HBB.out.size)⟩
      have et := eq_t hx hz he
      cases q
      · have RF : Hid (false = r) := hid_of (by
          rw [HR2.out, decide_eq_false (p := rs' = u.rs) (fun h => of_decide_eq_false hq.symm (by subst h; rfl)), Bool.and_false])
        clear hlt hl hm hcX hcY hx hz he hq hbw RX RY
        go_wp2
        go_quiet ((go_at_call 36; exact Calls.quiet_of (RQ.out _)))
        go_wp2
        go_ret
        exact ⟨ret_b RF.out, HBB.out.trans ((bel_drewN hb.out nq).mono HBB.out.size)⟩
      · have HE : Hid (∀ j, j < i + 1 → rs'[j]? = u.rs[j]?) := hid_of (fun j hj => by
          by_cases e : j = i
          · subst e
            rw [List.getElem?_eq_getElem hl, List.getElem?_eq_getElem hm]
            exact congrArg some (Prod.ext (of_decide_eq_true hq.symm) he)
          · exact HM.out j (by omega))
        clear hlt hl hm hcX hcY hx hz he hq hbw RX RY
        go_wp2
        go_quiet ((go_at_call 36; exact Calls.quiet_of (RQ.out _)))
        go_wp2
        go_roundw
        case rel => exact ⟨i + 1, by go_num, HLT.out, HE, hid_of (bel_drewN hb.out nq)⟩
        case measure => have := HLT.out; simp [intOf]; omega
    · have d1 : decide (i < nrA) = false := decide_eq_false hlt
      have HRE : Hid (rs' = u.rs) := hid_of (ext_to HL.out.2.2.1 HL.out.2.2.2 (fun j hj => HM.out j (by omega)))
      have HR3 : Hid (r = decide (ps' = u.ps)) := hid_of (by rw [HR2.out, decide_eq_true HRE.out]; simp)
      have HB0 := hb
      clear hlt hi HM
      go_wp2
      clear a0 a1 a2 a3 a4 a5 b0 b1 b2 b3 b4 b5
      go_loopw [6] (fun iv w5 => ∃ i : Nat, iv = .int .i64 i ∧ i ≤ npA ∧ Hid (∀ j, j < i → ps'[j]? = u.ps[j]?) ∧ Hid (Below WW.heap.size WW w5)) (fun iv _ => npA - (intOf iv).toNat)
      case atStart => exact ⟨0, rfl, Nat.zero_le _, hid_of (fun j h => absurd h (Nat.not_lt_zero j)), HB0⟩
      case round =>
        clear HB0 hb d1
        obtain ⟨i, rfl, hin, HM, hb⟩ := hrel
        obtain ⟨a0, a1, a2, a3, a4, a5, b0, b1, b2, b3, b4, b5⟩ := HC.out wr hb.out
        by_cases hlt : i < npA
        · have d1 : decide (i < npA) = true := decide_eq_true hlt
          have hlt' : (i : Int) < (npA : Int) := by omega
          have HLT := hid_of hlt
          have hl : i < ps'.length := by have := HL.out; omega
          have hm : i < u.ps.length := by have := HL.out; omega
          obtain ⟨g, o, kX, loX, hiX, anX, nnX, cnX, apX, npX, cpX, arX, nrX, crX, rfl, LX, hcX⟩ := X1.out.p.get (List.getElem?_eq_getElem hl)
          obtain ⟨g2, o2, kY, loY, hiY, anY, nnY, cnY, apY, npY, cpY, arY, nrY, crY, rfl, LY, hcY⟩ := X2.out.p.get (List.getElem?_eq_getElem hm)
          have hbw : Below w.heap.size w wr := HBB.out.trans (hb.out.mono HBB.out.size)
          have HX : Hid (∀ wz, Below w.heap.size w wz → _) := hid_of hcX
          have HY : Hid (∀ wz, Below w.heap.size w wz → _) := hid_of hcY
          obtain ⟨c0, c1, c2, c3, c4, c5⟩ := hcX wr hbw
          obtain ⟨d0, d2, d3, d4, d5, d6⟩ := hcY wr hbw
          have CALL := hid_of (fun (wz : World) (hz : Below w.heap.size w wz) => IH.out ps'[i] (List.getElem_mem hl) u.ps[i] kX loX hiX anX nnX cnX apX npX cpX arX nrX crX kY loY hiY anY nnY cnY apY npY cpY arY nrY crY wz (LX.at hz) (LY.at hz))
          obtain ⟨q, hq⟩ : ∃ q, q = decide (ps'[i] = u.ps[i]) := ⟨_, rfl⟩
          rw [← hq] at CALL
          have HBW5 := hid_of hbw
          cases q
          · have RF : Hid (false = r) := hid_of (by
              rw [HR3.out, decide_eq_false (p := ps' = u.ps) (fun h => of_decide_eq_false hq.symm (by subst h; rfl))])
            clear hlt hl hm hcX hcY hq hbw LX LY
            go_wp2
            have cs0 := And.intro a4 (And.intro b4 (And.intro c0 (And.intro c1 (And.intro c2 (And.intro c3 (And.intro c4 (And.intro c5 (And.intro d0 (And.intro d2 (And.intro d3 (And.intro d4 (And.intro d5 d6))))))))))))
            go_region_held3 (fun wz => wz.cell? ⟨w.heap.size, 4, none⟩ = some (.slice (some ⟨g, o, none⟩) npA cpA) ∧ wz.cell? ⟨w.heap.size + 1, 4, none⟩ = some (.slice (some ⟨g2, o2, none⟩) npA cpB) ∧ wz.cell? ⟨g, o + i * 6, none⟩ = some (.int .i64 kX) ∧ wz.cell? ⟨g, o + i * 6 + 1, none⟩ = some (.int .i64 loX) ∧ wz.cell? ⟨g, o + i * 6 + 2, none⟩ = some (.int .i64 hiX) ∧ wz.cell? ⟨g, o + i * 6 + 3, none⟩ = some (.slice anX nnX cnX) ∧ wz.cell? ⟨g, o + i * 6 + 4, none⟩ = some (.slice apX npX cpX) ∧ wz.cell? ⟨g, o + i * 6 + 5, none⟩ = some (.slice arX nrX crX) ∧ wz.cell? ⟨g2, o2 + i * 6, none⟩ = some (.int .i64 kY) ∧ wz.cell? ⟨g2, o2 + i * 6 + 1, none⟩ = some (.int .i64 loY) ∧ wz.cell? ⟨g2, o2 + i * 6 + 2, none⟩ = some (.int .i64 hiY) ∧ wz.cell? ⟨g2, o2 + i * 6 + 3, none⟩ = some (.slice anY nnY cnY) ∧ wz.cell? ⟨g2, o2 + i * 6 + 4, none⟩ = some (.slice apY npY cpY) ∧ wz.cell? ⟨g2, o2 + i * 6 + 5, none⟩ = some (.slice arY nrY crY)) (first | exact cs0 | exact cs6 | go_keep) ((go_at_call 13; ((with_reducible refine (CALL.out _ HBW5.out.drew).mono ?_); (rintro e w6 ⟨rfl, h6⟩); (have H6 := hid_of (hb.out.trans ((undrew h6).mono hb.out.size))); (have G6 := hid_of (HBW5.out.trans ((undrew h6).mono HBW5.out.size))); (obtain ⟨_, _, _, _, z4, _, _, _, _, _, z10, _⟩ := HC.out w6 H6.out); (obtain ⟨x0, x1, x2, x3, x4, x5⟩ := HX.out w6 G6.out); (obtain ⟨y0, y1, y2, y3, y4, y5⟩ := HY.out w6 G6.out); (have cs6 := And.intro z4 (And.intro z10 (And.intro x0 (And.intro x1 (And.intro x2 (And.intro x3 (And.intro x4 (And.intro x5 (And.intro y0 (And.intro y1 (And.intro y2 (And.intro y3 (And.intro y4 y5))))))))))))); clear h6)))
            all_goals go_wp2
            all_goals go_ret
            all_goals exact ⟨ret_b RF.out, HBB.out.trans (H6.out.mono HBB.out.size)⟩
          · have HE : Hid (∀ j, j < i + 1 → ps'[j]? = u.ps[j]?) := hid_of (fun j hj => by
              by_cases e : j = i
              · subst e
                rw [List.getElem?_eq_getElem hl, List.getElem?_eq_getElem hm]
                exact congrArg some (of_decide_eq_true hq.symm)
              · exact HM.out j (by omega))
            clear hlt hl hm hcX hcY hq hbw LX LY
            go_wp2
            have cs0 := And.intro a4 (And.intro b4 (And.intro c0 (And.intro c1 (And.intro c2 (And.intro c3 (And.intro c4 (And.intro c5 (And.intro d0 (And.intro d2 (And.intro d3 (And.intro d4 (And.intro d5 d6))))))))))))
            go_region_held3 (fun wz => wz.cell? ⟨w.heap.size, 4, none⟩ = some (.slice (some ⟨g, o, none⟩) npA cpA) ∧ wz.cell? ⟨w.heap.size + 1, 4, none⟩ = some (.slice (some ⟨g2, o2, none⟩) npA cpB) ∧ wz.cell? ⟨g, o + i * 6, none⟩ = some (.int .i64 kX) ∧ wz.cell? ⟨g, o + i * 6 + 1, none⟩ = some (.int .i64 loX) ∧ wz.cell? ⟨g, o + i * 6 + 2, none⟩ = some (.int .i64 hiX) ∧ wz.cell? ⟨g, o + i * 6 + 3, none⟩ = some (.slice anX nnX cnX) ∧ wz.cell? ⟨g, o + i * 6 + 4, none⟩ = some (.slice apX npX cpX) ∧ wz.cell? ⟨g, o + i * 6 + 5, none⟩ = some (.slice arX nrX crX) ∧ wz.cell? ⟨g2, o2 + i * 6, none⟩ = some (.int .i64 kY) ∧ wz.cell? ⟨g2, o2 + i * 6 + 1, none⟩ = some (.int .i64 loY) ∧ wz.cell? ⟨g2, o2 + i * 6 + 2, none⟩ = some (.int .i64 hiY) ∧ wz.cell? ⟨g2, o2 + i * 6 + 3, none⟩ = some (.slice anY nnY cnY) ∧ wz.cell? ⟨g2, o2 + i * 6 + 4, none⟩ = some (.slice apY npY cpY) ∧ wz.cell? ⟨g2, o2 + i * 6 + 5, none⟩ = some (.slice arY nrY crY)) (first | exact cs0 | exact cs6 | go_keep) ((go_at_call 13; ((with_reducible refine (CALL.out _ HBW5.out.drew).mono ?_); (rintro e w6 ⟨rfl, h6⟩); (have H6 := hid_of (hb.out.trans ((undrew h6).mono hb.out.size))); (have G6 := hid_of (HBW5.out.trans ((undrew h6).mono HBW5.out.size))); (obtain ⟨_, _, _, _, z4, _, _, _, _, _, z10, _⟩ := HC.out w6 H6.out); (obtain ⟨x0, x1, x2, x3, x4, x5⟩ := HX.out w6 G6.out); (obtain ⟨y0, y1, y2, y3, y4, y5⟩ := HY.out w6 G6.out); (have cs6 := And.intro z4 (And.intro z10 (And.intro x0 (And.intro x1 (And.intro x2 (And.intro x3 (And.intro x4 (And.intro x5 (And.intro y0 (And.intro y1 (And.intro y2 (And.intro y3 (And.intro y4 y5))))))))))))); clear h6)))
            all_goals go_wp2
            go_roundw
            case rel => exact ⟨i + 1, by go_num, HLT.out, HE, H6⟩
            case measure => have := HLT.out; simp [intOf]; omega
        · have d1 : decide (i < npA) = false := decide_eq_false hlt
          have RT : Hid (true = r) := hid_of (by
            rw [HR3.out]
            exact (decide_eq_true (ext_to HL.out.1 HL.out.2.1 (fun j hj => HM.out j (by omega)))).symm)
          clear hlt
          go_wp2
          go_ret
          exact ⟨ret_b RT.out, HBB.out.trans (hb.out.mono HBB.out.size)⟩
end Go.Proofs.Ytdmonbcinlmljaa
