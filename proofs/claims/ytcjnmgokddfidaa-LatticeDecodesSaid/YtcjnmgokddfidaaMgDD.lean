/- Texts in one: LatWr, LatDmx, LatAwk, LatEc, WireRdD, LatQk, LatQs. -/
import Derived.Test.YtcjnmgokddfidaaMgDC
set_option linter.unusedVariables false
set_option linter.unusedSimpArgs false
/- write of package lattice. Bounds on sizes alone. -/
namespace Go.Proofs.Ytcjnmgokddfidaa
open Go.RowKit
set_option maxRecDepth 100000
set_option maxHeartbeats 3200000

/-- The contract of write, for a tree. -/
def WP (w0 : World) (b : Nat) (t : Lat) : Prop := ∀ (k lo hi : Int) (an : Option Addr) (nn cn : Nat) (ap : Option Addr) (np cp : Nat) (ar : Option Addr) (nr cr : Nat) (w : World) (v : Value) (l : List Int), LO w0 k lo hi an nn cn ap np cp ar nr cr t → Below w0.heap.size w0 w → w0.heap.size ≤ b → Wr.Wst w0.heap.size b w v l → l.length + (encL t).length ≤ 60000000000000 →
  Calls Try.prog 21 #[.pointer (some ⟨b, 0, none⟩), .agg #[.int .i64 k, .int .i64 lo, .int .i64 hi, .slice an nn cn, .slice ap np cp, .slice ar nr cr]] w fun e w' => e = .returned (.tuple #[]) ∧ WK w0.heap.size b w v w' (l ++ encL t)
theorem encL_k (t : Lat) : encL t = Wr.enc t.k.toNat ++ (if t.k = 2 ∨ t.k = 3 then Wr.enc (Wr.zig t.lo) ++ Wr.enc (Wr.zig t.hi) else if t.k = 4 ∨ t.k = 8 then nsE t.ns else if t.k = 5 then nsE t.ns ++ encLs t.ps else if t.k = 6 then Wr.enc t.ns.length ++ encPs t.ns t.ps else if t.k = 7 then encLs t.ps else if t.k = 10 then nsE t.ns ++ rsE t.rs else []) := by
  cases t
  rw [encL]
  rfl
theorem wr_box {B b : Nat} {w : World} {v : Value} {l : List Int} (h : Wr.Wst B b w v l) (x0 x1 x2 x3 x4 x5 : Value) {w' : World} {l' : List Int} (k : WK B b (w.alloc (.cells #[x0, x1, x2, x3, x4, x5] 26)) v w' l') :
    w'.cell? ⟨w.heap.size, 0, none⟩ = some x0 ∧ w'.cell? ⟨w.heap.size, 1, none⟩ = some x1 ∧ w'.cell? ⟨w.heap.size, 2, none⟩ = some x2 ∧ w'.cell? ⟨w.heap.size, 3, none⟩ = some x3 ∧ w'.cell? ⟨w.heap.size, 4, none⟩ = some x4 ∧ w'.cell? ⟨w.heap.size, 5, none⟩ = some x5 := by
  have hb := lt_of_block h.blk
  have e := (k.blk (k := w.heap.size) (by simp) (by omega) (fun hs => by have := (h.own.lt _ hs).2; omega)).trans (heap_alloc_new w (.cells [x0, x1, x2, x3, x4, x5].toArray 26 (0, 0)))
  exact ⟨cell_blk e rfl, cell_blk e rfl, cell_blk e rfl, cell_blk e rfl, cell_blk e rfl, cell_blk e rfl⟩
/-- write of a part, behind. -/
theorem wp_wk {w0 : World} {b : Nat} {p : Lat} (ih : WP w0 b p) {k lo hi : Int} {an : Option Addr} {nn cn : Nat} {ap : Option Addr} {np cp : Nat} {ar : Option Addr} {nr cr : Nat} {wa w : World} {va : Value} {l : List Int} (H : LO w0 k lo hi an nn cn ap np cp ar nr cr p) (h : WK w0.heap.size b wa va w l) (hb0 : Below w0.heap.size w0 wa) (hl : l.length + (encL p).length ≤ 60000000000000) :
    Calls Try.prog 21 #[.pointer (some ⟨b, 0, none⟩), .agg #[.int .i64 k, .int .i64 lo, .int .i64 hi, .slice an nn cn, .slice ap np cp, .slice ar nr cr]] w fun e w' => e = .returned (.tuple #[]) ∧ WK w0.heap.size b wa va w' (l ++ encL p) :=
  h.call fun v hv => ih k lo hi an nn cn ap np cp ar nr cr w v l H (hb0.trans h.bel) h.hb hv hl
theorem shape_5 {t : Lat} (h : shapeB t = true) (hk : t.k = 5) : t.ps.length = 1 := by
  unfold shapeB at h
  rw [hk] at h
  simp at h
  exact h.2.2.2
theorem shape_7 {t : Lat} (h : shapeB t = true) (hk : t.k = 7) : t.ps.length = 2 := by
  unfold shapeB at h
  rw [hk] at h
  simp at h
  exact h.2.2.2.1
theorem shape_6 {t : Lat} (h : shapeB t = true) (hk : t.k = 6) : t.ps.length = t.ns.length := by
  unfold shapeB at h
  rw [hk] at h
  simp at h
  exact h.2.2.2.1
theorem encPs_snoc : ∀ (ns : List Str) (ps : List Lat) (j : Nat) (x : Str) (p : Lat), ns[j]? = some x → ps[j]? = some p → encPs (ns.take (j + 1)) (ps.take (j + 1)) = encPs (ns.take j) (ps.take j) ++ (txE x ++ encL p)
  | [], _, _, _, _, h, _ => by simp at h
  | _ :: _, [], _, _, _, _, h => by simp at h
  | n :: ns, q :: ps, 0, x, p, h, h2 => by
    simp at h h2
    subst h h2
    simp [encPs_cons, encPs_nil]
  | n :: ns, q :: ps, j + 1, x, p, h, h2 => by
    have ih := encPs_snoc ns ps j x p (by simpa using h) (by simpa using h2)
    rw [List.take_succ_cons, List.take_succ_cons, encPs_cons, ih, List.take_succ_cons, List.take_succ_cons, encPs_cons]
    simp only [List.append_assoc]
theorem encPs_pre : ∀ (ns : List Str) (ps : List Lat) (j : Nat), j ≤ ns.length → ns.length = ps.length → (encPs (ns.take j) (ps.take j)).length ≤ (encPs ns ps).length
  | [], ps, j, _, _ => by simp [encPs_nil]
  | _ :: _, [], _, _, h => by simp at h
  | n :: ns, p :: ps, 0, _, _ => by simp [encPs_nil]
  | n :: ns, p :: ps, j + 1, h, h2 => by
    have ih := encPs_pre ns ps j (by simpa using h) (by simpa using h2)
    rw [List.take_succ_cons, List.take_succ_cons, encPs_cons, encPs_cons]
    simp only [List.length_append]
    omega
theorem rule_box {B b : Nat} {w : World} {v : Value} {l : List Int} (h : Wr.Wst B b w v l) (x0 x1 : Value) {w' : World} {l' : List Int} (k : WK B b (w.alloc (.cells #[x0, x1] 58)) v w' l') : w'.cell? ⟨w.heap.size, 0, none⟩ = some x0 ∧ w'.cell? ⟨w.heap.size, 1, none⟩ = some x1 := by
  have hb := lt_of_block h.blk
  have e := (k.blk (k := w.heap.size) (by simp) (by omega) (fun hs => by have := (h.own.lt _ hs).2; omega)).trans (heap_alloc_new w (.cells [x0, x1].toArray 58 (0, 0)))
  exact ⟨cell_blk e rfl, cell_blk e rfl⟩
theorem one_of {ps : List Lat} {p : Lat} (h : ps.length = 1) (hp : ps[0]? = some p) : ps = [p] := by
  match ps, h with
  | [a], _ => simpa using hp
theorem two_of {ps : List Lat} {p q : Lat} (h : ps.length = 2) (hp : ps[0]? = some p) (hq : ps[1]? = some q) : ps = [p, q] := by
  match ps, h with
  | [a, c], _ => simp at hp hq; rw [hp, hq]
section
variable (b : Nat) (lo hi : Int) (an : Option Addr) (nn cn : Nat) (ap : Option Addr) (np cp : Nat) (ar : Option Addr) (nr cr : Nat) (t : Lat) (w0 w : World) (v : Value) (l : List Int)
theorem wr_1 (H : LO w0 1 lo hi an nn cn ap np cp ar nr cr t) (hok : Okay t) (hb0 : Below w0.heap.size w0 w) (hb : w0.heap.size ≤ b) (h : Wr.Wst w0.heap.size b w v l) (hl : l.length + (encL t).length ≤ 60000000000000) (IH : ∀ p ∈ t.ps, WP w0 b p) :
    Calls Try.prog 21 #[.pointer (some ⟨b, 0, none⟩), .agg #[.int .i64 1, .int .i64 lo, .int .i64 hi, .slice an nn cn, .slice ap np cp, .slice ar nr cr]] w fun e w' => e = .returned (.tuple #[]) ∧ WK w0.heap.size b w v w' (l ++ encL t) := by
  have hk : t.k = 1 := H.hk.symm
  have hN := hok.node
  have hBW := hb0.size
  have HBA := hid_of (hb0.trans ((bel_alloc w (.cells #[.int .i64 1, .int .i64 lo, .int .i64 hi, .slice an nn cn, .slice ap np cp, .slice ar nr cr] 26)).mono hb0.size))
  have KA := hid_of (WK.start (h.alloc (.cells #[.int .i64 1, .int .i64 lo, .int .i64 hi, .slice an nn cn, .slice ap np cp, .slice ar nr cr] 26)) hb (Nat.le_trans hBW (by simp)))
  have HBX : Hid (∀ w' l', WK w0.heap.size b (w.alloc (.cells #[.int .i64 1, .int .i64 lo, .int .i64 hi, .slice an nn cn, .slice ap np cp, .slice ar nr cr] 26)) v w' l' → _) := hid_of (fun w' l' k => wr_box h _ _ _ _ _ _ k)
  have HE : Hid (encL t = Wr.enc 1 ++ ([] : List Int)) := hid_of (by
    rw [encL_k, hk, if_neg (by decide : ¬((1 : Int) = 2 ∨ (1 : Int) = 3)), if_neg (by decide : ¬((1 : Int) = 4 ∨ (1 : Int) = 8)), if_neg (by decide : ¬((1 : Int) = 5)), if_neg (by decide : ¬((1 : Int) = 6)), if_neg (by decide : ¬((1 : Int) = 7)), if_neg (by decide : ¬((1 : Int) = 10))]
    rfl)
  have HL : Hid (l.length + (Wr.enc 1).length + (([] : List Int)).length ≤ 60000000000000) := hid_of (by
    have h1 := hl
    rw [HE.out, List.length_append] at h1
    omega)
  have C0 := hid_of (show Calls Try.prog 45 #[.pointer (some ⟨b, 0, none⟩), .int .u64 1] _ _ from uint_wk 1 KA.out (by omega) (by omega))
  clear H hok hb0 hb h hl IH hk hN
  go_enter Try.func21, Try.ntmps21
  go_wp2_with (go_at_call 45; ((with_reducible refine (C0.out).mono ?_); (rintro e w1 ⟨rfl, q1⟩)); have K1 := hid_of q1; obtain ⟨a0, a1, a2, a3, a4, a5⟩ := HBX.out w1 _ q1; clear q1)
  go_end0
  have R := K1.out
  exact ⟨rfl, by rw [HE.out]; have := R.of_alloc hBW; simpa only [List.append_assoc, List.append_nil] using this⟩
theorem wr_9 (H : LO w0 9 lo hi an nn cn ap np cp ar nr cr t) (hok : Okay t) (hb0 : Below w0.heap.size w0 w) (hb : w0.heap.size ≤ b) (h : Wr.Wst w0.heap.size b w v l) (hl : l.length + (encL t).length ≤ 60000000000000) (IH : ∀ p ∈ t.ps, WP w0 b p) :
    Calls Try.prog 21 #[.pointer (some ⟨b, 0, none⟩), .agg #[.int .i64 9, .int .i64 lo, .int .i64 hi, .slice an nn cn, .slice ap np cp, .slice ar nr cr]] w fun e w' => e = .returned (.tuple #[]) ∧ WK w0.heap.size b w v w' (l ++ encL t) := by
  have hk : t.k = 9 := H.hk.symm
  have hN := hok.node
  have hBW := hb0.size
  have HBA := hid_of (hb0.trans ((bel_alloc w (.cells #[.int .i64 9, .int .i64 lo, .int .i64 hi, .slice an nn cn, .slice ap np cp, .slice ar nr cr] 26)).mono hb0.size))
  have KA := hid_of (WK.start (h.alloc (.cells #[.int .i64 9, .int .i64 lo, .int .i64 hi, .slice an nn cn, .slice ap np cp, .slice ar nr cr] 26)) hb (Nat.le_trans hBW (by simp)))
  have HBX : Hid (∀ w' l', WK w0.heap.size b (w.alloc (.cells #[.int .i64 9, .int .i64 lo, .int .i64 hi, .slice an nn cn, .slice ap np cp, .slice ar nr cr] 26)) v w' l' → _) := hid_of (fun w' l' k => wr_box h _ _ _ _ _ _ k)
  have HE : Hid (encL t = Wr.enc 9 ++ ([] : List Int)) := hid_of (by
    rw [encL_k, hk, if_neg (by decide : ¬((9 : Int) = 2 ∨ (9 : Int) = 3)), if_neg (by decide : ¬((9 : Int) = 4 ∨ (9 : Int) = 8)), if_neg (by decide : ¬((9 : Int) = 5)), if_neg (by decide : ¬((9 : Int) = 6)), if_neg (by decide : ¬((9 : Int) = 7)), if_neg (by decide : ¬((9 : Int) = 10))]
    rfl)
  have HL : Hid (l.length + (Wr.enc 9).length + (([] : List Int)).length ≤ 60000000000000) := hid_of (by
    have h1 := hl
    rw [HE.out, List.length_append] at h1
    omega)
  have C0 := hid_of (show Calls Try.prog 45 #[.pointer (some ⟨b, 0, none⟩), .int .u64 9] _ _ from uint_wk 9 KA.out (by omega) (by omega))
  clear H hok hb0 hb h hl IH hk hN
  go_enter Try.func21, Try.ntmps21
  go_wp2_with (go_at_call 45; ((with_reducible refine (C0.out).mono ?_); (rintro e w1 ⟨rfl, q1⟩)); have K1 := hid_of q1; obtain ⟨a0, a1, a2, a3, a4, a5⟩ := HBX.out w1 _ q1; clear q1)
  go_end0
  have R := K1.out
  exact ⟨rfl, by rw [HE.out]; have := R.of_alloc hBW; simpa only [List.append_assoc, List.append_nil] using this⟩
theorem wr_2 (H : LO w0 2 lo hi an nn cn ap np cp ar nr cr t) (hok : Okay t) (hb0 : Below w0.heap.size w0 w) (hb : w0.heap.size ≤ b) (h : Wr.Wst w0.heap.size b w v l) (hl : l.length + (encL t).length ≤ 60000000000000) (IH : ∀ p ∈ t.ps, WP w0 b p) :
    Calls Try.prog 21 #[.pointer (some ⟨b, 0, none⟩), .agg #[.int .i64 2, .int .i64 lo, .int .i64 hi, .slice an nn cn, .slice ap np cp, .slice ar nr cr]] w fun e w' => e = .returned (.tuple #[]) ∧ WK w0.heap.size b w v w' (l ++ encL t) := by
  have hk : t.k = 2 := H.hk.symm
  have hN := hok.node
  have hBW := hb0.size
  have HBA := hid_of (hb0.trans ((bel_alloc w (.cells #[.int .i64 2, .int .i64 lo, .int .i64 hi, .slice an nn cn, .slice ap np cp, .slice ar nr cr] 26)).mono hb0.size))
  have KA := hid_of (WK.start (h.alloc (.cells #[.int .i64 2, .int .i64 lo, .int .i64 hi, .slice an nn cn, .slice ap np cp, .slice ar nr cr] 26)) hb (Nat.le_trans hBW (by simp)))
  have HBX : Hid (∀ w' l', WK w0.heap.size b (w.alloc (.cells #[.int .i64 2, .int .i64 lo, .int .i64 hi, .slice an nn cn, .slice ap np cp, .slice ar nr cr] 26)) v w' l' → _) := hid_of (fun w' l' k => wr_box h _ _ _ _ _ _ k)
  have HE : Hid (encL t = Wr.enc 2 ++ (Wr.enc (Wr.zig lo) ++ Wr.enc (Wr.zig hi))) := hid_of (by
    rw [encL_k, hk, if_pos (by decide : (2 : Int) = 2 ∨ (2 : Int) = 3), H.hlo, H.hhi]
    rfl)
  have HL : Hid (l.length + (Wr.enc 2).length + ((Wr.enc (Wr.zig lo) ++ Wr.enc (Wr.zig hi))).length ≤ 60000000000000) := hid_of (by
    have h1 := hl
    rw [HE.out, List.length_append] at h1
    omega)
  have C0 := hid_of (show Calls Try.prog 45 #[.pointer (some ⟨b, 0, none⟩), .int .u64 2] _ _ from uint_wk 2 KA.out (by omega) (by omega))
  have C1 : Hid (∀ w1, WK w0.heap.size b (w.alloc (.cells #[.int .i64 2, .int .i64 lo, .int .i64 hi, .slice an nn cn, .slice ap np cp, .slice ar nr cr] 26)) v w1 (l ++ Wr.enc 2) → _) := hid_of (fun w1 k => int_wk lo k H.rlo (by have := HL.out; rw [List.length_append]; omega))
  have C2 : Hid (∀ w1, WK w0.heap.size b (w.alloc (.cells #[.int .i64 2, .int .i64 lo, .int .i64 hi, .slice an nn cn, .slice ap np cp, .slice ar nr cr] 26)) v w1 (l ++ Wr.enc 2 ++ Wr.enc (Wr.zig lo)) → _) := hid_of (fun w1 k => int_wk hi k H.rhi (by have := HL.out; simp only [List.length_append] at this ⊢; omega))
  clear H hok hb0 hb h hl IH hk hN
  go_enter Try.func21, Try.ntmps21
  go_wp2_with (first
    | (go_at_call 45; ((with_reducible refine (C0.out).mono ?_); (rintro e w1 ⟨rfl, q1⟩)); have K1 := hid_of q1; obtain ⟨a0, a1, a2, a3, a4, a5⟩ := HBX.out w1 _ q1; clear q1)
    | (go_at_call 46; ((with_reducible refine (C1.out w1 K1.out).mono ?_); (rintro e w2 ⟨rfl, q1⟩)); have K2 := hid_of q1; obtain ⟨d0, d1, d2, d3, d4, d5⟩ := HBX.out w2 _ q1; clear q1)
    | (go_at_call 46; ((with_reducible refine (C2.out w2 K2.out).mono ?_); (rintro e w3 ⟨rfl, q1⟩)); have K3 := hid_of q1; clear q1))
  go_end0
  have R := K3.out
  exact ⟨rfl, by rw [HE.out]; have := R.of_alloc hBW; simpa only [List.append_assoc, List.append_nil] using this⟩
theorem wr_3 (H : LO w0 3 lo hi an nn cn ap np cp ar nr cr t) (hok : Okay t) (hb0 : Below w0.heap.size w0 w) (hb : w0.heap.size ≤ b) (h : Wr.Wst w0.heap.size b w v l) (hl : l.length + (encL t).length ≤ 60000000000000) (IH : ∀ p ∈ t.ps, WP w0 b p) :
    Calls Try.prog 21 #[.pointer (some ⟨b, 0, none⟩), .agg #[.int .i64 3, .int .i64 lo, .int .i64 hi, .slice an nn cn, .slice ap np cp, .slice ar nr cr]] w fun e w' => e = .returned (.tuple #[]) ∧ WK w0.heap.size b w v w' (l ++ encL t) := by
  have hk : t.k = 3 := H.hk.symm
  have hN := hok.node
  have hBW := hb0.size
  have HBA := hid_of (hb0.trans ((bel_alloc w (.cells #[.int .i64 3, .int .i64 lo, .int .i64 hi, .slice an nn cn, .slice ap np cp, .slice ar nr cr] 26)).mono hb0.size))
  have KA := hid_of (WK.start (h.alloc (.cells #[.int .i64 3, .int .i64 lo, .int .i64 hi, .slice an nn cn, .slice ap np cp, .slice ar nr cr] 26)) hb (Nat.le_trans hBW (by simp)))
  have HBX : Hid (∀ w' l', WK w0.heap.size b (w.alloc (.cells #[.int .i64 3, .int .i64 lo, .int .i64 hi, .slice an nn cn, .slice ap np cp, .slice ar nr cr] 26)) v w' l' → _) := hid_of (fun w' l' k => wr_box h _ _ _ _ _ _ k)
  have HE : Hid (encL t = Wr.enc 3 ++ (Wr.enc (Wr.zig lo) ++ Wr.enc (Wr.zig hi))) := hid_of (by
    rw [encL_k, hk, if_pos (by decide : (3 : Int) = 2 ∨ (3 : Int) = 3), H.hlo, H.hhi]
    rfl)
  have HL : Hid (l.length + (Wr.enc 3).length + ((Wr.enc (Wr.zig lo) ++ Wr.enc (Wr.zig hi))).length ≤ 60000000000000) := hid_of (by
    have h1 := hl
    rw [HE.out, List.length_append] at h1
    omega)
  have C0 := hid_of (show Calls Try.prog 45 #[.pointer (some ⟨b, 0, none⟩), .int .u64 3] _ _ from uint_wk 3 KA.out (by omega) (by omega))
  have C1 : Hid (∀ w1, WK w0.heap.size b (w.alloc (.cells #[.int .i64 3, .int .i64 lo, .int .i64 hi, .slice an nn cn, .slice ap np cp, .slice ar nr cr] 26)) v w1 (l ++ Wr.enc 3) → _) := hid_of (fun w1 k => int_wk lo k H.rlo (by have := HL.out; rw [List.length_append]; omega))
  have C2 : Hid (∀ w1, WK w0.heap.size b (w.alloc (.cells #[.int .i64 3, .int .i64 lo, .int .i64 hi, .slice an nn cn, .slice ap np cp, .slice ar nr cr] 26)) v w1 (l ++ Wr.enc 3 ++ Wr.enc (Wr.zig lo)) → _) := hid_of (fun w1 k => int_wk hi k H.rhi (by have := HL.out; simp only [List.length_append] at this ⊢; omega))
  clear H hok hb0 hb h hl IH hk hN
  go_enter Try.func21, Try.ntmps21
  go_wp2_with (first
    | (go_at_call 45; ((with_reducible refine (C0.out).mono ?_); (rintro e w1 ⟨rfl, q1⟩)); have K1 := hid_of q1; obtain ⟨a0, a1, a2, a3, a4, a5⟩ := HBX.out w1 _ q1; clear q1)
    | (go_at_call 46; ((with_reducible refine (C1.out w1 K1.out).mono ?_); (rintro e w2 ⟨rfl, q1⟩)); have K2 := hid_of q1; obtain ⟨d0, d1, d2, d3, d4, d5⟩ := HBX.out w2 _ q1; clear q1)
    | (go_at_call 46; ((with_reducible refine (C2.out w2 K2.out).mono ?_); (rintro e w3 ⟨rfl, q1⟩)); have K3 := hid_of q1; clear q1))
  go_end0
  have R := K3.out
  exact ⟨rfl, by rw [HE.out]; have := R.of_alloc hBW; simpa only [List.append_assoc, List.append_nil] using this⟩
theorem wr_4 (H : LO w0 4 lo hi an nn cn ap np cp ar nr cr t) (hok : Okay t) (hb0 : Below w0.heap.size w0 w) (hb : w0.heap.size ≤ b) (h : Wr.Wst w0.heap.size b w v l) (hl : l.length + (encL t).length ≤ 60000000000000) (IH : ∀ p ∈ t.ps, WP w0 b p) :
    Calls Try.prog 21 #[.pointer (some ⟨b, 0, none⟩), .agg #[.int .i64 4, .int .i64 lo, .int .i64 hi, .slice an nn cn, .slice ap np cp, .slice ar nr cr]] w fun e w' => e = .returned (.tuple #[]) ∧ WK w0.heap.size b w v w' (l ++ encL t) := by
  have hk : t.k = 4 := H.hk.symm
  have hN := hok.node
  have hBW := hb0.size
  have HBA := hid_of (hb0.trans ((bel_alloc w (.cells #[.int .i64 4, .int .i64 lo, .int .i64 hi, .slice an nn cn, .slice ap np cp, .slice ar nr cr] 26)).mono hb0.size))
  have KA := hid_of (WK.start (h.alloc (.cells #[.int .i64 4, .int .i64 lo, .int .i64 hi, .slice an nn cn, .slice ap np cp, .slice ar nr cr] 26)) hb (Nat.le_trans hBW (by simp)))
  have HBX : Hid (∀ w' l', WK w0.heap.size b (w.alloc (.cells #[.int .i64 4, .int .i64 lo, .int .i64 hi, .slice an nn cn, .slice ap np cp, .slice ar nr cr] 26)) v w' l' → _) := hid_of (fun w' l' k => wr_box h _ _ _ _ _ _ k)
  have HE : Hid (encL t = Wr.enc 4 ++ nsE t.ns) := hid_of (by
    rw [encL_k, hk, if_neg (by decide : ¬((4 : Int) = 2 ∨ (4 : Int) = 3)), if_pos (by decide : (4 : Int) = 4 ∨ (4 : Int) = 8)]
    rfl)
  have HL : Hid (l.length + (Wr.enc 4).length + (nsE t.ns).length ≤ 60000000000000) := hid_of (by
    have h1 := hl
    rw [HE.out, List.length_append] at h1
    omega)
  have C0 := hid_of (show Calls Try.prog 45 #[.pointer (some ⟨b, 0, none⟩), .int .u64 4] _ _ from uint_wk 4 KA.out (by omega) (by omega))
  have CN : Hid (∀ w1, WK w0.heap.size b (w.alloc (.cells #[.int .i64 4, .int .i64 lo, .int .i64 hi, .slice an nn cn, .slice ap np cp, .slice ar nr cr] 26)) v w1 (l ++ Wr.enc 4) → _) := hid_of (fun w1 k => wn_wk k HBA.out H.n hN.nm (by have := hN.nl; omega) (by have := HL.out; simp only [List.length_append] at this ⊢; omega))
  clear H hok hb0 hb h hl IH hk hN
  go_enter Try.func21, Try.ntmps21
  go_wp2_with (first
    | (go_at_call 45; ((with_reducible refine (C0.out).mono ?_); (rintro e w1 ⟨rfl, q1⟩)); have K1 := hid_of q1; obtain ⟨a0, a1, a2, a3, a4, a5⟩ := HBX.out w1 _ q1; clear q1)
    | (go_at_call 47; ((with_reducible refine (CN.out w1 K1.out).mono ?_); (rintro e w2 ⟨rfl, q1⟩)); have K2 := hid_of q1; obtain ⟨d0, d1, d2, d3, d4, d5⟩ := HBX.out w2 _ q1; clear q1))
  go_end0
  have R := K2.out
  exact ⟨rfl, by rw [HE.out]; have := R.of_alloc hBW; simpa only [List.append_assoc, List.append_nil] using this⟩
theorem wr_8 (H : LO w0 8 lo hi an nn cn ap np cp ar nr cr t) (hok : Okay t) (hb0 : Below w0.heap.size w0 w) (hb : w0.heap.size ≤ b) (h : Wr.Wst w0.heap.size b w v l) (hl : l.length + (encL t).length ≤ 60000000000000) (IH : ∀ p ∈ t.ps, WP w0 b p) :
    Calls Try.prog 21 #[.pointer (some ⟨b, 0, none⟩), .agg #[.int .i64 8, .int .i64 lo, .int .i64 hi, .slice an nn cn, .slice ap np cp, .slice ar nr cr]] w fun e w' => e = .returned (.tuple #[]) ∧ WK w0.heap.size b w v w' (l ++ encL t) := by
  have hk : t.k = 8 := H.hk.symm
  have hN := hok.node
  have hBW := hb0.size
  have HBA := hid_of (hb0.trans ((bel_alloc w (.cells #[.int .i64 8, .int .i64 lo, .int .i64 hi, .slice an nn cn, .slice ap np cp, .slice ar nr cr] 26)).mono hb0.size))
  have KA := hid_of (WK.start (h.alloc (.cells #[.int .i64 8, .int .i64 lo, .int .i64 hi, .slice an nn cn, .slice ap np cp, .slice ar nr cr] 26)) hb (Nat.le_trans hBW (by simp)))
  have HBX : Hid (∀ w' l', WK w0.heap.size b (w.alloc (.cells #[.int .i64 8, .int .i64 lo, .int .i64 hi, .slice an nn cn, .slice ap np cp, .slice ar nr cr] 26)) v w' l' → _) := hid_of (fun w' l' k => wr_box h _ _ _ _ _ _ k)
  have HE : Hid (encL t = Wr.enc 8 ++ nsE t.ns) := hid_of (by
    rw [encL_k, hk, if_neg (by decide : ¬((8 : Int) = 2 ∨ (8 : Int) = 3)), if_pos (by decide : (8 : Int) = 4 ∨ (8 : Int) = 8)]
    rfl)
  have HL : Hid (l.length + (Wr.enc 8).length + (nsE t.ns).length ≤ 60000000000000) := hid_of (by
    have h1 := hl
    rw [HE.out, List.length_append] at h1
    omega)
  have C0 := hid_of (show Calls Try.prog 45 #[.pointer (some ⟨b, 0, none⟩), .int .u64 8] _ _ from uint_wk 8 KA.out (by omega) (by omega))
  have CN : Hid (∀ w1, WK w0.heap.size b (w.alloc (.cells #[.int .i64 8, .int .i64 lo, .int .i64 hi, .slice an nn cn, .slice ap np cp, .slice ar nr cr] 26)) v w1 (l ++ Wr.enc 8) → _) := hid_of (fun w1 k => wn_wk k HBA.out H.n hN.nm (by have := hN.nl; omega) (by have := HL.out; simp only [List.length_append] at this ⊢; omega))
  clear H hok hb0 hb h hl IH hk hN
  go_enter Try.func21, Try.ntmps21
  go_wp2_with (first
    | (go_at_call 45; ((with_reducible refine (C0.out).mono ?_); (rintro e w1 ⟨rfl, q1⟩)); have K1 := hid_of q1; obtain ⟨a0, a1, a2, a3, a4, a5⟩ := HBX.out w1 _ q1; clear q1)
    | (go_at_call 47; ((with_reducible refine (CN.out w1 K1.out).mono ?_); (rintro e w2 ⟨rfl, q1⟩)); have K2 := hid_of q1; obtain ⟨d0, d1, d2, d3, d4, d5⟩ := HBX.out w2 _ q1; clear q1))
  go_end0
  have R := K2.out
  exact ⟨rfl, by rw [HE.out]; have := R.of_alloc hBW; simpa only [List.append_assoc, List.append_nil] using this⟩
theorem wr_5 (H : LO w0 5 lo hi an nn cn ap np cp ar nr cr t) (hok : Okay t) (hb0 : Below w0.heap.size w0 w) (hb : w0.heap.size ≤ b) (h : Wr.Wst w0.heap.size b w v l) (hl : l.length + (encL t).length ≤ 60000000000000) (IH : ∀ p ∈ t.ps, WP w0 b p) :
    Calls Try.prog 21 #[.pointer (some ⟨b, 0, none⟩), .agg #[.int .i64 5, .int .i64 lo, .int .i64 hi, .slice an nn cn, .slice ap np cp, .slice ar nr cr]] w fun e w' => e = .returned (.tuple #[]) ∧ WK w0.heap.size b w v w' (l ++ encL t) := by
  have hlp := H.lp
  have hpn : t.ps.length = 1 := shape_5 hok.node.shape H.hk.symm
  obtain ⟨p0, hp0⟩ : ∃ p, t.ps[0]? = some p := ⟨_, List.getElem?_eq_getElem (by omega)⟩
  obtain ⟨g, o, pk0, plo0, phi0, pan0, pnn0, pcn0, pap0, pnp0, pcp0, par0, pnr0, pcr0, rfl, PO0, PC0⟩ := H.p.get hp0
  have hk : t.k = 5 := H.hk.symm
  have hN := hok.node
  have hBW := hb0.size
  have HBA := hid_of (hb0.trans ((bel_alloc w (.cells #[.int .i64 5, .int .i64 lo, .int .i64 hi, .slice an nn cn, .slice (some ⟨g, o, none⟩) np cp, .slice ar nr cr] 26)).mono hb0.size))
  have KA := hid_of (WK.start (h.alloc (.cells #[.int .i64 5, .int .i64 lo, .int .i64 hi, .slice an nn cn, .slice (some ⟨g, o, none⟩) np cp, .slice ar nr cr] 26)) hb (Nat.le_trans hBW (by simp)))
  have HBX : Hid (∀ w' l', WK w0.heap.size b (w.alloc (.cells #[.int .i64 5, .int .i64 lo, .int .i64 hi, .slice an nn cn, .slice (some ⟨g, o, none⟩) np cp, .slice ar nr cr] 26)) v w' l' → _) := hid_of (fun w' l' k => wr_box h _ _ _ _ _ _ k)
  have HE : Hid (encL t = Wr.enc 5 ++ (nsE t.ns ++ encL p0)) := hid_of (by
    have e : t.ps = [p0] := one_of hpn hp0
    rw [encL_k, hk, if_neg (by decide : ¬((5 : Int) = 2 ∨ (5 : Int) = 3)), if_neg (by decide : ¬((5 : Int) = 4 ∨ (5 : Int) = 8)), if_pos (by decide : (5 : Int) = 5), e, encLs_cons, encLs_nil, List.append_nil]
    rfl)
  have HL : Hid (l.length + (Wr.enc 5).length + ((nsE t.ns ++ encL p0)).length ≤ 60000000000000) := hid_of (by
    have h1 := hl
    rw [HE.out, List.length_append] at h1
    omega)
  have C0 := hid_of (show Calls Try.prog 45 #[.pointer (some ⟨b, 0, none⟩), .int .u64 5] _ _ from uint_wk 5 KA.out (by omega) (by omega))
  have CN : Hid (∀ w1, WK w0.heap.size b (w.alloc (.cells #[.int .i64 5, .int .i64 lo, .int .i64 hi, .slice an nn cn, .slice (some ⟨g, o, none⟩) np cp, .slice ar nr cr] 26)) v w1 (l ++ Wr.enc 5) → _) := hid_of (fun w1 k => wn_wk k HBA.out H.n hN.nm (by have := hN.nl; omega) (by have := HL.out; simp only [List.length_append] at this ⊢; omega))
  have HP0 : Hid (∀ w' l', WK w0.heap.size b (w.alloc (.cells #[.int .i64 5, .int .i64 lo, .int .i64 hi, .slice an nn cn, .slice (some ⟨g, o, none⟩) np cp, .slice ar nr cr] 26)) v w' l' → w'.cell? ⟨g, o, none⟩ = some (.int .i64 pk0) ∧ w'.cell? ⟨g, o + 1, none⟩ = some (.int .i64 plo0) ∧ w'.cell? ⟨g, o + 2, none⟩ = some (.int .i64 phi0) ∧ w'.cell? ⟨g, o + 3, none⟩ = some (.slice pan0 pnn0 pcn0) ∧ w'.cell? ⟨g, o + 4, none⟩ = some (.slice pap0 pnp0 pcp0) ∧ w'.cell? ⟨g, o + 5, none⟩ = some (.slice par0 pnr0 pcr0)) := hid_of (fun w' l' k => by
    have := PC0 w' (HBA.out.trans (k.bel.mono (Nat.le_refl _)))
    simpa using this)
  have CW0 : Hid (∀ w2, WK w0.heap.size b (w.alloc (.cells #[.int .i64 5, .int .i64 lo, .int .i64 hi, .slice an nn cn, .slice (some ⟨g, o, none⟩) np cp, .slice ar nr cr] 26)) v w2 (l ++ Wr.enc 5 ++ nsE t.ns) → _) := hid_of (fun w2 k => wp_wk (IH p0 (List.mem_of_getElem? hp0)) PO0 k HBA.out (by have := HL.out; simp only [List.length_append] at this ⊢; omega))
  have hnp : 0 < np := by omega
  have hcp := (LDs.len H.p).2
  clear PO0 PC0 hp0 hpn hlp
  clear H hok hb0 hb h hl IH hk hN
  go_enter Try.func21, Try.ntmps21
  go_wp2_with (first
    | (go_at_call 45; ((with_reducible refine (C0.out).mono ?_); (rintro e w1 ⟨rfl, q1⟩)); have K1 := hid_of q1; obtain ⟨a0, a1, a2, a3, a4, a5⟩ := HBX.out w1 _ q1; clear q1)
    | (go_at_call 47; ((with_reducible refine (CN.out w1 K1.out).mono ?_); (rintro e w2 ⟨rfl, q1⟩)); have K2 := hid_of q1; obtain ⟨d0, d1, d2, d3, d4, d5⟩ := HBX.out w2 _ q1; obtain ⟨r0, r1, r2, r3, r4, r5⟩ := HP0.out w2 _ q1; clear q1)
    | (go_at_call 21; ((with_reducible refine (CW0.out w2 K2.out).mono ?_); (rintro e w3 ⟨rfl, q1⟩)); have K3 := hid_of q1; obtain ⟨e0, e1, e2, e3, e4, e5⟩ := HBX.out w3 _ q1; clear q1))
  go_end0
  have R := K3.out
  exact ⟨rfl, by rw [HE.out]; have := R.of_alloc hBW; simpa only [List.append_assoc, List.append_nil] using this⟩
theorem wr_7 (H : LO w0 7 lo hi an nn cn ap np cp ar nr cr t) (hok : Okay t) (hb0 : Below w0.heap.size w0 w) (hb : w0.heap.size ≤ b) (h : Wr.Wst w0.heap.size b w v l) (hl : l.length + (encL t).length ≤ 60000000000000) (IH : ∀ p ∈ t.ps, WP w0 b p) :
    Calls Try.prog 21 #[.pointer (some ⟨b, 0, none⟩), .agg #[.int .i64 7, .int .i64 lo, .int .i64 hi, .slice an nn cn, .slice ap np cp, .slice ar nr cr]] w fun e w' => e = .returned (.tuple #[]) ∧ WK w0.heap.size b w v w' (l ++ encL t) := by
  have hlp := H.lp
  have hpn : t.ps.length = 2 := shape_7 hok.node.shape H.hk.symm
  obtain ⟨p0, hp0⟩ : ∃ p, t.ps[0]? = some p := ⟨_, List.getElem?_eq_getElem (by omega)⟩
  obtain ⟨g, o, pk0, plo0, phi0, pan0, pnn0, pcn0, pap0, pnp0, pcp0, par0, pnr0, pcr0, rfl, PO0, PC0⟩ := H.p.get hp0
  obtain ⟨p1, hp1⟩ : ∃ p, t.ps[1]? = some p := ⟨_, List.getElem?_eq_getElem (by omega)⟩
  obtain ⟨g', o', pk1, plo1, phi1, pan1, pnn1, pcn1, pap1, pnp1, pcp1, par1, pnr1, pcr1, e1, PO1, PC1⟩ := H.p.get hp1
  cases e1
  have hk : t.k = 7 := H.hk.symm
  have hN := hok.node
  have hBW := hb0.size
  have HBA := hid_of (hb0.trans ((bel_alloc w (.cells #[.int .i64 7, .int .i64 lo, .int .i64 hi, .slice an nn cn, .slice (some ⟨g, o, none⟩) np cp, .slice ar nr cr] 26)).mono hb0.size))
  have KA := hid_of (WK.start (h.alloc (.cells #[.int .i64 7, .int .i64 lo, .int .i64 hi, .slice an nn cn, .slice (some ⟨g, o, none⟩) np cp, .slice ar nr cr] 26)) hb (Nat.le_trans hBW (by simp)))
  have HBX : Hid (∀ w' l', WK w0.heap.size b (w.alloc (.cells #[.int .i64 7, .int .i64 lo, .int .i64 hi, .slice an nn cn, .slice (some ⟨g, o, none⟩) np cp, .slice ar nr cr] 26)) v w' l' → _) := hid_of (fun w' l' k => wr_box h _ _ _ _ _ _ k)
  have HE : Hid (encL t = Wr.enc 7 ++ (encL p0 ++ encL p1)) := hid_of (by
    have e : t.ps = [p0, p1] := two_of hpn hp0 hp1
    rw [encL_k, hk, if_neg (by decide : ¬((7 : Int) = 2 ∨ (7 : Int) = 3)), if_neg (by decide : ¬((7 : Int) = 4 ∨ (7 : Int) = 8)), if_neg (by decide : ¬((7 : Int) = 5)), if_neg (by decide : ¬((7 : Int) = 6)), if_pos (by decide : (7 : Int) = 7), e, encLs_cons, encLs_cons, encLs_nil, List.append_nil]
    rfl)
  have HL : Hid (l.length + (Wr.enc 7).length + ((encL p0 ++ encL p1)).length ≤ 60000000000000) := hid_of (by
    have h1 := hl
    rw [HE.out, List.length_append] at h1
    omega)
  have C0 := hid_of (show Calls Try.prog 45 #[.pointer (some ⟨b, 0, none⟩), .int .u64 7] _ _ from uint_wk 7 KA.out (by omega) (by omega))
  have HP0 : Hid (∀ w' l', WK w0.heap.size b (w.alloc (.cells #[.int .i64 7, .int .i64 lo, .int .i64 hi, .slice an nn cn, .slice (some ⟨g, o, none⟩) np cp, .slice ar nr cr] 26)) v w' l' → w'.cell? ⟨g, o, none⟩ = some (.int .i64 pk0) ∧ w'.cell? ⟨g, o + 1, none⟩ = some (.int .i64 plo0) ∧ w'.cell? ⟨g, o + 2, none⟩ = some (.int .i64 phi0) ∧ w'.cell? ⟨g, o + 3, none⟩ = some (.slice pan0 pnn0 pcn0) ∧ w'.cell? ⟨g, o + 4, none⟩ = some (.slice pap0 pnp0 pcp0) ∧ w'.cell? ⟨g, o + 5, none⟩ = some (.slice par0 pnr0 pcr0)) := hid_of (fun w' l' k => by
    have := PC0 w' (HBA.out.trans (k.bel.mono (Nat.le_refl _)))
    simpa using this)
  have HP1 : Hid (∀ w' l', WK w0.heap.size b (w.alloc (.cells #[.int .i64 7, .int .i64 lo, .int .i64 hi, .slice an nn cn, .slice (some ⟨g, o, none⟩) np cp, .slice ar nr cr] 26)) v w' l' → w'.cell? ⟨g, o + 6, none⟩ = some (.int .i64 pk1) ∧ w'.cell? ⟨g, o + 6 + 1, none⟩ = some (.int .i64 plo1) ∧ w'.cell? ⟨g, o + 6 + 2, none⟩ = some (.int .i64 phi1) ∧ w'.cell? ⟨g, o + 6 + 3, none⟩ = some (.slice pan1 pnn1 pcn1) ∧ w'.cell? ⟨g, o + 6 + 4, none⟩ = some (.slice pap1 pnp1 pcp1) ∧ w'.cell? ⟨g, o + 6 + 5, none⟩ = some (.slice par1 pnr1 pcr1)) := hid_of (fun w' l' k => by
    have := PC1 w' (HBA.out.trans (k.bel.mono (Nat.le_refl _)))
    simpa using this)
  have CW0 : Hid (∀ w1, WK w0.heap.size b (w.alloc (.cells #[.int .i64 7, .int .i64 lo, .int .i64 hi, .slice an nn cn, .slice (some ⟨g, o, none⟩) np cp, .slice ar nr cr] 26)) v w1 (l ++ Wr.enc 7) → _) := hid_of (fun w2 k => wp_wk (IH p0 (List.mem_of_getElem? hp0)) PO0 k HBA.out (by have := HL.out; simp only [List.length_append] at this ⊢; omega))
  have CW1 : Hid (∀ w1, WK w0.heap.size b (w.alloc (.cells #[.int .i64 7, .int .i64 lo, .int .i64 hi, .slice an nn cn, .slice (some ⟨g, o, none⟩) np cp, .slice ar nr cr] 26)) v w1 (l ++ Wr.enc 7 ++ encL p0) → _) := hid_of (fun w2 k => wp_wk (IH p1 (List.mem_of_getElem? hp1)) PO1 k HBA.out (by have := HL.out; simp only [List.length_append] at this ⊢; omega))
  have hnp : 0 < np := by omega
  have hnp1 : 1 < np := by omega
  have hcp := (LDs.len H.p).2
  clear PO0 PC0 hp0 PO1 PC1 hp1 hpn hlp
  clear H hok hb0 hb h hl IH hk hN
  go_enter Try.func21, Try.ntmps21
  go_wp2_with (first
    | (go_at_call 45; ((with_reducible refine (C0.out).mono ?_); (rintro e w1 ⟨rfl, q1⟩)); have K1 := hid_of q1; obtain ⟨a0, a1, a2, a3, a4, a5⟩ := HBX.out w1 _ q1; obtain ⟨r0, r1, r2, r3, r4, r5⟩ := HP0.out w1 _ q1; clear q1)
    | (go_at_call 21; ((with_reducible refine (CW0.out w1 K1.out).mono ?_); (rintro e w2 ⟨rfl, q1⟩)); have K2 := hid_of q1; obtain ⟨e0, e1, e2, e3, e4, e5⟩ := HBX.out w2 _ q1; obtain ⟨s0, s1, s2, s3, s4, s5⟩ := HP1.out w2 _ q1; clear q1)
    | (go_at_call 21; ((with_reducible refine (CW1.out w2 K2.out).mono ?_); (rintro e w3 ⟨rfl, q1⟩)); have K3 := hid_of q1; obtain ⟨e0, e1, e2, e3, e4, e5⟩ := HBX.out w3 _ q1; clear q1))
  go_end0
  have R := K3.out
  exact ⟨rfl, by rw [HE.out]; have := R.of_alloc hBW; simpa only [List.append_assoc, List.append_nil] using this⟩
theorem wr_6 (H : LO w0 6 lo hi an nn cn ap np cp ar nr cr t) (hok : Okay t) (hb0 : Below w0.heap.size w0 w) (hb : w0.heap.size ≤ b) (h : Wr.Wst w0.heap.size b w v l) (hl : l.length + (encL t).length ≤ 60000000000000) (IH : ∀ p ∈ t.ps, WP w0 b p) :
    Calls Try.prog 21 #[.pointer (some ⟨b, 0, none⟩), .agg #[.int .i64 6, .int .i64 lo, .int .i64 hi, .slice an nn cn, .slice ap np cp, .slice ar nr cr]] w fun e w' => e = .returned (.tuple #[]) ∧ WK w0.heap.size b w v w' (l ++ encL t) := by
  have hps := shape_6 hok.node.shape H.hk.symm
  have HPT : Hid (∀ j, j < nn → ∃ gn on x bx g o pk plo phi pan pnn pcn pap pnp pcp par pnr pcr p, an = some ⟨gn, on, none⟩ ∧ ap = some ⟨g, o, none⟩ ∧ (t.ns[j]? = some x ∧ t.ps[j]? = some p ∧ x.length ≤ 16 ∧ bx = ba x) ∧ LO w0 pk plo phi pan pnn pcn pap pnp pcp par pnr pcr p ∧ WP w0 b p ∧ nn ≤ cn ∧ np ≤ cp ∧
      Hid (∀ w', Below w0.heap.size w0 w' → w'.cell? ⟨gn, on + j, none⟩ = some (.string bx) ∧ w'.cell? ⟨g, o + j * 6, none⟩ = some (.int .i64 pk) ∧ w'.cell? ⟨g, o + j * 6 + 1, none⟩ = some (.int .i64 plo) ∧ w'.cell? ⟨g, o + j * 6 + 2, none⟩ = some (.int .i64 phi) ∧ w'.cell? ⟨g, o + j * 6 + 3, none⟩ = some (.slice pan pnn pcn) ∧ w'.cell? ⟨g, o + j * 6 + 4, none⟩ = some (.slice pap pnp pcp) ∧ w'.cell? ⟨g, o + j * 6 + 5, none⟩ = some (.slice par pnr pcr))) := hid_of (fun j hj => by
    have hln := H.ln
    obtain ⟨x, hx⟩ : ∃ x, t.ns[j]? = some x := ⟨_, List.getElem?_eq_getElem (by omega)⟩
    obtain ⟨p, hp⟩ : ∃ p, t.ps[j]? = some p := ⟨_, List.getElem?_eq_getElem (by omega)⟩
    obtain ⟨g, o, pk, plo, phi, pan, pnn, pcn, pap, pnp, pcp, par, pnr, pcr, e1, PO, PC⟩ := H.p.get hp
    obtain ⟨_, q1, q2, q3⟩ := rds_open H.n
    obtain ⟨gn, on, e2, hg, hc⟩ := q3.resolve_left (fun e => by rw [e] at hx; simp at hx)
    refine ⟨gn, on, x, _, g, o, pk, plo, phi, pan, pnn, pcn, pap, pnp, pcp, par, pnr, pcr, p, e2, e1, ⟨hx, hp, hok.node.nm x (List.mem_of_getElem? hx), rfl⟩, PO, IH p (List.mem_of_getElem? hp), q1, (LDs.len H.p).2.1, hid_of fun w' hw => ⟨(hw.cell (p := ⟨gn, on + j, none⟩) hg).trans (hc j x hx), PC w' hw⟩⟩)
  have HNN := hid_of H.ln
  have HNP := hid_of H.lp
  have hnn8 : nn ≤ 8 := by have := hok.node.pl H.hk.symm; have := H.ln; omega
  have hnpn : np = nn := by have := H.lp; have := H.ln; omega
  have hk : t.k = 6 := H.hk.symm
  have hN := hok.node
  have hBW := hb0.size
  have HBA := hid_of (hb0.trans ((bel_alloc w (.cells #[.int .i64 6, .int .i64 lo, .int .i64 hi, .slice an nn cn, .slice ap np cp, .slice ar nr cr] 26)).mono hb0.size))
  have KA := hid_of (WK.start (h.alloc (.cells #[.int .i64 6, .int .i64 lo, .int .i64 hi, .slice an nn cn, .slice ap np cp, .slice ar nr cr] 26)) hb (Nat.le_trans hBW (by simp)))
  have HBX : Hid (∀ w' l', WK w0.heap.size b (w.alloc (.cells #[.int .i64 6, .int .i64 lo, .int .i64 hi, .slice an nn cn, .slice ap np cp, .slice ar nr cr] 26)) v w' l' → _) := hid_of (fun w' l' k => wr_box h _ _ _ _ _ _ k)
  have HE : Hid (encL t = Wr.enc 6 ++ (Wr.enc nn ++ encPs t.ns t.ps)) := hid_of (by
    rw [encL_k, hk, if_neg (by decide : ¬((6 : Int) = 2 ∨ (6 : Int) = 3)), if_neg (by decide : ¬((6 : Int) = 4 ∨ (6 : Int) = 8)), if_neg (by decide : ¬((6 : Int) = 5)), if_pos (by decide : (6 : Int) = 6), ← H.ln]
    rfl)
  have HL : Hid (l.length + (Wr.enc 6).length + ((Wr.enc nn ++ encPs t.ns t.ps)).length ≤ 60000000000000) := hid_of (by
    have h1 := hl
    rw [HE.out, List.length_append] at h1
    omega)
  have C0 := hid_of (show Calls Try.prog 45 #[.pointer (some ⟨b, 0, none⟩), .int .u64 6] _ _ from uint_wk 6 KA.out (by omega) (by omega))
  have C2 : Hid (∀ w1, WK w0.heap.size b (w.alloc (.cells #[.int .i64 6, .int .i64 lo, .int .i64 hi, .slice an nn cn, .slice ap np cp, .slice ar nr cr] 26)) v w1 (l ++ Wr.enc 6) → _) := hid_of (fun w1 k => uint_wk nn k (by omega) (by have := HL.out; simp only [List.length_append] at this ⊢; omega))
  subst hnpn
  clear H hok hb0 hb h hl IH hk hN hps
  go_enter Try.func21, Try.ntmps21
  go_wp2_with (first
    | (go_at_call 45; ((with_reducible refine (C0.out).mono ?_); (rintro e w1 ⟨rfl, q1⟩)); have K1 := hid_of q1; obtain ⟨a0, a1, a2, a3, a4, a5⟩ := HBX.out w1 _ q1; clear q1)
    | (go_at_call 45; ((with_reducible refine (C2.out w1 K1.out).mono ?_); (rintro e w2 ⟨rfl, q1⟩)); have K2 := hid_of q1; obtain ⟨d0, d1, d2, d3, d4, d5⟩ := HBX.out w2 _ q1; clear q1))
  go_loopw [4, 5, 56] (fun v4 v5 iv wr => ∃ (j : Nat) (x4 x5 : Value), v4 = x4 ∧ v5 = x5 ∧ j ≤ np ∧ iv = .int .i64 j ∧ Hid (WK w0.heap.size b (w.alloc (.cells #[.int .i64 6, .int .i64 lo, .int .i64 hi, .slice an np cn, .slice ap np cp, .slice ar nr cr] 26)) v wr (l ++ Wr.enc 6 ++ Wr.enc np ++ encPs (t.ns.take j) (t.ps.take j)))) (fun _ _ iv _ => np - (intOf iv).toNat)
  case atStart => exact ⟨0, _, _, rfl, rfl, Nat.zero_le _, rfl, hid_of (by rw [List.take_zero, List.take_zero, encPs_nil, List.append_nil]; exact K2.out)⟩
  case round =>
    obtain ⟨j, x4, x5, rfl, rfl, hj, rfl, hk⟩ := hrel
    by_cases hlt : j < np
    · have hd : decide (j < np) = true := by simp; omega
      obtain ⟨gn, on, x, bx, g, o, pk, plo, phi, pan, pnn, pcn, pap, pnp, pcp, par, pnr, pcr, p, rfl, rfl, hxp, PO, IHp, hcn, hcp, HC⟩ := HPT.out j hlt
      have HXP := hid_of hxp
      have HBL : Hid (l.length + (Wr.enc 6).length + (Wr.enc np).length + ((encPs (t.ns.take j) (t.ps.take j)).length + ((txE x).length + (encL p).length)) ≤ 60000000000000) := hid_of (by
        have h1 := HL.out
        have h2 := encPs_pre t.ns t.ps (j + 1) (by have := HNN.out; omega) (by have := HNN.out; have := HNP.out; omega)
        rw [encPs_snoc _ _ _ _ _ HXP.out.1 HXP.out.2.1] at h2
        simp only [List.length_append] at h1 h2 ⊢
        omega)
      have CT := hid_of (text_wk x bx HXP.out.2.2.2 hk.out HXP.out.2.2.1 (by have := HBL.out; simp only [List.length_append]; omega))
      have CW : Hid (∀ w3, WK w0.heap.size b (w.alloc (.cells #[.int .i64 6, .int .i64 lo, .int .i64 hi, .slice (some ⟨gn, on, none⟩) np cn, .slice (some ⟨g, o, none⟩) np cp, .slice ar nr cr] 26)) v w3 (l ++ Wr.enc 6 ++ Wr.enc np ++ encPs (t.ns.take j) (t.ps.take j) ++ txE x) → _) := hid_of (fun w3 k => wp_wk IHp PO k HBA.out (by have := HBL.out; simp only [List.length_append] at this ⊢; omega))
      obtain ⟨y0, y1, y2, y3, y4, y5⟩ := HBX.out _ _ hk.out
      obtain ⟨z0, z1, z2, z3, z4, z5, z6⟩ := HC.out _ (HBA.out.trans (hk.out.bel.mono (Nat.le_refl _)))
      have HNX : Hid (encPs (t.ns.take (j + 1)) (t.ps.take (j + 1)) = encPs (t.ns.take j) (t.ps.take j) ++ (txE x ++ encL p)) := hid_of (encPs_snoc _ _ _ _ _ HXP.out.1 HXP.out.2.1)
      clear hxp
      go_wp2_with (first
        | (go_at_call 48; ((with_reducible refine (CT.out).mono ?_); (rintro e w3 ⟨rfl, q1⟩)); have K3 := hid_of q1; obtain ⟨e0, e1, e2, e3, e4, e5⟩ := HBX.out w3 _ q1; obtain ⟨u0, u1, u2, u3, u4, u5, u6⟩ := HC.out w3 (HBA.out.trans (q1.bel.mono (Nat.le_refl _))); clear q1)
        | (go_at_call 21; ((with_reducible refine (CW.out w3 K3.out).mono ?_); (rintro e w4 ⟨rfl, q1⟩)); have K4 := hid_of q1; clear q1))
      go_roundw
      case rel => exact ⟨j + 1, _, _, rfl, rfl, by omega, by go_num, hid_of (by rw [HNX.out]; have := K4.out; simpa only [List.append_assoc] using this)⟩
      case measure => simp [intOf]; omega
    · have hd : decide (j < np) = false := by simp; omega
      have HF : Hid (WK w0.heap.size b w v wr (l ++ encL t)) := hid_of (by
        have h1 := hk.out.of_alloc hBW
        rw [List.take_of_length_le (by have := HNN.out; omega), List.take_of_length_le (by have := HNP.out; omega)] at h1
        rw [HE.out]
        simpa only [List.append_assoc] using h1)
      go_wp2
      go_end0
      exact ⟨rfl, HF.out⟩
theorem wr_10 (H : LO w0 10 lo hi an nn cn ap np cp ar nr cr t) (hok : Okay t) (hb0 : Below w0.heap.size w0 w) (hb : w0.heap.size ≤ b) (h : Wr.Wst w0.heap.size b w v l) (hl : l.length + (encL t).length ≤ 60000000000000) (IH : ∀ p ∈ t.ps, WP w0 b p) :
    Calls Try.prog 21 #[.pointer (some ⟨b, 0, none⟩), .agg #[.int .i64 10, .int .i64 lo, .int .i64 hi, .slice an nn cn, .slice ap np cp, .slice ar nr cr]] w fun e w' => e = .returned (.tuple #[]) ∧ WK w0.heap.size b w v w' (l ++ encL t) := by
  have HRT : Hid (∀ j, j < nr → ∃ gr og a n c bx r, ar = some ⟨gr, og, none⟩ ∧ (t.rs[j]? = some r ∧ bx = ba r.2 ∧ SmR r ∧ Rd w0 (.slice a n c) (ss r.1)) ∧ nr ≤ cr ∧ cr ≤ 9223372036854775807 ∧ Hid (∀ w', Below w0.heap.size w0 w' → w'.cell? ⟨gr, og + j * 2, none⟩ = some (.slice a n c) ∧ w'.cell? ⟨gr, og + j * 2 + 1, none⟩ = some (.string bx))) := hid_of (fun j hj => by
    have hlr := H.lr
    obtain ⟨rl, q1, q2, q3⟩ := H.r
    obtain ⟨c1, c2, c3⟩ := q1.cut
    obtain ⟨y, hy⟩ : ∃ y, rl[j]? = some y := ⟨_, List.getElem?_eq_getElem (by omega)⟩
    obtain ⟨r, hr⟩ : ∃ r, t.rs[j]? = some r := ⟨_, List.getElem?_eq_getElem (by omega)⟩
    obtain ⟨k1, k2⟩ := q3 j y r hy hr
    obtain ⟨gr, og, e, d0, d1⟩ := q1.get hy
    obtain ⟨y1, y2⟩ := y
    simp only at k1 k2 d0 d1
    subst k2
    have k1' := k1
    obtain ⟨a, c, rfl, _⟩ := k1
    refine ⟨gr, og, a, _, c, _, r, e, ⟨hr, rfl, hok.node.ru r (List.mem_of_getElem? hr), k1'⟩, c2, c3, hid_of fun w' hw => ⟨(hw.cell (p := ⟨gr, og + j * 2, none⟩) (World.block_lt_of_cell? _ _ d0)).trans d0, (hw.cell (p := ⟨gr, og + j * 2 + 1, none⟩) (World.block_lt_of_cell? _ _ d1)).trans d1⟩⟩)
  have HNR := hid_of H.lr
  have hnr32 : nr ≤ 32 := by have := hok.node.rl; have := H.lr; omega
  have HHB := hid_of hb
  have hk : t.k = 10 := H.hk.symm
  have hN := hok.node
  have hBW := hb0.size
  have HBA := hid_of (hb0.trans ((bel_alloc w (.cells #[.int .i64 10, .int .i64 lo, .int .i64 hi, .slice an nn cn, .slice ap np cp, .slice ar nr cr] 26)).mono hb0.size))
  have KA := hid_of (WK.start (h.alloc (.cells #[.int .i64 10, .int .i64 lo, .int .i64 hi, .slice an nn cn, .slice ap np cp, .slice ar nr cr] 26)) hb (Nat.le_trans hBW (by simp)))
  have HBX : Hid (∀ w' l', WK w0.heap.size b (w.alloc (.cells #[.int .i64 10, .int .i64 lo, .int .i64 hi, .slice an nn cn, .slice ap np cp, .slice ar nr cr] 26)) v w' l' → _) := hid_of (fun w' l' k => wr_box h _ _ _ _ _ _ k)
  have HE : Hid (encL t = Wr.enc 10 ++ (nsE t.ns ++ (Wr.enc nr ++ t.rs.flatMap ruE1))) := hid_of (by
    rw [encL_k, hk, if_neg (by decide : ¬((10 : Int) = 2 ∨ (10 : Int) = 3)), if_neg (by decide : ¬((10 : Int) = 4 ∨ (10 : Int) = 8)), if_neg (by decide : ¬((10 : Int) = 5)), if_neg (by decide : ¬((10 : Int) = 6)), if_neg (by decide : ¬((10 : Int) = 7)), if_pos (by decide : (10 : Int) = 10)]
    rw [show rsE t.rs = Wr.enc nr ++ t.rs.flatMap ruE1 by rw [H.lr]; rfl]
    rfl)
  have HL : Hid (l.length + (Wr.enc 10).length + ((nsE t.ns ++ (Wr.enc nr ++ t.rs.flatMap ruE1))).length ≤ 60000000000000) := hid_of (by
    have h1 := hl
    rw [HE.out, List.length_append] at h1
    omega)
  have C0 := hid_of (show Calls Try.prog 45 #[.pointer (some ⟨b, 0, none⟩), .int .u64 10] _ _ from uint_wk 10 KA.out (by omega) (by omega))
  have CN : Hid (∀ w1, WK w0.heap.size b (w.alloc (.cells #[.int .i64 10, .int .i64 lo, .int .i64 hi, .slice an nn cn, .slice ap np cp, .slice ar nr cr] 26)) v w1 (l ++ Wr.enc 10) → _) := hid_of (fun w1 k => wn_wk k HBA.out H.n hN.nm (by have := hN.nl; omega) (by have := HL.out; simp only [List.length_append] at this ⊢; omega))
  have C2 : Hid (∀ w2, WK w0.heap.size b (w.alloc (.cells #[.int .i64 10, .int .i64 lo, .int .i64 hi, .slice an nn cn, .slice ap np cp, .slice ar nr cr] 26)) v w2 (l ++ Wr.enc 10 ++ nsE t.ns) → _) := hid_of (fun w2 k => uint_wk nr k (by omega) (by have := HL.out; simp only [List.length_append] at this ⊢; omega))
  clear H hok hb0 hb h hl IH hk hN
  go_enter Try.func21, Try.ntmps21
  go_wp2_with (first
    | (go_at_call 45; ((with_reducible refine (C0.out).mono ?_); (rintro e w1 ⟨rfl, q1⟩)); have K1 := hid_of q1; obtain ⟨a0, a1, a2, a3, a4, a5⟩ := HBX.out w1 _ q1; clear q1)
    | (go_at_call 47; ((with_reducible refine (CN.out w1 K1.out).mono ?_); (rintro e w2 ⟨rfl, q1⟩)); have K2 := hid_of q1; obtain ⟨d0, d1, d2, d3, d4, d5⟩ := HBX.out w2 _ q1; clear q1)
    | (go_at_call 45; ((with_reducible refine (C2.out w2 K2.out).mono ?_); (rintro e w3 ⟨rfl, q1⟩)); have K3 := hid_of q1; obtain ⟨g0, g1, g2, g3, g4, g5⟩ := HBX.out w3 _ q1; clear q1))
  go_loopw [7, 101] (fun v7 iv wr => ∃ (j : Nat) (x7 : Value), v7 = x7 ∧ j ≤ nr ∧ iv = .int .i64 j ∧ Hid (WK w0.heap.size b (w.alloc (.cells #[.int .i64 10, .int .i64 lo, .int .i64 hi, .slice an nn cn, .slice ap np cp, .slice ar nr cr] 26)) v wr (l ++ Wr.enc 10 ++ nsE t.ns ++ Wr.enc nr ++ (t.rs.take j).flatMap ruE1))) (fun _ iv _ => nr - (intOf iv).toNat)
  case atStart => exact ⟨0, _, rfl, Nat.zero_le _, rfl, hid_of (by rw [List.take_zero]; simpa using K3.out)⟩
  case round =>
    obtain ⟨j, x7, rfl, hj, rfl, hk⟩ := hrel
    by_cases hlt : j < nr
    · have hd : decide (j < nr) = true := by simp; omega
      obtain ⟨gr, og, a, n, c, bx, r, rfl, hxr, hcr, hcr9, HC⟩ := HRT.out j hlt
      have HXR := hid_of hxr
      have HBR : Hid (Below w0.heap.size w0 wr) := hid_of (HBA.out.trans (hk.out.bel.mono (Nat.le_refl _)))
      obtain ⟨z0, z1⟩ := HC.out _ HBR.out
      obtain ⟨v2, hv2, hk2, ho2⟩ := hk.out.ex
      have HV2 := hid_of hv2
      have HST := hid_of (And.intro hk2 ho2)
      have HBB : Hid (Below w0.heap.size w0 (wr.alloc (.cells #[.slice a n c, .string bx] 58))) := hid_of (HBR.out.trans ((bel_alloc wr _).mono HBR.out.size))
      have KB := hid_of (WK.start (hv2.alloc (.cells #[.slice a n c, .string bx] 58)) HHB.out (HBB.out.size))
      have HBL : Hid (l.length + (Wr.enc 10).length + (nsE t.ns).length + (Wr.enc nr).length + (((t.rs.take j).flatMap ruE1).length + ((nsE r.1).length + (txE r.2).length)) ≤ 60000000000000) := hid_of (by
        have h1 := HL.out
        have h2 := flat_take ruE1 t.rs (j + 1)
        rw [take_snocL HXR.out.1, List.flatMap_append, List.flatMap_singleton, List.length_append, show ruE1 r = nsE r.1 ++ txE r.2 from rfl, List.length_append] at h2
        simp only [List.length_append] at h1 h2 ⊢
        omega)
      have CN2 := hid_of (wn_wk KB.out HBB.out HXR.out.2.2.2 HXR.out.2.2.1.1.2 (by have := HXR.out.2.2.1.1.1; omega) (by have := HBL.out; simp only [List.length_append]; omega))
      have CT : Hid (∀ w5, WK w0.heap.size b (wr.alloc (.cells #[.slice a n c, .string bx] 58)) v2 w5 (l ++ Wr.enc 10 ++ nsE t.ns ++ Wr.enc nr ++ (t.rs.take j).flatMap ruE1 ++ nsE r.1) → _) := hid_of (fun w5 k => text_wk r.2 bx HXR.out.2.1 k HXR.out.2.2.1.2 (by have := HBL.out; simp only [List.length_append]; omega))
      have HRB : Hid (∀ w' l', WK w0.heap.size b (wr.alloc (.cells #[.slice a n c, .string bx] 58)) v2 w' l' → w'.cell? ⟨wr.heap.size, 0, none⟩ = some (.slice a n c) ∧ w'.cell? ⟨wr.heap.size, 1, none⟩ = some (.string bx)) := hid_of (fun w' l' k => rule_box HV2.out _ _ k)
      have HNX : Hid ((t.rs.take (j + 1)).flatMap ruE1 = (t.rs.take j).flatMap ruE1 ++ (nsE r.1 ++ txE r.2)) := hid_of (by rw [take_snocL HXR.out.1, List.flatMap_append, List.flatMap_singleton]; rfl)
      clear hxr hv2 hk2 ho2
      go_wp2_with (first
        | (go_at_call 47; ((with_reducible refine (CN2.out).mono ?_); (rintro e w5 ⟨rfl, q1⟩)); have K5 := hid_of q1; obtain ⟨u0, u1⟩ := HRB.out w5 _ q1; clear q1)
        | (go_at_call 48; ((with_reducible refine (CT.out w5 K5.out).mono ?_); (rintro e w6 ⟨rfl, q1⟩)); have K6 := hid_of q1; clear q1))
      go_roundw
      case rel => exact ⟨j + 1, _, rfl, by omega, by go_num, hid_of (by
        have h6 := hk.out.step HV2.out HST.out.1 HST.out.2 (K6.out.of_alloc HBR.out.size)
        rw [HNX.out]
        simpa only [List.append_assoc] using h6)⟩
      case measure => simp [intOf]; omega
    · have hd : decide (j < nr) = false := by simp; omega
      have HF : Hid (WK w0.heap.size b w v wr (l ++ encL t)) := hid_of (by
        have h1 := hk.out.of_alloc hBW
        rw [List.take_of_length_le (by have := HNR.out; omega)] at h1
        rw [HE.out]
        simpa only [List.append_assoc] using h1)
      go_wp2
      go_end0
      exact ⟨rfl, HF.out⟩
end
theorem write_any (w0 : World) (b : Nat) : ∀ t, Okay t → WP w0 b t := by
  refine lat_ind ?_
  intro k lo hi ns ps rs ih hok
  have IH : ∀ p ∈ (Lat.mk k lo hi ns ps rs).ps, WP w0 b p := fun p hp => ih p hp (hok.part p hp)
  intro k' lo' hi' an nn cn ap np cp ar nr cr w v l H hb0 hb h hl
  have hk := hok.node.kk
  have e := H.hk
  have hk2 : 1 ≤ k' ∧ k' ≤ 10 := by rw [e]; exact hk
  rcases kinds k' with rfl | rfl | rfl | rfl | rfl | rfl | rfl | rfl | rfl | rfl | hx
  case inr.inr.inr.inr.inr.inr.inr.inr.inr.inr => omega
  · exact wr_1 b lo' hi' an nn cn ap np cp ar nr cr _ w0 w v l H hok hb0 hb h hl IH
  · exact wr_2 b lo' hi' an nn cn ap np cp ar nr cr _ w0 w v l H hok hb0 hb h hl IH
  · exact wr_3 b lo' hi' an nn cn ap np cp ar nr cr _ w0 w v l H hok hb0 hb h hl IH
  · exact wr_4 b lo' hi' an nn cn ap np cp ar nr cr _ w0 w v l H hok hb0 hb h hl IH
  · exact wr_5 b lo' hi' an nn cn ap np cp ar nr cr _ w0 w v l H hok hb0 hb h hl IH
  · exact wr_6 b lo' hi' an nn cn ap np cp ar nr cr _ w0 w v l H hok hb0 hb h hl IH
  · exact wr_7 b lo' hi' an nn cn ap np cp ar nr cr _ w0 w v l H hok hb0 hb h hl IH
  · exact wr_8 b lo' hi' an nn cn ap np cp ar nr cr _ w0 w v l H hok hb0 hb h hl IH
  · exact wr_9 b lo' hi' an nn cn ap np cp ar nr cr _ w0 w v l H hok hb0 hb h hl IH
  · exact wr_10 b lo' hi' an nn cn ap np cp ar nr cr _ w0 w v l H hok hb0 hb h hl IH
end Go.Proofs.Ytcjnmgokddfidaa

/- Decode of package lattice, of a description of the kind Max. Bounds on sizes alone. -/
namespace Go.Proofs.Ytcjnmgokddfidaa
open Go.RowKit

theorem lo_leaf (k lo hi : Int) (rk : R64 k) (rlo : R64 lo) (rhi : R64 hi) (w : World) : LO w k lo hi none 0 0 none 0 0 none 0 0 ⟨k, lo, hi, [], [], []⟩ :=
  ⟨rfl, rfl, rfl, rk, rlo, rhi, ⟨none, 0, rfl, Nat.le_refl _, by omega, fun h => by simp [ss, Lat.ns] at h⟩, by intro y hy; simp [Lat.ns] at hy, rfl, lds_nil w, rfl, rur_nil w, by intro y hy; simp [Lat.rs] at hy, rfl⟩
set_option maxRecDepth 100000 in
set_option maxHeartbeats 3200000 in
theorem decmax_any (ao : Option Addr) (cap k1 k2 k3 n1 n2 : Nat) (d : List Int) (w : World) (hr : ∀ x ∈ d, 0 ≤ x ∧ x ≤ 255) (hl : d.length ≤ 140737488351232)
    (hpos : 0 < d.length → ∃ ad, ao = some ad ∧ ∀ w', Below w.heap.size w w' → ∀ j v, (Wr.bs d)[j]? = some v → w'.cell? (ad.add j) = some v)
    (h1 : Wr.dec (d.drop 0) = some (2, k1)) (h2 : Wr.dec (d.drop (0 + k1)) = some (n1, k2)) (h3 : Wr.dec (d.drop (0 + k1 + k2)) = some (n2, k3)) (hend : 0 + k1 + k2 + k3 = d.length)
    (r1 : R64 (Wr.unzig n1)) (r2 : R64 (Wr.unzig n2)) (hok : chkL ⟨2, Wr.unzig n1, Wr.unzig n2, [], [], []⟩ = 0) :
    Calls Try.prog 9 #[.slice ao d.length cap] w fun e w' => e = .returned (.tuple #[.agg #[.int .i64 2, .int .i64 (Wr.unzig n1), .int .i64 (Wr.unzig n2), .slice none 0 0, .slice none 0 0, .slice none 0 0], .int .i64 0]) ∧ Below w.heap.size w w' := by
  have HBW := hid_of (bel_alloc w (.cells #[.int .i64 0, .int .i64 0, .int .i64 0, .slice none 0 0, .slice none 0 0, .slice none 0 0] 26))
  have NR := hid_of (Wr.newReader_any ao d cap (w.alloc (.cells #[.int .i64 0, .int .i64 0, .int .i64 0, .slice none 0 0, .slice none 0 0, .slice none 0 0] 26)) hr hl (fun h0 => by obtain ⟨ad, e, hc⟩ := hpos h0; exact ⟨ad, e, hc _ HBW.out⟩))
  have RD : Hid (∀ b g w2, Wr.Rst w2 b g d 0 0 0 → Calls Try.prog 24 #[.pointer (some ⟨b, 0, none⟩), .int .i64 1] w2 fun e w' => e = .returned (.agg #[.int .i64 2, .int .i64 (Wr.unzig n1), .int .i64 (Wr.unzig n2), .slice none 0 0, .slice none 0 0, .slice none 0 0]) ∧ Wr.Rst w' b g d d.length (0 + k1 + k2) 0 ∧ Wr.Kept (fun k => k = b) w2 w') := hid_of (fun b g w2 h => by
    have := readmax_any b g k1 k2 k3 n1 n2 d w2 h h1 h2 h3
    rw [hend] at this
    exact this)
  have EN : Hid (∀ b g last w2, Wr.Rst w2 b g d d.length last 0 → Calls Try.prog 25 #[.pointer (some ⟨b, 0, none⟩)] w2 fun e w' => e = .returned (.int .i64 0) ∧ ∃ m, w' = w2.drewN m) := hid_of (fun b g last w2 h => Wr.end_ok b g d.length last d w2 h rfl)
  have CH : Hid (∀ w2, Calls Try.prog 13 #[.agg #[.int .i64 2, .int .i64 (Wr.unzig n1), .int .i64 (Wr.unzig n2), .slice none 0 0, .slice none 0 0, .slice none 0 0]] w2 (ErP 0 w2)) := hid_of (fun w2 => by
    have := check_any _ 2 (Wr.unzig n1) (Wr.unzig n2) none 0 0 none 0 0 none 0 0 w2 (lo_leaf 2 _ _ ⟨by omega, by omega⟩ r1 r2 w2)
    rwa [hok] at this)
  have LX1 : Hid ((#[.int .i64 2, .int .i64 (Wr.unzig n1), .int .i64 (Wr.unzig n2), .slice none 0 0, .slice none 0 0, .slice none 0 0] : Array Value).all (·.oneCell') = true) := hid_of (by simp [Value.oneCell'])
  clear hr hpos h1 h2 h3 hend r1 r2 hok
  go_enter Try.func9, Try.ntmps9
  go_wp2_with (first
    | (go_at_call 23; ((with_reducible refine (NR.out).mono ?_); (rintro e w1 ⟨b, g, rfl, q1, q2, q3, q4⟩); (have R1 := hid_of q1); (have B1 := hid_of q2); (have B3 := hid_of q3); (have Z1 : Hid (w1.heap[w.heap.size]? = some (.cells [.int .i64 0, .int .i64 0, .int .i64 0, .slice none 0 0, .slice none 0 0, .slice none 0 0].toArray 26 (0, 0))) := hid_of ((q2.block _ (by simp)).trans (heap_alloc_new w _))); clear q1 q2 q3 q4))
    | (go_at_call 24; ((with_reducible refine (RD.out b g w1 R1.out).mono ?_); (rintro e w2 ⟨rfl, q1, q2⟩); (have R2 := hid_of q1); (have K2 := hid_of q2); clear q1 q2))
    | (go_at_call 25; ((with_reducible refine (EN.out b g (0 + k1 + k2) (w2.alloc (.cells #[.int .i64 2, .int .i64 (Wr.unzig n1), .int .i64 (Wr.unzig n2), .slice none 0 0, .slice none 0 0, .slice none 0 0] 26)) (R2.out.same ((bel_alloc w2 _).block _ R2.out.blt) ((bel_alloc w2 _).block _ R2.out.glt))).mono ?_); (rintro e w3 ⟨rfl, m, rfl⟩)))
    | (go_at_call 13; ((with_reducible refine (CH.out _).mono ?_); (rintro e w4 ⟨rfl, q1⟩); (have B4 : Hid (Below (w2.alloc (.cells #[.int .i64 2, .int .i64 (Wr.unzig n1), .int .i64 (Wr.unzig n2), .slice none 0 0, .slice none 0 0, .slice none 0 0] 26)).heap.size (w2.alloc (.cells #[.int .i64 2, .int .i64 (Wr.unzig n1), .int .i64 (Wr.unzig n2), .slice none 0 0, .slice none 0 0, .slice none 0 0] 26)) w4) := hid_of ⟨q1.os, q1.tape, q1.output, q1.size, q1.block⟩); (have Z4 : Hid (w4.heap[w.heap.size]? = some (.cells [.int .i64 0, .int .i64 0, .int .i64 0, .slice none 0 0, .slice none 0 0, .slice none 0 0].toArray 26 (0, 0))) := hid_of ((B4.out.block _ (by have := K2.out.size; have := B1.out.size; simp at *; omega)).trans (((bel_alloc w2 _).block _ (by have := K2.out.size; have := B1.out.size; simp at *; omega)).trans ((K2.out.block _ (by have := B1.out.size; simp at *; omega) (by have := B3.out; simp at *; omega)).trans Z1.out)))); (obtain ⟨y0, y1, y2, y3, y4, y5⟩ := box6 2 (Wr.unzig n1) (Wr.unzig n2) none 0 0 none 0 0 none 0 0 B4.out); clear q1))
    | (refine wpList_store_row rfl 26 (.tmp 2) (.tmp 19) rfl w.heap.size #[.int .i64 2, .int .i64 (Wr.unzig n1), .int .i64 (Wr.unzig n2), .slice none 0 0, .slice none 0 0, .slice none 0 0] rfl rfl 26 _ Z4.out infoLat rfl LX1.out ?_))
  refine bodyPost_ret (res_ct rfl w.heap.size rfl (setRow_heap _ _ _ #[.int .i64 2, .int .i64 (Wr.unzig n1), .int .i64 (Wr.unzig n2), .slice none 0 0, .slice none 0 0, .slice none 0 0] _ _ Z4.out) Try.underlying26 rfl infoLat) rfl ⟨rfl, ?_⟩
  have x1 : Below w.heap.size w w1 := HBW.out.trans (B1.out.mono (by simp))
  have x2 : Below w.heap.size w w2 := x1.trans ⟨K2.out.os, K2.out.tape, K2.out.output, K2.out.size, fun k hk => K2.out.block k (by have := x1.size; omega) (by have := B3.out; simp at this; omega)⟩
  exact below_setRow ((x2.trans ((bel_alloc w2 _).mono x2.size)).trans (B4.out.mono (by have := x2.size; simp; omega))) (Nat.le_refl _) _
end Go.Proofs.Ytcjnmgokddfidaa

/- The examples of the chapter hold: awake. No condition. -/
namespace Go.Proofs.Ytcjnmgokddfidaa
open Go.RowKit

theorem pair_row {W : World} {g : Nat} (a b : LX) {ta tb : Lat} (hb : W.heap[g]? = some (.cells (a.q.cs ++ b.q.cs).toArray 26 (0, 0))) (ha : LD W a ta) (hb2 : LD W b tb) : LDs W (.slice (some ⟨g, 0, none⟩) 2 2) [ta, tb] := by
  refine ⟨[a, b], ⟨_, _, rfl, by simp, by simp, fun _ => ⟨g, 0, rfl, lt_of_block hb, fun i t ht => ?_⟩⟩, rfl, fun i y u hy hu => ?_⟩
  · match i, ht with
    | 0, ht =>
      simp only [List.map_cons, List.getElem?_cons_zero, Option.some.injEq] at ht
      subst ht
      exact ⟨cell_blk hb rfl, cell_blk hb rfl, cell_blk hb rfl, cell_blk hb rfl, cell_blk hb rfl, cell_blk hb rfl⟩
    | 1, ht =>
      simp only [List.map_cons, List.map_nil, List.getElem?_cons_succ, List.getElem?_cons_zero, Option.some.injEq] at ht
      subst ht
      exact ⟨cell_blk hb rfl, cell_blk hb rfl, cell_blk hb rfl, cell_blk hb rfl, cell_blk hb rfl, cell_blk hb rfl⟩
    | i + 2, ht => simp at ht
  · match i, hy, hu with
    | 0, hy, hu =>
      simp only [List.getElem?_cons_zero, Option.some.injEq] at hy hu
      subst hy hu
      exact ha
    | 1, hy, hu =>
      simp only [List.getElem?_cons_succ, List.getElem?_cons_zero, Option.some.injEq] at hy hu
      subst hy hu
      exact hb2
    | i + 2, hy, _ => simp at hy
theorem lex_row {W : World} {g : Nat} {t : Lat} {ts : List Lat} (hp : LDs W (.slice (some ⟨g, 0, none⟩) 2 2) ts) (ht : t = ⟨7, 0, 0, [], ts, []⟩) : LO W 7 0 0 none 0 0 (some ⟨g, 0, none⟩) 2 2 none 0 0 t := by
  subst ht
  exact ⟨rfl, rfl, rfl, ⟨by omega, by omega⟩, ⟨by omega, by omega⟩, ⟨by omega, by omega⟩, ⟨none, 0, rfl, Nat.le_refl _, by omega, fun h => by simp [ss, Lat.ns] at h⟩, by intro y hy; simp [Lat.ns] at hy, rfl, hp, hp.len.1, rur_nil W, by intro y hy; simp [Lat.rs] at hy, rfl⟩
def tn : Lat := ⟨2, 0, 9, [], [], []⟩
def ts : Lat := ⟨4, 0, 0, [], [], []⟩
def tx : Lat := ⟨7, 0, 0, [], [tn, ts], []⟩
def tl : Lat := ⟨7, 0, 0, [], [ts, tn], []⟩
theorem lo_n (w : World) : LO w 2 0 9 none 0 0 none 0 0 none 0 0 tn := lo_leaf 2 0 9 ⟨by omega, by omega⟩ ⟨by omega, by omega⟩ ⟨by omega, by omega⟩ w
theorem lo_s (w : World) : LO w 4 0 0 none 0 0 none 0 0 none 0 0 ts := lo_leaf 4 0 0 ⟨by omega, by omega⟩ ⟨by omega, by omega⟩ ⟨by omega, by omega⟩ w
theorem tn_ts : decide (tn = ts) = false := decide_eq_false (by intro h; cases h)
theorem seven_new (w : World) (o0 o1 o2 o3 o4 o5 o6 : Obj) : let W := (((((((w.alloc o0).alloc o1).alloc o2).alloc o3).alloc o4).alloc o5).alloc o6)
    W.heap.size = w.heap.size + 7 ∧ W.heap[w.heap.size]? = some o0 ∧ W.heap[w.heap.size + 1]? = some o1 ∧ W.heap[w.heap.size + 1 + 1]? = some o2 ∧ W.heap[w.heap.size + 1 + 1 + 1]? = some o3 ∧ W.heap[w.heap.size + 1 + 1 + 1 + 1]? = some o4 ∧ W.heap[w.heap.size + 1 + 1 + 1 + 1 + 1]? = some o5 ∧ W.heap[w.heap.size + 1 + 1 + 1 + 1 + 1 + 1]? = some o6 := by
  intro W
  have hs : W.heap.size = w.heap.size + 7 := by simp [W]
  obtain ⟨a0, a1, a2⟩ := three_new w o0 o1 o2
  obtain ⟨b0, b1, b2⟩ := three_new (((w.alloc o0).alloc o1).alloc o2) o3 o4 o5
  have hs3 : (((w.alloc o0).alloc o1).alloc o2).heap.size = w.heap.size + 1 + 1 + 1 := by simp
  have hs6 : ((((((w.alloc o0).alloc o1).alloc o2).alloc o3).alloc o4).alloc o5).heap.size = w.heap.size + 1 + 1 + 1 + 1 + 1 + 1 := by simp
  rw [hs3] at b0 b1 b2
  have c6 := heap_alloc_new ((((((w.alloc o0).alloc o1).alloc o2).alloc o3).alloc o4).alloc o5) o6
  rw [hs6] at c6
  have up : ∀ k, k < w.heap.size + 1 + 1 + 1 + 1 + 1 + 1 → W.heap[k]? = ((((((w.alloc o0).alloc o1).alloc o2).alloc o3).alloc o4).alloc o5).heap[k]? := fun k hk => (bel_alloc _ o6).block k (by rw [hs6]; exact hk)
  have up3 : ∀ k, k < w.heap.size + 1 + 1 + 1 → ((((((w.alloc o0).alloc o1).alloc o2).alloc o3).alloc o4).alloc o5).heap[k]? = (((w.alloc o0).alloc o1).alloc o2).heap[k]? := fun k hk =>
    ((bel_alloc _ o5).block k (by simp; omega)).trans (((bel_alloc _ o4).block k (by simp; omega)).trans ((bel_alloc _ o3).block k (by rw [hs3]; exact hk)))
  exact ⟨hs, (up _ (by omega)).trans ((up3 _ (by omega)).trans a0), (up _ (by omega)).trans ((up3 _ (by omega)).trans a1), (up _ (by omega)).trans ((up3 _ (by omega)).trans a2), (up _ (by omega)).trans b0, (up _ (by omega)).trans b1, (up _ (by omega)).trans b2, c6⟩
set_option maxRecDepth 100000 in
set_option maxHeartbeats 6400000 in
theorem awake_any (w : World) : Calls Try.prog 6 #[] w (BoP true w) := by
  have Z := seven_new w (.cells #[.int .i64 2, .int .i64 0, .int .i64 9, .slice none 0 0, .slice none 0 0, .slice none 0 0] 26) (.cells #[.int .i64 4, .int .i64 0, .int .i64 0, .slice none 0 0, .slice none 0 0, .slice none 0 0] 26) (.cells #[.int .i64 2, .int .i64 0, .int .i64 9, .slice none 0 0, .slice none 0 0, .slice none 0 0, .int .i64 4, .int .i64 0, .int .i64 0, .slice none 0 0, .slice none 0 0, .slice none 0 0] 26) (.cells #[.int .i64 7, .int .i64 0, .int .i64 0, .slice none 0 0, .slice (some ⟨w.heap.size + 1 + 1, 0, none⟩) 2 2, .slice none 0 0] 26) (.cells #[.string { data := #[98] }, .string { data := #[97] }] 9) (.cells #[.int .i64 1, .int .i64 0, .int .i64 0, .slice none 0 0, .slice none 0 0, .slice none 0 0, .int .i64 4, .int .i64 0, .int .i64 0, .slice none 0 0, .slice none 0 0, .slice none 0 0] 26) (.cells #[.int .i64 6, .int .i64 0, .int .i64 0, .slice (some ⟨w.heap.size + 1 + 1 + 1 + 1, 0, none⟩) 2 2, .slice (some ⟨w.heap.size + 1 + 1 + 1 + 1 + 1, 0, none⟩) 2 2, .slice none 0 0] 26)
  simp only at Z
  obtain ⟨zs, z0, z1, z2, z3, z4, z5, z6⟩ := Z
  have HBW : Hid (Below w.heap.size w (((((((w.alloc (.cells #[.int .i64 2, .int .i64 0, .int .i64 9, .slice none 0 0, .slice none 0 0, .slice none 0 0] 26)).alloc (.cells #[.int .i64 4, .int .i64 0, .int .i64 0, .slice none 0 0, .slice none 0 0, .slice none 0 0] 26)).alloc (.cells #[.int .i64 2, .int .i64 0, .int .i64 9, .slice none 0 0, .slice none 0 0, .slice none 0 0, .int .i64 4, .int .i64 0, .int .i64 0, .slice none 0 0, .slice none 0 0, .slice none 0 0] 26)).alloc (.cells #[.int .i64 7, .int .i64 0, .int .i64 0, .slice none 0 0, .slice (some ⟨w.heap.size + 1 + 1, 0, none⟩) 2 2, .slice none 0 0] 26)).alloc (.cells #[.string { data := #[98] }, .string { data := #[97] }] 9)).alloc (.cells #[.int .i64 1, .int .i64 0, .int .i64 0, .slice none 0 0, .slice none 0 0, .slice none 0 0, .int .i64 4, .int .i64 0, .int .i64 0, .slice none 0 0, .slice none 0 0, .slice none 0 0] 26)).alloc (.cells #[.int .i64 6, .int .i64 0, .int .i64 0, .slice (some ⟨w.heap.size + 1 + 1 + 1 + 1, 0, none⟩) 2 2, .slice (some ⟨w.heap.size + 1 + 1 + 1 + 1 + 1, 0, none⟩) 2 2, .slice none 0 0] 26))) := hid_of ⟨rfl, rfl, rfl, by rw [zs]; omega, fun k hk => by
    refine ((bel_alloc _ _).block k (by simp; omega)).trans (((bel_alloc _ _).block k (by simp; omega)).trans (((bel_alloc _ _).block k (by simp; omega)).trans (((bel_alloc _ _).block k (by simp; omega)).trans (((bel_alloc _ _).block k (by simp; omega)).trans (((bel_alloc _ _).block k (by simp; omega)).trans ((bel_alloc _ _).block k hk))))))⟩
  obtain ⟨W, hW⟩ : ∃ W, W = (((((((w.alloc (.cells #[.int .i64 2, .int .i64 0, .int .i64 9, .slice none 0 0, .slice none 0 0, .slice none 0 0] 26)).alloc (.cells #[.int .i64 4, .int .i64 0, .int .i64 0, .slice none 0 0, .slice none 0 0, .slice none 0 0] 26)).alloc (.cells #[.int .i64 2, .int .i64 0, .int .i64 9, .slice none 0 0, .slice none 0 0, .slice none 0 0, .int .i64 4, .int .i64 0, .int .i64 0, .slice none 0 0, .slice none 0 0, .slice none 0 0] 26)).alloc (.cells #[.int .i64 7, .int .i64 0, .int .i64 0, .slice none 0 0, .slice (some ⟨w.heap.size + 1 + 1, 0, none⟩) 2 2, .slice none 0 0] 26)).alloc (.cells #[.string { data := #[98] }, .string { data := #[97] }] 9)).alloc (.cells #[.int .i64 1, .int .i64 0, .int .i64 0, .slice none 0 0, .slice none 0 0, .slice none 0 0, .int .i64 4, .int .i64 0, .int .i64 0, .slice none 0 0, .slice none 0 0, .slice none 0 0] 26)).alloc (.cells #[.int .i64 6, .int .i64 0, .int .i64 0, .slice (some ⟨w.heap.size + 1 + 1 + 1 + 1, 0, none⟩) 2 2, .slice (some ⟨w.heap.size + 1 + 1 + 1 + 1 + 1, 0, none⟩) 2 2, .slice none 0 0] 26)) := ⟨_, rfl⟩
  have HW := hid_of hW
  rw [← hW] at zs z0 z1 z2 z3 z4 z5 z6 HBW
  have HN : Hid (∀ wz, Below W.heap.size W wz → wz.cell? ⟨w.heap.size, 0, none⟩ = some (.int .i64 2) ∧ wz.cell? ⟨w.heap.size, 1, none⟩ = some (.int .i64 0) ∧ wz.cell? ⟨w.heap.size, 2, none⟩ = some (.int .i64 9) ∧ wz.cell? ⟨w.heap.size, 3, none⟩ = some (.slice none 0 0) ∧ wz.cell? ⟨w.heap.size, 4, none⟩ = some (.slice none 0 0) ∧ wz.cell? ⟨w.heap.size, 5, none⟩ = some (.slice none 0 0)) := hid_of (fun wz hz => ⟨blk_kept (cs := [.int .i64 2, .int .i64 0, .int .i64 9, .slice none 0 0, .slice none 0 0, .slice none 0 0]) z0 hz rfl, blk_kept (cs := [.int .i64 2, .int .i64 0, .int .i64 9, .slice none 0 0, .slice none 0 0, .slice none 0 0]) z0 hz rfl, blk_kept (cs := [.int .i64 2, .int .i64 0, .int .i64 9, .slice none 0 0, .slice none 0 0, .slice none 0 0]) z0 hz rfl, blk_kept (cs := [.int .i64 2, .int .i64 0, .int .i64 9, .slice none 0 0, .slice none 0 0, .slice none 0 0]) z0 hz rfl, blk_kept (cs := [.int .i64 2, .int .i64 0, .int .i64 9, .slice none 0 0, .slice none 0 0, .slice none 0 0]) z0 hz rfl, blk_kept (cs := [.int .i64 2, .int .i64 0, .int .i64 9, .slice none 0 0, .slice none 0 0, .slice none 0 0]) z0 hz rfl⟩)
  have HS : Hid (∀ wz, Below W.heap.size W wz → wz.cell? ⟨w.heap.size + 1, 0, none⟩ = some (.int .i64 4) ∧ wz.cell? ⟨w.heap.size + 1, 1, none⟩ = some (.int .i64 0) ∧ wz.cell? ⟨w.heap.size + 1, 2, none⟩ = some (.int .i64 0) ∧ wz.cell? ⟨w.heap.size + 1, 3, none⟩ = some (.slice none 0 0) ∧ wz.cell? ⟨w.heap.size + 1, 4, none⟩ = some (.slice none 0 0) ∧ wz.cell? ⟨w.heap.size + 1, 5, none⟩ = some (.slice none 0 0)) := hid_of (fun wz hz => ⟨blk_kept (cs := [.int .i64 4, .int .i64 0, .int .i64 0, .slice none 0 0, .slice none 0 0, .slice none 0 0]) z1 hz rfl, blk_kept (cs := [.int .i64 4, .int .i64 0, .int .i64 0, .slice none 0 0, .slice none 0 0, .slice none 0 0]) z1 hz rfl, blk_kept (cs := [.int .i64 4, .int .i64 0, .int .i64 0, .slice none 0 0, .slice none 0 0, .slice none 0 0]) z1 hz rfl, blk_kept (cs := [.int .i64 4, .int .i64 0, .int .i64 0, .slice none 0 0, .slice none 0 0, .slice none 0 0]) z1 hz rfl, blk_kept (cs := [.int .i64 4, .int .i64 0, .int .i64 0, .slice none 0 0, .slice none 0 0, .slice none 0 0]) z1 hz rfl, blk_kept (cs := [.int .i64 4, .int .i64 0, .int .i64 0, .slice none 0 0, .slice none 0 0, .slice none 0 0]) z1 hz rfl⟩)
  have HX : Hid (∀ wz, Below W.heap.size W wz → wz.cell? ⟨w.heap.size + 1 + 1 + 1, 0, none⟩ = some (.int .i64 7) ∧ wz.cell? ⟨w.heap.size + 1 + 1 + 1, 1, none⟩ = some (.int .i64 0) ∧ wz.cell? ⟨w.heap.size + 1 + 1 + 1, 2, none⟩ = some (.int .i64 0) ∧ wz.cell? ⟨w.heap.size + 1 + 1 + 1, 3, none⟩ = some (.slice none 0 0) ∧ wz.cell? ⟨w.heap.size + 1 + 1 + 1, 4, none⟩ = some (.slice (some ⟨w.heap.size + 1 + 1, 0, none⟩) 2 2) ∧ wz.cell? ⟨w.heap.size + 1 + 1 + 1, 5, none⟩ = some (.slice none 0 0)) := hid_of (fun wz hz => ⟨blk_kept (cs := [.int .i64 7, .int .i64 0, .int .i64 0, .slice none 0 0, .slice (some ⟨w.heap.size + 1 + 1, 0, none⟩) 2 2, .slice none 0 0]) z3 hz rfl, blk_kept (cs := [.int .i64 7, .int .i64 0, .int .i64 0, .slice none 0 0, .slice (some ⟨w.heap.size + 1 + 1, 0, none⟩) 2 2, .slice none 0 0]) z3 hz rfl, blk_kept (cs := [.int .i64 7, .int .i64 0, .int .i64 0, .slice none 0 0, .slice (some ⟨w.heap.size + 1 + 1, 0, none⟩) 2 2, .slice none 0 0]) z3 hz rfl, blk_kept (cs := [.int .i64 7, .int .i64 0, .int .i64 0, .slice none 0 0, .slice (some ⟨w.heap.size + 1 + 1, 0, none⟩) 2 2, .slice none 0 0]) z3 hz rfl, blk_kept (cs := [.int .i64 7, .int .i64 0, .int .i64 0, .slice none 0 0, .slice (some ⟨w.heap.size + 1 + 1, 0, none⟩) 2 2, .slice none 0 0]) z3 hz rfl, blk_kept (cs := [.int .i64 7, .int .i64 0, .int .i64 0, .slice none 0 0, .slice (some ⟨w.heap.size + 1 + 1, 0, none⟩) 2 2, .slice none 0 0]) z3 hz rfl⟩)
  have LXW : Hid (LO W 7 0 0 none 0 0 (some ⟨w.heap.size + 1 + 1, 0, none⟩) 2 2 none 0 0 tx) := hid_of (lex_row (pair_row ⟨2, 0, 9, .slice none 0 0, .slice none 0 0, .slice none 0 0⟩ ⟨4, 0, 0, .slice none 0 0, .slice none 0 0, .slice none 0 0⟩ z2 (lo_n W).ld (lo_s W).ld) rfl)
  have RN : Rd W (.slice (some ⟨w.heap.size + 1 + 1 + 1 + 1, 0, none⟩) 2 2) (ss [[98], [97]]) := ⟨_, _, rfl, by simp [ss], by simp [ss], fun _ => ⟨_, _, rfl, lt_of_block z4, fun j u hu => by
    rw [Nat.zero_add]
    match j, hu with
    | 0, hu => simp only [ss, List.map_cons, List.getElem?_cons_zero, Option.some.injEq] at hu; subst hu; exact cell_blk (cs := [.string { data := #[98] }, .string { data := #[97] }]) z4 rfl
    | 1, hu => simp only [ss, List.map_cons, List.map_nil, List.getElem?_cons_succ, List.getElem?_cons_zero, Option.some.injEq] at hu; subst hu; exact cell_blk (cs := [.string { data := #[98] }, .string { data := #[97] }]) z4 rfl
    | j + 2, hu => simp [ss] at hu⟩⟩
  have FI := hid_of (field_yes 0 0 (some ⟨w.heap.size + 1 + 1 + 1 + 1, 0, none⟩) 2 2 (w.heap.size + 1 + 1 + 1 + 1 + 1) 0 2 2 none 0 0 4 0 0 none 0 0 none 0 0 none 0 0 [[98], [97]] [97] 1 W RN (.inl ⟨1, rfl, rfl, by intro j hj; match j, hj with | 0, _ => simp⟩) (by omega) (by omega)
    (fun w' h => ⟨blk_kept (cs := [.int .i64 1, .int .i64 0, .int .i64 0, .slice none 0 0, .slice none 0 0, .slice none 0 0, .int .i64 4, .int .i64 0, .int .i64 0, .slice none 0 0, .slice none 0 0, .slice none 0 0]) z5 h rfl, blk_kept (cs := [.int .i64 1, .int .i64 0, .int .i64 0, .slice none 0 0, .slice none 0 0, .slice none 0 0, .int .i64 4, .int .i64 0, .int .i64 0, .slice none 0 0, .slice none 0 0, .slice none 0 0]) z5 h rfl, blk_kept (cs := [.int .i64 1, .int .i64 0, .int .i64 0, .slice none 0 0, .slice none 0 0, .slice none 0 0, .int .i64 4, .int .i64 0, .int .i64 0, .slice none 0 0, .slice none 0 0, .slice none 0 0]) z5 h rfl, blk_kept (cs := [.int .i64 1, .int .i64 0, .int .i64 0, .slice none 0 0, .slice none 0 0, .slice none 0 0, .int .i64 4, .int .i64 0, .int .i64 0, .slice none 0 0, .slice none 0 0, .slice none 0 0]) z5 h rfl, blk_kept (cs := [.int .i64 1, .int .i64 0, .int .i64 0, .slice none 0 0, .slice none 0 0, .slice none 0 0, .int .i64 4, .int .i64 0, .int .i64 0, .slice none 0 0, .slice none 0 0, .slice none 0 0]) z5 h rfl, blk_kept (cs := [.int .i64 1, .int .i64 0, .int .i64 0, .slice none 0 0, .slice none 0 0, .slice none 0 0, .int .i64 4, .int .i64 0, .int .i64 0, .slice none 0 0, .slice none 0 0, .slice none 0 0]) z5 h rfl⟩) (fun cells _ => cells = #[.int .i64 4, .int .i64 0, .int .i64 0, .slice none 0 0, .slice none 0 0, .slice none 0 0]) (fun wz hz _ => (clone_leaf 4 0 0 wz).mono (by
      rintro e w' ⟨rfl, h2⟩
      exact ⟨_, rfl, rfl, by simp [Value.oneCell'], h2, rfl⟩)))
  clear z0 z1 z2 z3 z4 z5 z6 RN
  have HF : Hid (∀ w1 wz : World, Below (w1.alloc (.cells #[.int .i64 4, .int .i64 0, .int .i64 0, .slice none 0 0, .slice none 0 0, .slice none 0 0] 26)).heap.size (w1.alloc (.cells #[.int .i64 4, .int .i64 0, .int .i64 0, .slice none 0 0, .slice none 0 0, .slice none 0 0] 26)) wz → wz.cell? ⟨w1.heap.size, 0, none⟩ = some (.int .i64 4)) := hid_of (fun w1 wz hz => blk_kept (cs := [.int .i64 4, .int .i64 0, .int .i64 0, .slice none 0 0, .slice none 0 0, .slice none 0 0]) (heap_alloc_new w1 _) hz rfl)
  have HD : Hid (∀ w2 wz : World, Below (w2.alloc (.cells #[.int .i64 2, .int .i64 0, .int .i64 9, .slice none 0 0, .slice none 0 0, .slice none 0 0] 26)).heap.size (w2.alloc (.cells #[.int .i64 2, .int .i64 0, .int .i64 9, .slice none 0 0, .slice none 0 0, .slice none 0 0] 26)) wz → wz.cell? ⟨w2.heap.size, 0, none⟩ = some (.int .i64 2) ∧ wz.cell? ⟨w2.heap.size, 1, none⟩ = some (.int .i64 0) ∧ wz.cell? ⟨w2.heap.size, 2, none⟩ = some (.int .i64 9) ∧ wz.cell? ⟨w2.heap.size, 3, none⟩ = some (.slice none 0 0) ∧ wz.cell? ⟨w2.heap.size, 4, none⟩ = some (.slice none 0 0) ∧ wz.cell? ⟨w2.heap.size, 5, none⟩ = some (.slice none 0 0)) := hid_of (fun w2 wz hz => ⟨blk_kept (cs := [.int .i64 2, .int .i64 0, .int .i64 9, .slice none 0 0, .slice none 0 0, .slice none 0 0]) (heap_alloc_new w2 _) hz rfl, blk_kept (cs := [.int .i64 2, .int .i64 0, .int .i64 9, .slice none 0 0, .slice none 0 0, .slice none 0 0]) (heap_alloc_new w2 _) hz rfl, blk_kept (cs := [.int .i64 2, .int .i64 0, .int .i64 9, .slice none 0 0, .slice none 0 0, .slice none 0 0]) (heap_alloc_new w2 _) hz rfl, blk_kept (cs := [.int .i64 2, .int .i64 0, .int .i64 9, .slice none 0 0, .slice none 0 0, .slice none 0 0]) (heap_alloc_new w2 _) hz rfl, blk_kept (cs := [.int .i64 2, .int .i64 0, .int .i64 9, .slice none 0 0, .slice none 0 0, .slice none 0 0]) (heap_alloc_new w2 _) hz rfl, blk_kept (cs := [.int .i64 2, .int .i64 0, .int .i64 9, .slice none 0 0, .slice none 0 0, .slice none 0 0]) (heap_alloc_new w2 _) hz rfl⟩)
  have DC : Hid (∀ w1 : World, Calls Try.prog 9 #[.slice (some ⟨w1.heap.size + 1, 0, none⟩) 3 3] ((w1.alloc (.cells #[.int .i64 4, .int .i64 0, .int .i64 0, .slice none 0 0, .slice none 0 0, .slice none 0 0] 26)).alloc (.cells #[.int .u8 2, .int .u8 0, .int .u8 18] 5)) fun e w' => e = .returned (.tuple #[.agg #[.int .i64 2, .int .i64 0, .int .i64 9, .slice none 0 0, .slice none 0 0, .slice none 0 0], .int .i64 0]) ∧ Below ((w1.alloc (.cells #[.int .i64 4, .int .i64 0, .int .i64 0, .slice none 0 0, .slice none 0 0, .slice none 0 0] 26)).alloc (.cells #[.int .u8 2, .int .u8 0, .int .u8 18] 5)).heap.size ((w1.alloc (.cells #[.int .i64 4, .int .i64 0, .int .i64 0, .slice none 0 0, .slice none 0 0, .slice none 0 0] 26)).alloc (.cells #[.int .u8 2, .int .u8 0, .int .u8 18] 5)) w') := hid_of (fun w1 => by
    have q := (two_new w1 (.cells #[.int .i64 4, .int .i64 0, .int .i64 0, .slice none 0 0, .slice none 0 0, .slice none 0 0] 26) (.cells #[.int .u8 2, .int .u8 0, .int .u8 18] 5)).2
    have u0 : Wr.unzig 0 = 0 := by rfl
    have u1 : Wr.unzig 18 = 9 := by rfl
    have := decmax_any (some ⟨w1.heap.size + 1, 0, none⟩) 3 1 1 1 0 18 [2, 0, 18] ((w1.alloc (.cells #[.int .i64 4, .int .i64 0, .int .i64 0, .slice none 0 0, .slice none 0 0, .slice none 0 0] 26)).alloc (.cells #[.int .u8 2, .int .u8 0, .int .u8 18] 5)) (by intro x hx; simp at hx; omega) (by simp)
      (fun _ => ⟨_, rfl, fun w' hb j v hv => by rw [Addr.add_mid, Nat.zero_add]; exact blk_kept (cs := Wr.bs [2, 0, 18]) q hb hv⟩)
      (by rfl) (by rfl) (by rfl) (by rfl) (by rw [u0]; exact ⟨by omega, by omega⟩) (by rw [u1]; exact ⟨by omega, by omega⟩) (by rw [u0, u1]; kernel_rfl)
    rw [u0, u1] at this
    exact this)
  have EN : Hid (∀ wz : World, Calls Try.prog 8 #[.agg #[.int .i64 2, .int .i64 0, .int .i64 9, .slice none 0 0, .slice none 0 0, .slice none 0 0]] wz fun e w' => ∃ g, e = .returned (.slice (some ⟨g, 0, none⟩) 3 3) ∧ w'.heap[g]? = some (.cells (Wr.bs [2, 0, 18]).toArray 5 (0, 0)) ∧ Below wz.heap.size wz w' ∧ wz.heap.size ≤ g) := hid_of (fun wz =>
    encmax_any 0 9 tn rfl (by kernel_rfl) wz ⟨by omega, by omega⟩ ⟨by omega, by omega⟩ [2, 0, 18] (by
      rw [show Wr.zig 0 = 0 by rfl, show Wr.zig 9 = 18 by rfl, Wr.enc_lt (by omega), Wr.enc_lt (by omega), Wr.enc_lt (by omega)]; rfl))
  have CK1 : Hid (∀ wz : World, Calls Try.prog 13 #[.agg #[.int .i64 2, .int .i64 3, .int .i64 2, .slice none 0 0, .slice none 0 0, .slice none 0 0]] wz (ErP 5 wz)) := hid_of (fun wz => by
    have := check_any _ 2 3 2 none 0 0 none 0 0 none 0 0 wz (lo_leaf 2 3 2 ⟨by omega, by omega⟩ ⟨by omega, by omega⟩ ⟨by omega, by omega⟩ wz)
    rwa [show chkL ⟨2, 3, 2, [], [], []⟩ = 5 by kernel_rfl] at this)
  have CN : Hid (∀ wz : World, Calls Try.prog 16 #[.agg #[.int .i64 2, .int .i64 0, .int .i64 9, .slice none 0 0, .slice none 0 0, .slice none 0 0]] wz (BoP true wz)) := hid_of (fun wz => by
    have := chain_any tn 2 0 9 none 0 0 none 0 0 none 0 0 wz (lo_n wz)
    rwa [show chainL tn = true by kernel_rfl] at this)
  have CX : Hid (∀ wz : World, Below W.heap.size W wz → Calls Try.prog 16 #[.agg #[.int .i64 7, .int .i64 0, .int .i64 0, .slice none 0 0, .slice (some ⟨w.heap.size + 1 + 1, 0, none⟩) 2 2, .slice none 0 0]] wz (BoP false wz)) := hid_of (fun wz hz => by
    have := chain_any tx 7 0 0 none 0 0 _ 2 2 none 0 0 wz (LXW.out.at hz)
    rwa [show chainL tx = false by kernel_rfl] at this)
  have FN : Hid (∀ wz : World, Calls Try.prog 17 #[.agg #[.int .i64 2, .int .i64 0, .int .i64 9, .slice none 0 0, .slice none 0 0, .slice none 0 0]] wz (BoP true wz)) := hid_of (fun wz => by
    have := finite_any tn 2 0 9 none 0 0 none 0 0 none 0 0 wz (lo_n wz)
    rwa [show finL tn = true by kernel_rfl] at this)
  have FX : Hid (∀ wz : World, Below W.heap.size W wz → Calls Try.prog 17 #[.agg #[.int .i64 7, .int .i64 0, .int .i64 0, .slice none 0 0, .slice (some ⟨w.heap.size + 1 + 1, 0, none⟩) 2 2, .slice none 0 0]] wz (BoP false wz)) := hid_of (fun wz hz => by
    have := finite_any tx 7 0 0 none 0 0 _ 2 2 none 0 0 wz (LXW.out.at hz)
    rwa [show finL tx = false by kernel_rfl] at this)
  have DX : Hid (∀ wz : World, Below W.heap.size W wz → Calls Try.prog 18 #[.agg #[.int .i64 7, .int .i64 0, .int .i64 0, .slice none 0 0, .slice (some ⟨w.heap.size + 1 + 1, 0, none⟩) 2 2, .slice none 0 0]] wz (BoP true wz)) := hid_of (fun wz hz => by
    have := dist_any tx 7 0 0 none 0 0 _ 2 2 none 0 0 wz (LXW.out.at hz)
    rwa [show distL tx = true by kernel_rfl] at this)
  have PX : Hid (∀ wz : World, Below W.heap.size W wz → Calls Try.prog 19 #[.agg #[.int .i64 7, .int .i64 0, .int .i64 0, .slice none 0 0, .slice (some ⟨w.heap.size + 1 + 1, 0, none⟩) 2 2, .slice none 0 0]] wz fun e w' => e = .returned (.int .i64 2) ∧ Below wz.heap.size wz w') := hid_of (fun wz hz => by
    have hd : depthL tx = 2 := by kernel_rfl
    have := depth_any tx 7 0 0 none 0 0 _ 2 2 none 0 0 wz (LXW.out.at hz) (by rw [hd]; omega)
    unfold DepP at this
    rwa [hd] at this)
  have EQ1 : Hid (∀ wz : World, Calls Try.prog 14 #[.agg #[.int .i64 2, .int .i64 0, .int .i64 9, .slice none 0 0, .slice none 0 0, .slice none 0 0], .agg #[.int .i64 2, .int .i64 0, .int .i64 9, .slice none 0 0, .slice none 0 0, .slice none 0 0]] wz (BoP true wz)) := hid_of (fun wz => by
    have := equal_any tn tn 2 0 9 none 0 0 none 0 0 none 0 0 2 0 9 none 0 0 none 0 0 none 0 0 wz (lo_n wz) (lo_n wz)
    rwa [show decide (tn = tn) = true by simp] at this)
  have EQ2 : Hid (∀ wz : World, Calls Try.prog 14 #[.agg #[.int .i64 2, .int .i64 0, .int .i64 9, .slice none 0 0, .slice none 0 0, .slice none 0 0], .agg #[.int .i64 4, .int .i64 0, .int .i64 0, .slice none 0 0, .slice none 0 0, .slice none 0 0]] wz (BoP false wz)) := hid_of (fun wz => by
    have := equal_any tn ts 2 0 9 none 0 0 none 0 0 none 0 0 4 0 0 none 0 0 none 0 0 none 0 0 wz (lo_n wz) (lo_s wz)
    rwa [tn_ts] at this)
  have CK2 : Hid (∀ wz : World, Calls Try.prog 13 #[.agg #[.int .i64 7, .int .i64 0, .int .i64 0, .slice none 0 0, .slice (some ⟨wz.heap.size, 0, none⟩) 2 2, .slice none 0 0]] (wz.alloc (.cells #[.int .i64 4, .int .i64 0, .int .i64 0, .slice none 0 0, .slice none 0 0, .slice none 0 0, .int .i64 2, .int .i64 0, .int .i64 9, .slice none 0 0, .slice none 0 0, .slice none 0 0] 26)) (ErP 4 (wz.alloc (.cells #[.int .i64 4, .int .i64 0, .int .i64 0, .slice none 0 0, .slice none 0 0, .slice none 0 0, .int .i64 2, .int .i64 0, .int .i64 9, .slice none 0 0, .slice none 0 0, .slice none 0 0] 26)))) := hid_of (fun wz => by
    have := check_any tl 7 0 0 none 0 0 _ 2 2 none 0 0 (wz.alloc (.cells #[.int .i64 4, .int .i64 0, .int .i64 0, .slice none 0 0, .slice none 0 0, .slice none 0 0, .int .i64 2, .int .i64 0, .int .i64 9, .slice none 0 0, .slice none 0 0, .slice none 0 0] 26)) (lex_row (pair_row ⟨4, 0, 0, .slice none 0 0, .slice none 0 0, .slice none 0 0⟩ ⟨2, 0, 9, .slice none 0 0, .slice none 0 0, .slice none 0 0⟩ (heap_alloc_new wz _) (lo_s _).ld (lo_n _).ld) rfl)
    rwa [show chkL tl = 4 by kernel_rfl] at this)
  have HSTR : Hid (strOfNums [2, 0, 18] = { data := #[2, 0, 18] }) := hid_of (by rfl)
  have FI2 : Hid (Calls Try.prog 15 #[.agg #[.int .i64 6, .int .i64 0, .int .i64 0, .slice (some ⟨w.heap.size + 1 + 1 + 1 + 1, 0, none⟩) 2 2, .slice (some ⟨w.heap.size + 1 + 1 + 1 + 1 + 1, 0, none⟩) 2 2, .slice none 0 0], .string { data := #[97] }] W fun e w' => e = .returned (.tuple #[.agg #[.int .i64 4, .int .i64 0, .int .i64 0, .slice none 0 0, .slice none 0 0, .slice none 0 0], .bool true]) ∧ Below W.heap.size W w') := hid_of (FI.out.mono (by
    rintro e w' ⟨cells, w3, rfl, rfl, _, h⟩
    exact ⟨rfl, h⟩))
  clear FI
  go_enter Try.func6, Try.ntmps6
  clear hW
  go_wp2_with (first
    | (go_at_call 15; ((rw [← HW.out]); (refine (FI2.out).mono ?_); (rintro e w1 ⟨rfl, h1⟩); (have B1 := hid_of h1); clear h1))
    | (go_at_call 9; ((with_reducible refine (DC.out w1).mono ?_); (rintro e w2 ⟨rfl, h2⟩); (have XF0 : Hid (Below (w1.alloc (.cells #[.int .i64 4, .int .i64 0, .int .i64 0, .slice none 0 0, .slice none 0 0, .slice none 0 0] 26)).heap.size (w1.alloc (.cells #[.int .i64 4, .int .i64 0, .int .i64 0, .slice none 0 0, .slice none 0 0, .slice none 0 0] 26)) w2) := hid_of ((bel_alloc _ _).trans (h2.mono (by simp)))); (have XF : Hid (Below (w1.alloc (.cells #[.int .i64 4, .int .i64 0, .int .i64 0, .slice none 0 0, .slice none 0 0, .slice none 0 0] 26)).heap.size (w1.alloc (.cells #[.int .i64 4, .int .i64 0, .int .i64 0, .slice none 0 0, .slice none 0 0, .slice none 0 0] 26)) (w2.alloc (.cells #[.int .i64 2, .int .i64 0, .int .i64 9, .slice none 0 0, .slice none 0 0, .slice none 0 0] 26))) := hid_of (XF0.out.trans ((bel_alloc w2 _).mono XF0.out.size))); (have XW : Hid (Below W.heap.size W (w2.alloc (.cells #[.int .i64 2, .int .i64 0, .int .i64 9, .slice none 0 0, .slice none 0 0, .slice none 0 0] 26))) := hid_of (((B1.out.trans ((bel_alloc w1 _).mono B1.out.size))).trans (XF.out.mono (by have := B1.out.size; simp; omega)))); (have E2 : Hid (Below (w2.alloc (.cells #[.int .i64 2, .int .i64 0, .int .i64 9, .slice none 0 0, .slice none 0 0, .slice none 0 0] 26)).heap.size (w2.alloc (.cells #[.int .i64 2, .int .i64 0, .int .i64 9, .slice none 0 0, .slice none 0 0, .slice none 0 0] 26)) (w2.alloc (.cells #[.int .i64 2, .int .i64 0, .int .i64 9, .slice none 0 0, .slice none 0 0, .slice none 0 0] 26))) := hid_of (Below.refl _ _)); (obtain ⟨n20, n21, n22, n23, n24, n25⟩ := HN.out (w2.alloc (.cells #[.int .i64 2, .int .i64 0, .int .i64 9, .slice none 0 0, .slice none 0 0, .slice none 0 0] 26)) XW.out); clear h2))
    | (go_at_call 8; ((with_reducible refine (EN.out _).mono ?_); (rintro e w3 ⟨g3, rfl, hg3, h3, _⟩); (have E3 := hid_of h3); (have G3 := hid_of hg3); (have cv := Wr.run_str w3 30 9 5 Try.underlying30 Try.underlying5 Try.underlying9 (some ⟨g3, 0, none⟩) [2, 0, 18] 3 (Wr.row_src G3.out)); (rw [HSTR.out] at cv); (simp only [List.length_cons, List.length_nil, Nat.zero_add, Nat.reduceAdd] at cv); clear h3 hg3 n20 n21 n22 n23 n24 n25))
    | (go_at_call 13; ((with_reducible refine (CK1.out _).mono ?_); (rintro e w4 ⟨rfl, h4⟩); (have E4 := hid_of (E3.out.trans (h4.mono E3.out.size))); (obtain ⟨n40, n41, n42, n43, n44, n45⟩ := HN.out w4 (XW.out.trans (E4.out.mono XW.out.size))); clear h4))
    | (go_at_call 16; ((with_reducible refine (CN.out _).mono ?_); (rintro e w5 ⟨rfl, h5⟩); (have E5 := hid_of (E4.out.trans (h5.mono E4.out.size))); (obtain ⟨x50, x51, x52, x53, x54, x55⟩ := HX.out w5 (XW.out.trans (E5.out.mono XW.out.size))); clear n40 n41 n42 n43 n44 n45; clear h5))
    | (go_at_call 16; ((with_reducible refine (CX.out _ (XW.out.trans (E5.out.mono XW.out.size))).mono ?_); (rintro e w6 ⟨rfl, h6⟩); (have E6 := hid_of (E5.out.trans (h6.mono E5.out.size))); (obtain ⟨n60, n61, n62, n63, n64, n65⟩ := HN.out w6 (XW.out.trans (E6.out.mono XW.out.size))); clear x50 x51 x52 x53 x54 x55; clear h6))
    | (go_at_call 17; ((with_reducible refine (FN.out _).mono ?_); (rintro e w7 ⟨rfl, h7⟩); (have E7 := hid_of (E6.out.trans (h7.mono E6.out.size))); (obtain ⟨x70, x71, x72, x73, x74, x75⟩ := HX.out w7 (XW.out.trans (E7.out.mono XW.out.size))); clear n60 n61 n62 n63 n64 n65; clear h7))
    | (go_at_call 17; ((with_reducible refine (FX.out _ (XW.out.trans (E7.out.mono XW.out.size))).mono ?_); (rintro e w8 ⟨rfl, h8⟩); (have E8 := hid_of (E7.out.trans (h8.mono E7.out.size))); (obtain ⟨x80, x81, x82, x83, x84, x85⟩ := HX.out w8 (XW.out.trans (E8.out.mono XW.out.size))); clear x70 x71 x72 x73 x74 x75; clear h8))
    | (go_at_call 18; ((with_reducible refine (DX.out _ (XW.out.trans (E8.out.mono XW.out.size))).mono ?_); (rintro e w9 ⟨rfl, h9⟩); (have E9 := hid_of (E8.out.trans (h9.mono E8.out.size))); (obtain ⟨x90, x91, x92, x93, x94, x95⟩ := HX.out w9 (XW.out.trans (E9.out.mono XW.out.size))); clear x80 x81 x82 x83 x84 x85; clear h9))
    | (go_at_call 19; ((with_reducible refine (PX.out _ (XW.out.trans (E9.out.mono XW.out.size))).mono ?_); (rintro e w10 ⟨rfl, h10⟩); (have E10 := hid_of (E9.out.trans (h10.mono E9.out.size))); (obtain ⟨n100, n101, n102, n103, n104, n105⟩ := HN.out w10 (XW.out.trans (E10.out.mono XW.out.size))); (obtain ⟨d100, d101, d102, d103, d104, d105⟩ := HD.out w2 w10 E10.out); (have f10 := HF.out w1 w10 (XF.out.trans (E10.out.mono XF.out.size))); clear x90 x91 x92 x93 x94 x95; clear h10))
    | (go_at_call 14; ((with_reducible refine (EQ1.out _).mono ?_); (rintro e w11 ⟨rfl, h11⟩); (have E11 := hid_of (E10.out.trans (h11.mono E10.out.size))); (obtain ⟨s110, s111, s112, s113, s114, s115⟩ := HS.out w11 (XW.out.trans (E11.out.mono XW.out.size))); (obtain ⟨d110, d111, d112, d113, d114, d115⟩ := HD.out w2 w11 E11.out); clear f10 d100 d101 d102 d103 d104 d105 n100 n101 n102 n103 n104 n105; clear h11))
    | (go_at_call 14; ((with_reducible refine (EQ2.out _).mono ?_); (rintro e w12 ⟨rfl, h12⟩); (have E12 := hid_of (E11.out.trans (h12.mono E11.out.size))); (obtain ⟨n120, n121, n122, n123, n124, n125⟩ := HN.out w12 (XW.out.trans (E12.out.mono XW.out.size))); (obtain ⟨s120, s121, s122, s123, s124, s125⟩ := HS.out w12 (XW.out.trans (E12.out.mono XW.out.size))); clear d110 d111 d112 d113 d114 d115 s110 s111 s112 s113 s114 s115; clear h12))
    | (go_at_call 13; ((with_reducible refine (CK2.out w12).mono ?_); (rintro e w13 ⟨rfl, h13⟩); (have E13 := hid_of (E12.out.trans (((bel_alloc w12 _).trans (h13.mono (by simp))).mono E12.out.size))); clear h13)))
  go_ret
  exact ⟨rfl, HBW.out.trans ((XW.out.trans (E13.out.mono XW.out.size)).mono HBW.out.size)⟩
end Go.Proofs.Ytcjnmgokddfidaa

/- Encode of package lattice. Bounds on sizes alone. -/
namespace Go.Proofs.Ytcjnmgokddfidaa
open Go.RowKit

def By (l : List Int) : Prop := ∀ y ∈ l, 0 ≤ y ∧ y ≤ 255
theorem By.app {l m : List Int} (h : By l) (h2 : By m) : By (l ++ m) := fun y hy => (List.mem_append.1 hy).elim (h y) (h2 y)
theorem By.nil : By [] := fun y hy => by cases hy
theorem by_enc (n : Nat) : By (Wr.enc n) := Wr.enc_byte n
theorem by_tx (x : Str) : By (txE x) := (by_enc _).app fun y hy => by
  unfold Wr.strBytes at hy
  obtain ⟨c, _, rfl⟩ := List.mem_map.1 hy
  have := c.toNat_lt
  omega
theorem by_flat {α : Type} {f : α → List Int} {l : List α} (h : ∀ x ∈ l, By (f x)) : By (l.flatMap f) := fun y hy => by
  obtain ⟨x, hx, hy⟩ := List.mem_flatMap.1 hy
  exact h x hx y hy
theorem by_ns (l : List Str) : By (nsE l) := (by_enc _).app (by_flat fun x _ => by_tx x)
theorem by_rs (l : List Gr) : By (rsE l) := (by_enc _).app (by_flat fun r _ => (by_ns r.1).app (by_tx r.2))
theorem by_ps : ∀ (ns : List Str) (ps : List Lat), (∀ p ∈ ps, By (encL p)) → By (encPs ns ps)
  | [], ps, _ => by rw [encPs_nil]; exact .nil
  | _ :: _, [], _ => by rw [encPs]; exact .nil
  | n :: ns, p :: ps, h => by
    rw [encPs_cons]
    exact ((by_tx n).app (h p (by simp))).app (by_ps ns ps fun q hq => h q (by simp [hq]))
theorem encL_byte : ∀ t, By (encL t) := by
  refine lat_ind ?_
  intro k lo hi ns ps rs ih
  rw [encL]
  refine (by_enc _).app ?_
  split
  · exact (by_enc _).app (by_enc _)
  · split
    · exact by_ns ns
    · split
      · refine (by_ns ns).app ?_
        rw [encLs_map]; exact by_flat ih
      · split
        · exact (by_enc _).app (by_ps ns ps ih)
        · split
          · rw [encLs_map]; exact by_flat ih
          · split
            · exact (by_ns ns).app (by_rs rs)
            · exact .nil
/-- The bytes of a list as a string, and back. -/
def strU (l : List Int) : Str := l.map fun n => UInt8.ofNat n.toNat
theorem strU_ba (l : List Int) : strOfNums l = ba (strU l) := rfl
theorem strU_inj {l m : List Int} (h : By l) (h2 : By m) (e : strU l = strU m) : l = m := by
  have hx : ∀ z : List Int, By z → (strU z).map (fun c => (c.toNat : Int)) = z := fun z hz => by
    unfold strU
    rw [List.map_map]
    refine (List.map_congr_left (fun y hy => ?_)).trans (List.map_id z)
    have := hz y hy
    simp only [Function.comp, UInt8.toNat_ofNat', id]
    omega
  rw [← hx l h, ← hx m h2, e]
theorem enc_bound {t : Lat} (h : chkL t = 0) : (encL t).length ≤ 30000000000 := by
  have h1 := encL_len t (okay_of t 1 0 h)
  have h2 := (parts_ok h).1
  have h3 : 10 ^ depthL t ≤ 10 ^ 6 := Nat.pow_le_pow_right (by omega) h2
  have h4 := Nat.mul_le_mul_left 30000 h3
  have h5 : 30000 * 10 ^ 6 = 30000000000 := by decide
  omega
set_option maxRecDepth 100000 in
set_option maxHeartbeats 3200000 in
theorem encode_any (t : Lat) (k lo hi : Int) (an : Option Addr) (nn cn : Nat) (ap : Option Addr) (np cp : Nat) (ar : Option Addr) (nr cr : Nat) (w : World) (H : LO w k lo hi an nn cn ap np cp ar nr cr t) (hok : chkL t = 0) (M : List Int) (hM : M = encL t) :
    Calls Try.prog 8 #[.agg #[.int .i64 k, .int .i64 lo, .int .i64 hi, .slice an nn cn, .slice ap np cp, .slice ar nr cr]] w fun e w' => ∃ g, e = .returned (.slice (some ⟨g, 0, none⟩) M.length M.length) ∧ w'.heap[g]? = some (.cells (Wr.bs M).toArray 5 (0, 0)) ∧ Below w.heap.size w w' ∧ w.heap.size ≤ g := by
  have HBW := hid_of (bel_alloc w (.cells #[.int .i64 k, .int .i64 lo, .int .i64 hi, .slice an nn cn, .slice ap np cp, .slice ar nr cr] 26))
  have CH := hid_of (check_any t k lo hi an nn cn ap np cp ar nr cr (w.alloc (.cells #[.int .i64 k, .int .i64 lo, .int .i64 hi, .slice an nn cn, .slice ap np cp, .slice ar nr cr] 26)) (H.at HBW.out))
  rw [hok] at CH
  have HC : Hid (∀ w', Below (w.alloc (.cells #[.int .i64 k, .int .i64 lo, .int .i64 hi, .slice an nn cn, .slice ap np cp, .slice ar nr cr] 26)).heap.size (w.alloc (.cells #[.int .i64 k, .int .i64 lo, .int .i64 hi, .slice an nn cn, .slice ap np cp, .slice ar nr cr] 26)) w' → _) := hid_of (fun w' h => box6 k lo hi an nn cn ap np cp ar nr cr h)
  have HML : Hid (M.length ≤ 30000000000) := hid_of (by rw [hM]; exact enc_bound hok)
  have WM : Hid (∀ w2 : World, Below w.heap.size w w2 → Calls Try.prog 21 #[.pointer (some ⟨w2.heap.size, 0, none⟩), .agg #[.int .i64 k, .int .i64 lo, .int .i64 hi, .slice an nn cn, .slice ap np cp, .slice ar nr cr]] (w2.alloc (.cells #[.slice none 0 0] 44)) fun e w' => e = .returned (.tuple #[]) ∧ ∃ v', Wr.Wst w2.heap.size w2.heap.size w' v' M ∧ Below w2.heap.size w2 w') := hid_of (fun w2 h2 => by
    have hw : Wr.Wst w2.heap.size w2.heap.size (w2.alloc (.cells #[.slice none 0 0] 44)) (.slice none 0 0) [] := ⟨heap_alloc_new _ _, World.ownsRow_nil _ _ _ _⟩
    have hb := bel_alloc w2 (.cells #[.slice none 0 0] 44)
    refine (write_any w2 w2.heap.size t (okay_of t 1 0 hok) k lo hi an nn cn ap np cp ar nr cr _ _ _ (H.at h2) hb (Nat.le_refl _) hw (by rw [← hM, List.length_nil]; have := HML.out; omega)).mono ?_
    rintro e w' ⟨rfl, k⟩
    obtain ⟨v', k1, _⟩ := k.ex
    rw [List.nil_append, ← hM] at k1
    exact ⟨rfl, v', k1, hb.trans k.bel⟩)
  clear hM H
  go_enter Try.func8, Try.ntmps8
  go_wp2_with (first
    | (go_at_call 13; ((with_reducible refine (CH.out).mono ?_); (rintro e w2 ⟨rfl, h2⟩); (have H2 := hid_of h2); (have HX2 := hid_of (HBW.out.trans (h2.mono HBW.out.size))); (obtain ⟨p0, p1, p2, p3, p4, p5⟩ := HC.out (w2.alloc (.cells #[.slice none 0 0] 44)) (h2.alloc h2.size _)); clear h2))
    | (go_at_call 21; ((with_reducible refine (WM.out w2 HX2.out).mono ?_); (rintro e w3 ⟨rfl, v3, h3, h4⟩); (have W3 := hid_of h3); (have H4 := hid_of h4); (have DT := hid_of (Wr.data_any w2.heap.size w2.heap.size v3 M w3 h3 (by have := HML.out; omega))); clear h3 h4))
    | (go_at_call 22; ((with_reducible refine (DT.out).mono ?_); (rintro e w4 ⟨rfl, h3, h4⟩); (have R4 := hid_of h3); (have H5 := hid_of h4); clear h3 h4)))
  go_ret
  have hx2 : Below w.heap.size w w2 := HBW.out.trans (H2.out.mono HBW.out.size)
  have hx3 : Below w.heap.size w w3 := hx2.trans (H4.out.mono hx2.size)
  exact ⟨_, rfl, R4.out, hx3.trans (H5.out.mono hx3.size), hx3.size⟩
end Go.Proofs.Ytcjnmgokddfidaa

/- The Reader at an offset or dead: every read as a function of this state. No condition but bounds on sizes. -/
namespace Go.Proofs.Ytcjnmgokddfidaa.Wr
open Go.RowKit

set_option maxHeartbeats 400000 in
theorem rcount_far (b g off last n k : Nat) (d : List Int) (w : World) (h : Rst w b g d off last 0) (hd : dec (d.drop off) = some (n, k)) (hn : ¬ off + k + n ≤ d.length) :
    Calls Try.prog 76 #[.pointer (some ⟨b, 0, none⟩)] w fun e w' => e = .returned (.int .i64 0) ∧ RTo w w' b g d off off 2 := by
  obtain ⟨hb0, hb1, hb2, hb3⟩ := h.dec_bound hd
  have hsm := h.small
  have c0 := h.c0
  have HC := hid_of (number_some b g off last n k d 0 w h hd)
  have H := hid_of h
  have hdd : decide ((n : Int) ≤ (d.length : Int) - ((off : Int) + (k : Int))) = false := by simp; omega
  clear hd h
  go_enter Try.func76, Try.ntmps76
  go_wp2_with (first
    | (go_at_call 74; refine HC.out.mono ?_; rintro e w1 ⟨rfl, m, rfl⟩)
    | (go_at_call 75; refine (settle_bad b g off last _ d _ (H.out.drewN _)).mono ?_; rintro e w2 ⟨rfl, h2⟩; have R := hid_of h2.ofDrewN; clear h2))
  go_ret
  exact ⟨rfl, R.out⟩
set_option maxHeartbeats 400000 in
theorem rcount_bad (b g off last : Nat) (d : List Int) (w : World) (h : Rst w b g d off last 0) (hd : dec (d.drop off) = none) :
    Calls Try.prog 76 #[.pointer (some ⟨b, 0, none⟩)] w fun e w' => e = .returned (.int .i64 0) ∧ RTo w w' b g d off off 2 := by
  have c0 := h.c0
  have HC := hid_of (number_none b g off last d 0 w h hd)
  have H := hid_of h
  clear hd h
  go_enter Try.func76, Try.ntmps76
  go_wp2_with (first
    | (go_at_call 74; refine HC.out.mono ?_; rintro e w1 ⟨rfl, m, rfl⟩)
    | (go_at_call 75; refine (settle_bad b g off last _ d _ (H.out.drewN _)).mono ?_; rintro e w2 ⟨rfl, h2⟩; have R := hid_of h2.ofDrewN; clear h2))
  go_ret
  exact ⟨rfl, R.out⟩

set_option maxHeartbeats 400000 in
theorem rcount_dead (b g off last : Nat) (d : List Int) (w : World) (h : Rst w b g d off last 2) :
    Calls Try.prog 76 #[.pointer (some ⟨b, 0, none⟩)] w fun e w' => e = .returned (.int .i64 0) ∧ RTo w w' b g d off last 2 := by
  have c0 := h.c0
  have hsm := h.small
  have H := hid_of h
  rcases hd : dec (d.drop off) with _ | ⟨n, k⟩
  · have HC := hid_of (number_none b g off last d 2 w h hd)
    clear hd h
    go_enter Try.func76, Try.ntmps76
    go_wp2_with (first
      | (go_at_call 74; refine HC.out.mono ?_; rintro e w1 ⟨rfl, m, rfl⟩)
      | (go_at_call 75; refine (settle_dead b g off last _ _ d _ (H.out.drewN _)).mono ?_; rintro e w2 ⟨rfl, h2⟩; have R := hid_of h2.ofDrewN; clear h2))
    go_ret
    exact ⟨rfl, R.out⟩
  · obtain ⟨hb0, hb1, hb2, hb3⟩ := h.dec_bound hd
    have HC := hid_of (number_some b g off last n k d 2 w h hd)
    clear hd h
    go_enter Try.func76, Try.ntmps76
    go_wp2_with (first
      | (go_at_call 74; refine HC.out.mono ?_; rintro e w1 ⟨rfl, m, rfl⟩)
      | (go_at_call 75; refine (settle_dead b g off last _ _ d _ (H.out.drewN _)).mono ?_; rintro e w2 ⟨rfl, h2⟩; have R := hid_of h2.ofDrewN; clear h2))
    go_ret
    exact ⟨rfl, R.out⟩
set_option maxHeartbeats 400000 in
theorem fail_ok (b g off last : Nat) (d : List Int) (w : World) (h : Rst w b g d off last 0) (hl : last ≤ d.length) :
    Calls Try.prog 51 #[.pointer (some ⟨b, 0, none⟩)] w fun e w' => e = .returned (.tuple #[]) ∧ RTo w w' b g d last last 2 := by
  have c1 := h.c1
  have c2 := h.c2
  have c3 := h.c3
  have f1 := h.free 1
  have f3 := h.free 3
  have hb := blk_setCell (k := 3) (u := .int .i64 2) (g := b) (cur := [.slice (some ⟨g, 0, none⟩) d.length d.length, .int .i64 off, .int .i64 last, .int .i64 0]) h.blk
  have c2' : (w.setCell ⟨b, 3, none⟩ (.int .i64 2)).cell? ⟨b, 2, none⟩ = some (.int .i64 last) := by rw [cell_of_row _ _ _ _ _ _ hb]; rfl
  have c1' : (w.setCell ⟨b, 3, none⟩ (.int .i64 2)).cell? ⟨b, 1, none⟩ = some (.int .i64 off) := by rw [cell_of_row _ _ _ _ _ _ hb]; rfl
  have f1' : (w.setCell ⟨b, 3, none⟩ (.int .i64 2)).frozen? ⟨b, 1, none⟩ = false := by simp [World.frozen?, hb]
  have R := hid_of (h.set2 (j1 := 3) (j2 := 1) (u1 := .int .i64 2) (u2 := .int .i64 last) (off' := last) (last' := last) (err' := 2) rfl hl)
  go_enter Try.func51, Try.ntmps51
  go_wp2
  go_end0
  exact ⟨rfl, R.out⟩
set_option maxHeartbeats 400000 in
theorem fail_dead (b g off last : Nat) (d : List Int) (w : World) (h : Rst w b g d off last 2) :
    Calls Try.prog 51 #[.pointer (some ⟨b, 0, none⟩)] w fun e w' => e = .returned (.tuple #[]) ∧ RTo w w' b g d off last 2 := by
  have c3 := h.c3
  have R := hid_of h
  go_enter Try.func51, Try.ntmps51
  go_wp2
  exact bodyPost_ret (results_none rfl _ _ _) rfl ⟨rfl, R.out, Kept.refl _ _, rfl⟩

/-- The Reader in block b: at an offset, or dead. -/
def RS (w : World) (b g : Nat) (d : List Int) : Option Nat → Prop
  | some off => ∃ last, last ≤ d.length ∧ Rst w b g d off last 0
  | none => ∃ off last, Rst w b g d off last 2
/-- A step of the Reader. -/
def RT (w w' : World) (b g : Nat) (d : List Int) (s : Option Nat) : Prop := RS w' b g d s ∧ Kept (fun k => k = b) w w' ∧ w'.heap.size = w.heap.size
theorem rt_some {w w' : World} {b g off last : Nat} {d : List Int} (h : RTo w w' b g d off last 0) (hl : last ≤ d.length) : RT w w' b g d (some off) := ⟨⟨last, hl, h.1⟩, h.2⟩
theorem rt_none {w w' : World} {b g off last : Nat} {d : List Int} (h : RTo w w' b g d off last 2) : RT w w' b g d none := ⟨⟨off, last, h.1⟩, h.2⟩
def uR (d : List Int) : Option Nat → Nat × Option Nat
  | none => (0, none)
  | some off => match dec (d.drop off) with
    | some (n, k) => (n, some (off + k))
    | none => (0, none)
def iR (d : List Int) (s : Option Nat) : Int × Option Nat := (unzig (uR d s).1, (uR d s).2)
def tR (d : List Int) : Option Nat → List Int × Option Nat
  | none => ([], none)
  | some off => match decRun (d.drop off) with
    | some (k, n) => ((d.drop (off + k)).take n, some (off + k + n))
    | none => ([], none)
def cR (d : List Int) : Option Nat → Nat × Option Nat
  | none => (0, none)
  | some off => match dec (d.drop off) with
    | some (n, k) => if off + k + n ≤ d.length then (n, some (off + k)) else (0, none)
    | none => (0, none)
def eR (d : List Int) : Option Nat → Int
  | none => 2
  | some off => if off = d.length then 0 else 2
theorem uR_any (b g : Nat) (d : List Int) (s : Option Nat) (w : World) (h : RS w b g d s) :
    Calls Try.prog 50 #[.pointer (some ⟨b, 0, none⟩)] w fun e w' => e = .returned (.int .u64 (uR d s).1) ∧ RT w w' b g d (uR d s).2 := by
  cases s with
  | none =>
    obtain ⟨off, last, h⟩ := h
    exact (ruint_dead b g off last d w h).mono fun e w' ⟨he, h1⟩ => ⟨he, rt_none h1⟩
  | some off =>
    obtain ⟨last, hl, h⟩ := h
    cases hd : dec (d.drop off) with
    | none =>
      have e1 : uR d (some off) = (0, none) := by simp only [uR, hd]
      rw [e1]
      exact (ruint_bad b g off last d w h hd).mono fun e w' ⟨he, h1⟩ => ⟨he, rt_none h1⟩
    | some x =>
      obtain ⟨n, k⟩ := x
      have e1 : uR d (some off) = (n, some (off + k)) := by simp only [uR, hd]
      rw [e1]
      exact (ruint_ok b g off last n k d w h hd).mono fun e w' ⟨he, h1⟩ => ⟨he, rt_some h1 h.le⟩
theorem iR_any (b g : Nat) (d : List Int) (s : Option Nat) (w : World) (h : RS w b g d s) :
    Calls Try.prog 52 #[.pointer (some ⟨b, 0, none⟩)] w fun e w' => e = .returned (.int .i64 (iR d s).1) ∧ RT w w' b g d (iR d s).2 := by
  cases s with
  | none =>
    obtain ⟨off, last, h⟩ := h
    exact (rint_dead b g off last d w h).mono fun e w' ⟨he, h1⟩ => ⟨by rw [he, show (iR d none).1 = 0 by simp [iR, uR, unzig]], rt_none h1⟩
  | some off =>
    obtain ⟨last, hl, h⟩ := h
    cases hd : dec (d.drop off) with
    | none =>
      have e1 : iR d (some off) = (0, none) := by simp only [iR, uR, hd]; rfl
      rw [e1]
      exact (rint_bad b g off last d w h hd).mono fun e w' ⟨he, h1⟩ => ⟨he, rt_none h1⟩
    | some x =>
      obtain ⟨n, k⟩ := x
      have e1 : iR d (some off) = (unzig n, some (off + k)) := by simp only [iR, uR, hd]
      rw [e1]
      exact (rint_ok b g off last n k d w h hd).mono fun e w' ⟨he, h1⟩ => ⟨he, rt_some h1 h.le⟩
theorem tR_any (b g : Nat) (d : List Int) (s : Option Nat) (w : World) (h : RS w b g d s) :
    Calls Try.prog 55 #[.pointer (some ⟨b, 0, none⟩)] w fun e w' => e = .returned (.string (strOfNums (tR d s).1)) ∧ RT w w' b g d (tR d s).2 := by
  cases s with
  | none =>
    obtain ⟨off, last, h⟩ := h
    exact (rtext_dead b g off last d w h).mono fun e w' ⟨he, h1⟩ => ⟨he, rt_none h1⟩
  | some off =>
    obtain ⟨last, hl, h⟩ := h
    cases hd : decRun (d.drop off) with
    | none =>
      have e1 : tR d (some off) = ([], none) := by simp only [tR, hd]
      rw [e1]
      exact (rtext_bad b g off last d w h hd).mono fun e w' ⟨he, h1⟩ => ⟨he, rt_none h1⟩
    | some x =>
      obtain ⟨k, n⟩ := x
      have e1 : tR d (some off) = ((d.drop (off + k)).take n, some (off + k + n)) := by simp only [tR, hd]
      rw [e1]
      exact (rtext_ok b g off last k n d w h hd).mono fun e w' ⟨he, h1⟩ => ⟨he, rt_some h1 h.le⟩
theorem cR_any (b g : Nat) (d : List Int) (s : Option Nat) (w : World) (h : RS w b g d s) :
    Calls Try.prog 76 #[.pointer (some ⟨b, 0, none⟩)] w fun e w' => e = .returned (.int .i64 (cR d s).1) ∧ RT w w' b g d (cR d s).2 := by
  cases s with
  | none =>
    obtain ⟨off, last, h⟩ := h
    exact (rcount_dead b g off last d w h).mono fun e w' ⟨he, h1⟩ => ⟨he, rt_none h1⟩
  | some off =>
    obtain ⟨last, hl, h⟩ := h
    cases hd : dec (d.drop off) with
    | none =>
      have e1 : cR d (some off) = (0, none) := by simp only [cR, hd]
      rw [e1]
      exact (rcount_bad b g off last d w h hd).mono fun e w' ⟨he, h1⟩ => ⟨he, rt_none h1⟩
    | some x =>
      obtain ⟨n, k⟩ := x
      by_cases hn : off + k + n ≤ d.length
      · have e1 : cR d (some off) = (n, some (off + k)) := by simp only [cR, hd, if_pos hn]
        rw [e1]
        exact (rcount_ok b g off last n k d w h hd hn).mono fun e w' ⟨he, h1⟩ => ⟨he, rt_some h1 h.le⟩
      · have e1 : cR d (some off) = (0, none) := by simp only [cR, hd, if_neg hn]
        rw [e1]
        exact (rcount_far b g off last n k d w h hd hn).mono fun e w' ⟨he, h1⟩ => ⟨he, rt_none h1⟩
theorem fR_any (b g : Nat) (d : List Int) (s : Option Nat) (w : World) (h : RS w b g d s) :
    Calls Try.prog 51 #[.pointer (some ⟨b, 0, none⟩)] w fun e w' => e = .returned (.tuple #[]) ∧ RT w w' b g d none := by
  cases s with
  | none =>
    obtain ⟨off, last, h⟩ := h
    exact (fail_dead b g off last d w h).mono fun e w' ⟨he, h1⟩ => ⟨he, rt_none h1⟩
  | some off =>
    obtain ⟨last, hl, h⟩ := h
    exact (fail_ok b g off last d w h hl).mono fun e w' ⟨he, h1⟩ => ⟨he, rt_none h1⟩
theorem uR_lt {w : World} {b g : Nat} {d : List Int} {s : Option Nat} (h : RS w b g d s) : (uR d s).1 < 18446744073709551616 := by
  cases s with
  | none => show 0 < _; omega
  | some off =>
    obtain ⟨last, hl, h⟩ := h
    cases hd : dec (d.drop off) with
    | none => simp only [uR, hd]; omega
    | some x => simp only [uR, hd]; exact (h.dec_bound hd).2.2.2
theorem eR_any (b g : Nat) (d : List Int) (s : Option Nat) (w : World) (h : RS w b g d s) :
    Calls Try.prog 25 #[.pointer (some ⟨b, 0, none⟩)] w fun e w' => e = .returned (.int .i64 (eR d s)) ∧ Drew w w' := by
  cases s with
  | none =>
    obtain ⟨off, last, h⟩ := h
    exact end_bad b g off last d 2 w h (.inl rfl)
  | some off =>
    obtain ⟨last, hl, h⟩ := h
    by_cases ho : off = d.length
    · have e1 : eR d (some off) = 0 := if_pos ho
      rw [e1]
      exact end_ok b g off last d w h ho
    · have e1 : eR d (some off) = 2 := if_neg ho
      rw [e1]
      exact end_bad b g off last d 0 w h (.inr ⟨rfl, ho⟩)
end Go.Proofs.Ytcjnmgokddfidaa.Wr

/- The Reader during a call, at an offset or dead; what read and its helpers read, as functions; readCount, readNames. Bounds on sizes alone. Parallel to LatRk (never imported together). -/
namespace Go.Proofs.Ytcjnmgokddfidaa
open Go.RowKit

/-! What is read, as functions of the bytes and the Reader's state. -/
def rcF (d : List Int) (m : Nat) (s : Option Nat) : Nat × Option Nat := if m < (Wr.cR d s).1 then (0, none) else Wr.cR d s
def tN (d : List Int) (s0 : Option Nat) : Nat → List Str × Option Nat
  | 0 => ([], s0)
  | j + 1 => ((tN d s0 j).1 ++ [strU (Wr.tR d (tN d s0 j).2).1], (Wr.tR d (tN d s0 j).2).2)
def nF (d : List Int) (s : Option Nat) : List Str × Option Nat := tN d (rcF d 32 s).2 (rcF d 32 s).1
def pN (f : Option Nat → Lat × Option Nat) (d : List Int) (s0 : Option Nat) : Nat → (List Str × List Lat) × Option Nat
  | 0 => (([], []), s0)
  | j + 1 => (((pN f d s0 j).1.1 ++ [strU (Wr.tR d (pN f d s0 j).2).1], (pN f d s0 j).1.2 ++ [(f (Wr.tR d (pN f d s0 j).2).2).1]), (f (Wr.tR d (pN f d s0 j).2).2).2)
def gN (d : List Int) (s0 : Option Nat) : Nat → List Gr × Option Nat
  | 0 => ([], s0)
  | j + 1 => ((gN d s0 j).1 ++ [((nF d (gN d s0 j).2).1, strU (Wr.tR d (nF d (gN d s0 j).2).2).1)], (Wr.tR d (nF d (gN d s0 j).2).2).2)
def rdF (d : List Int) : Nat → Option Nat → Lat × Option Nat
  | 0, _ => (⟨0, 0, 0, [], [], []⟩, none)
  | n + 1, s =>
    if 10 < (Wr.uR d s).1 then (⟨0, 0, 0, [], [], []⟩, none)
    else if (Wr.uR d s).1 = 2 ∨ (Wr.uR d s).1 = 3 then (⟨(Wr.uR d s).1, (Wr.iR d (Wr.uR d s).2).1, (Wr.iR d (Wr.iR d (Wr.uR d s).2).2).1, [], [], []⟩, (Wr.iR d (Wr.iR d (Wr.uR d s).2).2).2)
    else if (Wr.uR d s).1 = 4 ∨ (Wr.uR d s).1 = 8 then (⟨(Wr.uR d s).1, 0, 0, (nF d (Wr.uR d s).2).1, [], []⟩, (nF d (Wr.uR d s).2).2)
    else if (Wr.uR d s).1 = 5 then (⟨5, 0, 0, (nF d (Wr.uR d s).2).1, [(rdF d n (nF d (Wr.uR d s).2).2).1], []⟩, (rdF d n (nF d (Wr.uR d s).2).2).2)
    else if (Wr.uR d s).1 = 6 then (⟨6, 0, 0, (pN (rdF d n) d (rcF d 8 (Wr.uR d s).2).2 (rcF d 8 (Wr.uR d s).2).1).1.1, (pN (rdF d n) d (rcF d 8 (Wr.uR d s).2).2 (rcF d 8 (Wr.uR d s).2).1).1.2, []⟩, (pN (rdF d n) d (rcF d 8 (Wr.uR d s).2).2 (rcF d 8 (Wr.uR d s).2).1).2)
    else if (Wr.uR d s).1 = 7 then (⟨7, 0, 0, [], [(rdF d n (Wr.uR d s).2).1, (rdF d n (rdF d n (Wr.uR d s).2).2).1], []⟩, (rdF d n (rdF d n (Wr.uR d s).2).2).2)
    else if (Wr.uR d s).1 = 10 then (⟨10, 0, 0, (nF d (Wr.uR d s).2).1, [], (gN d (rcF d 32 (nF d (Wr.uR d s).2).2).2 (rcF d 32 (nF d (Wr.uR d s).2).2).1).1⟩, (gN d (rcF d 32 (nF d (Wr.uR d s).2).2).2 (rcF d 32 (nF d (Wr.uR d s).2).2).1).2)
    else (⟨(Wr.uR d s).1, 0, 0, [], [], []⟩, (Wr.uR d s).2)
theorem tN_len (d : List Int) (s0 : Option Nat) : ∀ j, (tN d s0 j).1.length = j
  | 0 => rfl
  | j + 1 => by rw [tN, List.length_append, tN_len d s0 j]; rfl
theorem pN_len (f : Option Nat → Lat × Option Nat) (d : List Int) (s0 : Option Nat) : ∀ j, (pN f d s0 j).1.1.length = j ∧ (pN f d s0 j).1.2.length = j
  | 0 => ⟨rfl, rfl⟩
  | j + 1 => by
    obtain ⟨h1, h2⟩ := pN_len f d s0 j
    rw [pN]
    simp only [List.length_append, h1, h2, List.length_singleton]
    exact ⟨trivial, trivial⟩
theorem gN_len (d : List Int) (s0 : Option Nat) : ∀ j, (gN d s0 j).1.length = j
  | 0 => rfl
  | j + 1 => by rw [gN, List.length_append, gN_len d s0 j]; rfl
theorem rcF_le (d : List Int) (m : Nat) (s : Option Nat) : (rcF d m s).1 ≤ m := by
  unfold rcF
  split
  · exact Nat.zero_le _
  · omega

theorem rs_same {w w' : World} {b g : Nat} {d : List Int} {s : Option Nat} (h : Wr.RS w b g d s) (h1 : w'.heap[b]? = w.heap[b]?) (h2 : w'.heap[g]? = w.heap[g]?) : Wr.RS w' b g d s := by
  cases s with
  | none => obtain ⟨off, last, h⟩ := h; exact ⟨off, last, h.same h1 h2⟩
  | some off => obtain ⟨last, hl, h⟩ := h; exact ⟨last, hl, h.same h1 h2⟩
theorem rs_lt {w : World} {b g : Nat} {d : List Int} {s : Option Nat} (h : Wr.RS w b g d s) : b < w.heap.size ∧ g < w.heap.size ∧ d.length ≤ 140737488351232 := by
  cases s with
  | none => obtain ⟨off, last, h⟩ := h; exact ⟨h.blt, h.glt, h.small⟩
  | some off => obtain ⟨last, hl, h⟩ := h; exact ⟨h.blt, h.glt, h.small⟩
/-- The Reader stands in the state s; from w to w' it alone has turned. -/
structure RG (b g : Nat) (d : List Int) (w w' : World) (s : Option Nat) : Prop where
  st : Wr.RS w' b g d s
  kept : Wr.Kept (fun k => k = b) w w'
section
variable {b g : Nat} {d : List Int} {w w1 w2 : World} {off off' : Option Nat}
theorem RG.start (h : Wr.RS w b g d off) : RG b g d w w off := ⟨h, Wr.Kept.refl _ _⟩
theorem RG.size (h : RG b g d w w1 off) : w.heap.size ≤ w1.heap.size := h.kept.size
theorem RG.trans (h : RG b g d w w1 off) (k : RG b g d w1 w2 off') : RG b g d w w2 off' :=
  ⟨k.st, ⟨k.kept.os.trans h.kept.os, k.kept.tape.trans h.kept.tape, k.kept.output.trans h.kept.output, Nat.le_trans h.kept.size k.kept.size, fun x hx hn => (k.kept.block x (Nat.lt_of_lt_of_le hx h.kept.size) hn).trans (h.kept.block x hx hn)⟩⟩
theorem RG.blt (h : RG b g d w w1 off) : b < w1.heap.size := (rs_lt h.st).1
theorem RG.glt (h : RG b g d w w1 off) : g < w1.heap.size := (rs_lt h.st).2.1
/-- Anything new or changed from B on leaves the Reader alone. -/
theorem RG.bel {B : Nat} (h : RG b g d w w1 off) (hb : Below B w1 w2) (h1 : b < B) (h2 : g < B) (h3 : w.heap.size ≤ B) : RG b g d w w2 off := by
  obtain ⟨s, k⟩ := h
  exact ⟨rs_same s (hb.block b h1) (hb.block g h2), ⟨hb.os.trans k.os, hb.tape.trans k.tape, hb.output.trans k.output, Nat.le_trans k.size hb.size, fun x hx hn => (hb.block x (by omega)).trans (k.block x hx hn)⟩⟩
theorem RG.alloc (h : RG b g d w w1 off) (o : Obj) : RG b g d w (w1.alloc o) off := h.bel (bel_alloc w1 o) h.blt h.glt h.size
theorem RG.of_alloc {o : Obj} (h : RG b g d (w.alloc o) w1 off) : RG b g d w w1 off := ⟨h.st, h.kept.of_alloc⟩
theorem RG.blk (h : RG b g d w w1 off) {k : Nat} (hk : k < w.heap.size) (hn : k ≠ b) : w1.heap[k]? = w.heap[k]? := h.kept.block k hk hn
theorem rg_of {s : Option Nat} (h : Wr.RT w w1 b g d s) : RG b g d w w1 s := ⟨h.1, h.2.1⟩
theorem uint_rg (h : RG b g d w w1 off) : Calls Try.prog 50 #[.pointer (some ⟨b, 0, none⟩)] w1 fun e w' => (e = .returned (.int .u64 (Wr.uR d off).1) ∧ w'.heap.size = w1.heap.size) ∧ RG b g d w1 w' (Wr.uR d off).2 :=
  (Wr.uR_any b g d off w1 h.st).mono fun e w' ⟨q1, q2⟩ => ⟨⟨q1, q2.2.2⟩, rg_of q2⟩
theorem int_rg (h : RG b g d w w1 off) : Calls Try.prog 52 #[.pointer (some ⟨b, 0, none⟩)] w1 fun e w' => (e = .returned (.int .i64 (Wr.iR d off).1) ∧ w'.heap.size = w1.heap.size) ∧ RG b g d w1 w' (Wr.iR d off).2 :=
  (Wr.iR_any b g d off w1 h.st).mono fun e w' ⟨q1, q2⟩ => ⟨⟨q1, q2.2.2⟩, rg_of q2⟩
theorem text_rg (h : RG b g d w w1 off) : Calls Try.prog 55 #[.pointer (some ⟨b, 0, none⟩)] w1 fun e w' => (e = .returned (.string (ba (strU (Wr.tR d off).1))) ∧ w'.heap.size = w1.heap.size) ∧ RG b g d w1 w' (Wr.tR d off).2 :=
  (Wr.tR_any b g d off w1 h.st).mono fun e w' ⟨q1, q2⟩ => ⟨⟨q1, q2.2.2⟩, rg_of q2⟩
theorem count_rg (h : RG b g d w w1 off) : Calls Try.prog 76 #[.pointer (some ⟨b, 0, none⟩)] w1 fun e w' => (e = .returned (.int .i64 (Wr.cR d off).1) ∧ w'.heap.size = w1.heap.size) ∧ RG b g d w1 w' (Wr.cR d off).2 :=
  (Wr.cR_any b g d off w1 h.st).mono fun e w' ⟨q1, q2⟩ => ⟨⟨q1, q2.2.2⟩, rg_of q2⟩
theorem fail_rg (h : RG b g d w w1 off) : Calls Try.prog 51 #[.pointer (some ⟨b, 0, none⟩)] w1 fun e w' => (e = .returned (.tuple #[]) ∧ w'.heap.size = w1.heap.size) ∧ RG b g d w1 w' none :=
  (Wr.fR_any b g d off w1 h.st).mono fun e w' ⟨q1, q2⟩ => ⟨⟨q1, q2.2.2⟩, rg_of q2⟩
theorem cR_le (d : List Int) (s : Option Nat) : (Wr.cR d s).1 ≤ d.length := by
  unfold Wr.cR
  split
  · simp
  · split
    · split
      · simp only; omega
      · simp
    · simp
set_option maxHeartbeats 1600000 in
theorem rc_rg (m : Nat) (h : RG b g d w w1 off) (hm : m ≤ 1000) :
    Calls Try.prog 54 #[.pointer (some ⟨b, 0, none⟩), .int .i64 m] w1 fun e w' => (e = .returned (.int .i64 (rcF d m off).1) ∧ w'.heap.size = w1.heap.size) ∧ RG b g d w1 w' (rcF d m off).2 := by
  have C0 := hid_of (count_rg h)
  have hcl := cR_le d off
  have hsm := (rs_lt h.st).2.2
  obtain ⟨c, hc⟩ : ∃ c, c = (Wr.cR d off).1 := ⟨_, rfl⟩
  obtain ⟨t, ht⟩ : ∃ t, t = (Wr.cR d off).2 := ⟨_, rfl⟩
  rw [← hc, ← ht] at C0
  rw [← hc] at hcl
  have HF : Hid (rcF d m off = if m < c then (0, none) else (c, t)) := hid_of (by rw [rcF, ← hc]; split; rfl; rw [hc, ht])
  clear hc ht h
  by_cases hlt : m < c
  · have hdd : decide (m < c) = true := by simp; omega
    have hde : decide ((c : Int) > (m : Int)) = true := by simp; omega
    have HF2 : Hid (rcF d m off = (0, none)) := hid_of (by rw [HF.out, if_pos hlt])
    have CF : Hid (∀ w2, RG b g d w1 w2 t → _) := hid_of (fun w2 k => fail_rg k)
    clear hlt
    go_enter Try.func54, Try.ntmps54
    go_wp2_with (first
      | (go_at_call 76; ((with_reducible refine (C0.out).mono ?_); (rintro e w2 ⟨⟨rfl, q1⟩, q2⟩)); have K2 := hid_of q2; have S2 := hid_of q1; clear q1 q2)
      | (go_at_call 51; ((with_reducible refine (CF.out w2 K2.out).mono ?_); (rintro e w3 ⟨⟨rfl, q1⟩, q2⟩)); have K3 := hid_of q2; have S3 := hid_of q1; clear q1 q2))
    go_ret
    exact ⟨⟨by rw [HF2.out]; rfl, S3.out.trans S2.out⟩, by rw [HF2.out]; exact K2.out.trans K3.out⟩
  · have hdd : decide (m < c) = false := by simp; omega
    have hde : decide ((c : Int) > (m : Int)) = false := by simp; omega
    have HF2 : Hid (rcF d m off = (c, t)) := hid_of (by rw [HF.out, if_neg hlt])
    clear hlt
    go_enter Try.func54, Try.ntmps54
    go_wp2_with (go_at_call 76; ((with_reducible refine (C0.out).mono ?_); (rintro e w2 ⟨⟨rfl, q1⟩, q2⟩)); have K2 := hid_of q2; have S2 := hid_of q1; clear q1 q2)
    go_ret
    exact ⟨⟨by rw [HF2.out]; rfl, S2.out⟩, by rw [HF2.out]; exact K2.out⟩
end
/-- The row of a slice lies in a block of S. -/
def In (S : Nat → Prop) (v : Value) : Prop := ∀ (a : Addr) (n c : Nat), v = .slice (some a) n c → S a.block
/-- What readNames gives: a row of strings of the call's own. -/
def NaP (b g : Nat) (d : List Int) (ns : List Str) (s : Option Nat) (w : World) (e : Ending) (w' : World) : Prop := ∃ (xo : Option Addr) (xc : Nat), e = .returned (.slice xo ns.length xc) ∧ Rd w' (.slice xo ns.length xc) (ss ns) ∧ In (fun k => w.heap.size ≤ k ∧ k < w'.heap.size) (.slice xo ns.length xc) ∧ RG b g d w w' s
set_option maxRecDepth 100000 in
set_option maxHeartbeats 3200000 in
theorem rn_any (b g : Nat) (d : List Int) (s : Option Nat) (w : World) (h : Wr.RS w b g d s) :
    Calls Try.prog 53 #[.pointer (some ⟨b, 0, none⟩)] w (NaP b g d (nF d s).1 (nF d s).2 w) := by
  have HBG : Hid (b < w.heap.size ∧ g < w.heap.size) := hid_of ⟨(rs_lt h).1, (rs_lt h).2.1⟩
  have C0 : Hid (Calls Try.prog 54 #[.pointer (some ⟨b, 0, none⟩), .int .i64 32] w fun e w' => (e = .returned (.int .i64 (rcF d 32 s).1) ∧ w'.heap.size = w.heap.size) ∧ RG b g d w w' (rcF d 32 s).2) := hid_of (rc_rg 32 (RG.start h) (by omega))
  have hn2 := rcF_le d 32 s
  obtain ⟨n, hn⟩ : ∃ n, n = (rcF d 32 s).1 := ⟨_, rfl⟩
  obtain ⟨t, ht⟩ : ∃ t, t = (rcF d 32 s).2 := ⟨_, rfl⟩
  rw [← hn, ← ht] at C0
  rw [← hn] at hn2
  have HF : Hid (nF d s = tN d t n) := hid_of (by rw [nF, ← hn, ← ht])
  clear h hn ht
  go_enter Try.func53, Try.ntmps53
  go_wp2_with (go_at_call 54; ((with_reducible refine (C0.out).mono ?_); (rintro e w1 ⟨⟨rfl, q1⟩, q2⟩)); have K1 := hid_of q2; have S1 := hid_of q1; clear q1 q2)
  go_loopw [3, 6] (fun sv iv wr => ∃ (j : Nat) (xo : Option Addr) (xc : Nat), sv = .slice xo j xc ∧ j ≤ n ∧ iv = .int .i64 j ∧ Hid (RG b g d w wr (tN d t j).2) ∧ Hid (wr.ownsRow w.heap.size 9 1 (.slice xo j xc) j (ss (tN d t j).1))) (fun _ iv _ => n - (intOf iv).toNat)
  case atStart => exact ⟨0, none, 0, rfl, Nat.zero_le _, rfl, hid_of K1.out, hid_of (World.ownsRow_nil _ _ _ _)⟩
  case round =>
    obtain ⟨j, xo, xc, rfl, hj, rfl, hk, ho⟩ := hrel
    by_cases hlt : j < n
    · have hdd : decide (j < n) = true := by simp; omega
      have CT := hid_of (text_rg hk.out)
      have HLL : Hid ((ss (tN d t j).1).length = j) := hid_of (by rw [ss_length, tN_len])
      have HOW : Hid (∀ w2 s2, RG b g d wr w2 s2 → Ow 9 w.heap.size w2 w2 (.slice xo j xc) (ss (tN d t j).1)) := hid_of (fun w2 s2 q => ⟨Nat.le_trans hk.out.size q.size, Below.refl _ _, by rw [HLL.out]; exact own_same ho.out fun k hk2 => q.blk ((ho.out.lt k hk2).2) (by have := (ho.out.lt k hk2).1; have := HBG.out; omega)⟩)
      obtain ⟨bx, hbx⟩ : ∃ bx, bx = ba (strU (Wr.tR d (tN d t j).2).1) := ⟨_, rfl⟩
      rw [← hbx] at CT
      have HBX := hid_of hbx
      have HNX : Hid (tN d t (j + 1) = ((tN d t j).1 ++ [strU (Wr.tR d (tN d t j).2).1], (Wr.tR d (tN d t j).2).2)) := hid_of rfl
      clear hbx
      go_wp2_with (first
        | (go_at_call 55; ((with_reducible refine (CT.out).mono ?_); (rintro e w2 ⟨⟨rfl, q1⟩, q2⟩)); have K2 := hid_of q2; clear q1 q2; have O2 := hid_of (HOW.out w2 _ K2.out))
        | (at_builtin; (refine wpList_app strsE rfl (.tmp 8) (.tmp 11) rfl (v := .slice xo j xc) (l := ss (tN d t j).1) rfl (O2.out.alloc _) (vx := .slice (some ⟨w2.heap.size, 0, none⟩) 1 1) (m := [.string bx]) rfl (rd_new rfl rfl (by simp)) (by intro u hu; rw [List.mem_singleton.1 hu]; rfl) (by rw [HLL.out]; simp only [List.length_singleton]; omega) (by rw [HLL.out]; simp only [List.length_singleton]; omega) ?_); intro ao2 n2 cap2 w4 e1 h5; have HN2 : Hid (n2 = j + 1) := hid_of (by rw [HLL.out] at e1; simpa using e1); have HO2 := hid_of h5; clear e1 h5))
      go_roundw
      case rel => exact ⟨j + 1, ao2, cap2, by rw [HN2.out], by omega, by go_num, hid_of (by
          rw [HNX.out]
          exact (hk.out.trans K2.out).bel HO2.out.bel HBG.out.1 HBG.out.2 (Nat.le_refl _)), hid_of (by
          have h5 := HO2.out.own
          rw [HBX.out] at h5
          rw [HNX.out, ss_append]
          simp only [List.length_append, List.length_singleton, HLL.out, HN2.out] at h5
          exact h5)⟩
      case measure => simp [intOf]; omega
    · have hdd : decide (j < n) = false := by simp; omega
      obtain rfl : n = j := by omega
      have HL : Hid ((nF d s).1.length = n) := hid_of (by rw [HF.out, tN_len])
      have HR : Hid (RG b g d w wr (nF d s).2 ∧ Rd wr (.slice xo n xc) (ss (nF d s).1) ∧ In (fun k => w.heap.size ≤ k ∧ k < wr.heap.size) (.slice xo n xc)) := hid_of (by
        have h1 := hk.out
        have h2 := ho.out
        rw [← HF.out] at h1 h2
        have hl : (ss (nF d s).1).length = n := by rw [ss_length, HL.out]
        exact ⟨h1, (show Ow 9 w.heap.size wr wr (.slice xo n xc) (ss (nF d s).1) from ⟨h1.size, Below.refl _ _, by rw [hl]; exact h2⟩).rd (by rw [hl]; omega), fun a n c e => by cases e; exact h2.lt a.block rfl⟩)
      go_wp2
      go_ret
      exact ⟨xo, xc, by rw [HL.out]; rfl, by rw [HL.out]; exact HR.out.2.1, by rw [HL.out]; exact HR.out.2.2, HR.out.1⟩
end Go.Proofs.Ytcjnmgokddfidaa

/- Descriptions whose rows lie in given blocks; the boxes of read, whatever is read. Bounds on sizes alone. Parallel to LatLs (never imported together). -/
namespace Go.Proofs.Ytcjnmgokddfidaa
open Go.RowKit

theorem In.mono {S T : Nat → Prop} {v : Value} (h : In S v) (hs : ∀ k, S k → T k) : In T v := fun a n c e => hs _ (h a n c e)
theorem in_nil (S : Nat → Prop) : In S (.slice none 0 0) := fun a n c e => by cases e
theorem Rd.keepS {S : Nat → Prop} {w w' : World} {v : Value} {l : List Value} (h : Rd w v l) (hB : In S v) (hs : w.heap.size ≤ w'.heap.size) (hk : ∀ k, S k → k < w.heap.size → w'.heap[k]? = w.heap[k]?) : Rd w' v l := by
  obtain ⟨ao, cap, e, h2, h3, h4⟩ := h
  refine ⟨ao, cap, e, h2, h3, fun h0 => ?_⟩
  obtain ⟨g, o, rfl, hg, hc⟩ := h4 h0
  have hb := hk g (hB _ _ _ e) hg
  exact ⟨g, o, rfl, by omega, fun i t ht => (World.cell?_of_block (w := w) hb).trans (hc i t ht)⟩
theorem PRd.keepS {S : Nat → Prop} {w w' : World} {v : Value} {l : List PV} (h : PRd w v l) (hB : In S v) (hs : w.heap.size ≤ w'.heap.size) (hk : ∀ k, S k → k < w.heap.size → w'.heap[k]? = w.heap[k]?) : PRd w' v l := by
  obtain ⟨ao, cap, e, h2, h3, h4⟩ := h
  refine ⟨ao, cap, e, h2, h3, fun h0 => ?_⟩
  obtain ⟨g, o, rfl, hg, hc⟩ := h4 h0
  have hb := hk g (hB _ _ _ e) hg
  refine ⟨g, o, rfl, by omega, fun i t ht => ?_⟩
  obtain ⟨c0, c1⟩ := hc i t ht
  exact ⟨(World.cell?_of_block (w := w) hb).trans c0, (World.cell?_of_block (w := w) hb).trans c1⟩
theorem SxRd.keepS {S : Nat → Prop} {w w' : World} {v : Value} {l : List SxV} (h : SxRd w v l) (hB : In S v) (hs : w.heap.size ≤ w'.heap.size) (hk : ∀ k, S k → k < w.heap.size → w'.heap[k]? = w.heap[k]?) : SxRd w' v l := by
  obtain ⟨ao, cap, e, h2, h3, h4⟩ := h
  refine ⟨ao, cap, e, h2, h3, fun h0 => ?_⟩
  obtain ⟨g, o, rfl, hg, hc⟩ := h4 h0
  have hb := hk g (hB _ _ _ e) hg
  refine ⟨g, o, rfl, by omega, fun i t ht => ?_⟩
  obtain ⟨c0, c1, c2, c3, c4, c5⟩ := hc i t ht
  exact ⟨(World.cell?_of_block (w := w) hb).trans c0, (World.cell?_of_block (w := w) hb).trans c1, (World.cell?_of_block (w := w) hb).trans c2, (World.cell?_of_block (w := w) hb).trans c3, (World.cell?_of_block (w := w) hb).trans c4, (World.cell?_of_block (w := w) hb).trans c5⟩
/-- Names in a row of S. -/
def NS (S : Nat → Prop) (w : World) (v : Value) (ns : List Str) : Prop := Rd w v (ss ns) ∧ In S v
def Keeps (S : Nat → Prop) (w w' : World) : Prop := w.heap.size ≤ w'.heap.size ∧ ∀ k, S k → k < w.heap.size → w'.heap[k]? = w.heap[k]?
theorem NS.keep {S : Nat → Prop} {w w' : World} {v : Value} {ns : List Str} (h : NS S w v ns) (k : Keeps S w w') : NS S w' v ns := ⟨h.1.keepS h.2 k.1 k.2, h.2⟩
theorem NS.mono {S T : Nat → Prop} {w : World} {v : Value} {ns : List Str} (h : NS S w v ns) (hs : ∀ k, S k → T k) : NS T w v ns := ⟨h.1, h.2.mono hs⟩
theorem ns_nil (S : Nat → Prop) (w : World) : NS S w (.slice none 0 0) [] := ⟨⟨none, 0, rfl, Nat.le_refl _, by omega, fun h => by simp [ss] at h⟩, in_nil S⟩
/-- Rules in rows of S. -/
def RuS (S : Nat → Prop) (w : World) (v : Value) (rs : List Gr) : Prop := ∃ l : List PV, PRd w v l ∧ In S v ∧ l.length = rs.length ∧ ∀ (i : Nat) (t : PV) (r : Gr), l[i]? = some t → rs[i]? = some r → NS S w t.1 r.1 ∧ t.2 = .string (ba r.2)
theorem RuS.keep {S : Nat → Prop} {w w' : World} {v : Value} {rs : List Gr} (h : RuS S w v rs) (k : Keeps S w w') : RuS S w' v rs := by
  obtain ⟨l, h1, h2, h3, h4⟩ := h
  exact ⟨l, h1.keepS h2 k.1 k.2, h2, h3, fun i t r ht hr => ⟨(h4 i t r ht hr).1.keep k, (h4 i t r ht hr).2⟩⟩
theorem RuS.mono {S T : Nat → Prop} {w : World} {v : Value} {rs : List Gr} (h : RuS S w v rs) (hs : ∀ k, S k → T k) : RuS T w v rs := by
  obtain ⟨l, h1, h2, h3, h4⟩ := h
  exact ⟨l, h1, h2.mono hs, h3, fun i t r ht hr => ⟨(h4 i t r ht hr).1.mono hs, (h4 i t r ht hr).2⟩⟩
theorem RuS.ru {S : Nat → Prop} {w : World} {v : Value} {rs : List Gr} (h : RuS S w v rs) : RuR w v rs := by
  obtain ⟨l, h1, h2, h3, h4⟩ := h
  exact ⟨l, h1, h3, fun i t r ht hr => ⟨(h4 i t r ht hr).1.1, (h4 i t r ht hr).2⟩⟩
theorem rus_nil (S : Nat → Prop) (w : World) : RuS S w (.slice none 0 0) [] := ⟨[], ⟨none, 0, rfl, Nat.le_refl _, by omega, fun h => by simp at h⟩, in_nil S, rfl, fun i t r h => by simp at h⟩
/-- The cells x are the description t, all of its rows in S. -/
inductive LS (S : Nat → Prop) (w : World) : LX → Lat → Prop
  | mk {x : LX} {t : Lat} (ps : List LX) (hk : x.k = t.k) (hlo : x.lo = t.lo) (hhi : x.hi = t.hi) (rk : R64 x.k) (rlo : R64 x.lo) (rhi : R64 x.hi)
      (hn : NS S w x.vn t.ns) (on : Ok t.ns) (hr : RuS S w x.vr t.rs) (or : OkR t.rs) (hp : SxRd w x.vp (ps.map LX.q)) (bp : In S x.vp) (hl : ps.length = t.ps.length)
      (hd : ∀ (i : Nat) (y : LX) (u : Lat), ps[i]? = some y → t.ps[i]? = some u → LS S w y u) : LS S w x t
theorem LS.keep {S : Nat → Prop} {w w' : World} {x : LX} {t : Lat} (h : LS S w x t) (k : Keeps S w w') : LS S w' x t := by
  induction h with
  | mk ps h1 h2 h3 rk rlo rhi hn on hr or hp bp hl hd ih => exact .mk ps h1 h2 h3 rk rlo rhi (hn.keep k) on (hr.keep k) or (hp.keepS bp k.1 k.2) bp hl ih
theorem LS.mono {S T : Nat → Prop} {w : World} {x : LX} {t : Lat} (h : LS S w x t) (hs : ∀ k, S k → T k) : LS T w x t := by
  induction h with
  | mk ps h1 h2 h3 rk rlo rhi hn on hr or hp bp hl hd ih => exact .mk ps h1 h2 h3 rk rlo rhi (hn.mono hs) on (hr.mono hs) or hp (bp.mono hs) hl ih
theorem LS.ld {S : Nat → Prop} {w : World} {x : LX} {t : Lat} (h : LS S w x t) : LD w x t := by
  induction h with
  | mk ps h1 h2 h3 rk rlo rhi hn on hr or hp bp hl hd ih => exact .mk ps h1 h2 h3 rk rlo rhi hn.1 on hr.ru or hp hl ih
/-- Descriptions in a row of S. -/
def PS (S : Nat → Prop) (w : World) (v : Value) (ts : List Lat) : Prop := ∃ ps : List LX, SxRd w v (ps.map LX.q) ∧ In S v ∧ ps.length = ts.length ∧ ∀ (i : Nat) (y : LX) (u : Lat), ps[i]? = some y → ts[i]? = some u → LS S w y u
theorem PS.keep {S : Nat → Prop} {w w' : World} {v : Value} {ts : List Lat} (h : PS S w v ts) (k : Keeps S w w') : PS S w' v ts := by
  obtain ⟨ps, h1, h2, h3, h4⟩ := h
  exact ⟨ps, h1.keepS h2 k.1 k.2, h2, h3, fun i y u hy hu => (h4 i y u hy hu).keep k⟩
theorem PS.mono {S T : Nat → Prop} {w : World} {v : Value} {ts : List Lat} (h : PS S w v ts) (hs : ∀ k, S k → T k) : PS T w v ts := by
  obtain ⟨ps, h1, h2, h3, h4⟩ := h
  exact ⟨ps, h1, h2.mono hs, h3, fun i y u hy hu => (h4 i y u hy hu).mono hs⟩
theorem ps_nil (S : Nat → Prop) (w : World) : PS S w (.slice none 0 0) [] := ⟨[], sxrd_nil w, in_nil S, rfl, fun i y u h => by simp at h⟩
theorem keeps_bel {S : Nat → Prop} {B : Nat} {w w' : World} (h : Below B w w') (hs : ∀ k, S k → k < B) : Keeps S w w' := ⟨h.size, fun k hk _ => h.block k (hs k hk)⟩
theorem keeps_alloc (S : Nat → Prop) (w : World) (o : Obj) : Keeps S w (w.alloc o) := ⟨(bel_alloc w o).size, fun k _ hk => (bel_alloc w o).block k hk⟩
theorem keeps_set {S : Nat → Prop} (w : World) (p j : Nat) (v : Value) (hs : ¬ S p) : Keeps S w (w.setCell ⟨p, j, none⟩ v) := ⟨by simp, fun k hk _ => Below.heap_setCell _ _ _ _ (fun e => hs ((show k = p from e) ▸ hk))⟩
theorem keeps_rg {S : Nat → Prop} {b g : Nat} {d : List Int} {w w' : World} {off : Option Nat} (h : RG b g d w w' off) (hs : ¬ S b) : Keeps S w w' := ⟨h.size, fun k hk hlt => h.blk hlt (fun e => hs (by rw [← e]; exact hk))⟩
theorem keeps_grown {S : Nat → Prop} {w w' : World} {row : Option Nat} (h : w.grownBy w' row) (hs : ∀ k, S k → row ≠ some k) : Keeps S w w' := ⟨h.size, fun k hk hlt => h.block k hlt (fun e => hs k hk e.symm)⟩
theorem Keeps.trans {S : Nat → Prop} {w w1 w2 : World} (h : Keeps S w w1) (k : Keeps S w1 w2) : Keeps S w w2 := ⟨Nat.le_trans h.1 k.1, fun x hx hl => (k.2 x hx (Nat.lt_of_lt_of_le hl h.1)).trans (h.2 x hx hl)⟩
/-- The blocks behind p of now. -/
abbrev Bh (p : Nat) (w : World) : Nat → Prop := fun k => p < k ∧ k < w.heap.size
theorem bh_mono {p : Nat} {w w' : World} (h : w.heap.size ≤ w'.heap.size) : ∀ k, Bh p w k → Bh p w' k := fun k hk => ⟨hk.1, by omega⟩
theorem ps_one {S T : Nat → Prop} {w4 : World} {x : LX} {u : Lat} (h : LS S w4 x u) (hST : ∀ k, S k → T k) (hT : T w4.heap.size) (E : TypeId) : PS T (w4.alloc (.cells #[x.q.a, x.q.b, x.q.c, x.q.d, x.q.e, x.q.f] E)) (.slice (some ⟨w4.heap.size, 0, none⟩) 1 1) [u] := by
  refine ⟨[x], sxrd_new, fun a n c e => by cases e; exact hT, rfl, fun i y v hy hv => ?_⟩
  have hi : i = 0 := by have := (List.getElem?_eq_some_iff.1 hy).1; simp at this; omega
  subst hi
  simp at hy hv
  subst hy hv
  exact (h.keep (keeps_alloc S w4 _)).mono hST
theorem sxrd_all {w : World} {l : List SxV} {E : TypeId} {m : Nat × Nat} (hl : l.length ≤ 9223372036854775807) : SxRd (w.alloc (.cells (sxds l).toArray E m)) (.slice (some ⟨w.heap.size, 0, none⟩) l.length l.length) l := by
  refine ⟨_, _, rfl, Nat.le_refl _, hl, fun _ => ⟨_, _, rfl, by simp, fun i u hi => ?_⟩⟩
  obtain ⟨g0, g1, g2, g3, g4, g5⟩ := sxds_get l i u hi
  have hc : ∀ j v, (sxds l)[j]? = some v → (w.alloc (.cells (sxds l).toArray E m)).cell? ⟨w.heap.size, 0 + j, none⟩ = some v := fun j v hv => by
    have := World.news_of_block (heap_alloc_new w (.cells (sxds l).toArray E m)) j v (by simpa using hv)
    rw [Addr.add_mid] at this
    exact this
  exact ⟨hc _ _ g0, hc _ _ g1, hc _ _ g2, hc _ _ g3, hc _ _ g4, hc _ _ g5⟩
theorem ps_two {S S2 T : Nat → Prop} {w4 : World} {x y : LX} {u v : Lat} (h : LS S w4 x u) (h2 : LS S2 w4 y v) (hST : ∀ k, S k → T k) (hST2 : ∀ k, S2 k → T k) (hT : T w4.heap.size) (E : TypeId) : PS T (w4.alloc (.cells #[x.q.a, x.q.b, x.q.c, x.q.d, x.q.e, x.q.f, y.q.a, y.q.b, y.q.c, y.q.d, y.q.e, y.q.f] E)) (.slice (some ⟨w4.heap.size, 0, none⟩) 2 2) [u, v] := by
  refine ⟨[x, y], sxrd_all (l := [x.q, y.q]) (by simp), fun a n c e => by cases e; exact hT, rfl, fun i z t hy hv => ?_⟩
  match i with
  | 0 => simp at hy hv; subst hy hv; exact (h.keep (keeps_alloc S w4 _)).mono hST
  | 1 => simp at hy hv; subst hy hv; exact (h2.keep (keeps_alloc S2 w4 _)).mono hST2
  | n + 2 => simp at hy
theorem ns_mk {S T : Nat → Prop} {w : World} {v : Value} {ns : List Str} (h : Rd w v (ss ns)) (h2 : In S v) (hs : ∀ k, S k → T k) : NS T w v ns := ⟨h, h2.mono hs⟩
theorem NS.setBox {p : Nat} {w : World} {v : Value} {ns : List Str} (h : NS (Bh p w) w v ns) (j : Nat) (u : Value) : NS (Bh p (w.setCell ⟨p, j, none⟩ u)) (w.setCell ⟨p, j, none⟩ u) v ns :=
  (h.keep (keeps_set w p j u (fun hk => by have := hk.1; omega))).mono fun k hk => ⟨hk.1, by simpa using hk.2⟩
theorem PS.setBox {p : Nat} {w : World} {v : Value} {ts : List Lat} (h : PS (Bh p w) w v ts) (j : Nat) (u : Value) : PS (Bh p (w.setCell ⟨p, j, none⟩ u)) (w.setCell ⟨p, j, none⟩ u) v ts :=
  (h.keep (keeps_set w p j u (fun hk => by have := hk.1; omega))).mono fun k hk => ⟨hk.1, by simpa using hk.2⟩
theorem RuS.setBox {p : Nat} {w : World} {v : Value} {rs : List Gr} (h : RuS (Bh p w) w v rs) (j : Nat) (u : Value) : RuS (Bh p (w.setCell ⟨p, j, none⟩ u)) (w.setCell ⟨p, j, none⟩ u) v rs :=
  (h.keep (keeps_set w p j u (fun hk => by have := hk.1; omega))).mono fun k hk => ⟨hk.1, by simpa using hk.2⟩
theorem NS.alloc {p : Nat} {w : World} {v : Value} {ns : List Str} (h : NS (Bh p w) w v ns) (o : Obj) : NS (Bh p (w.alloc o)) (w.alloc o) v ns := (h.keep (keeps_alloc _ w o)).mono (bh_mono (bel_alloc w o).size)
/-- What read gives. -/
def RdP (b g : Nat) (d : List Int) (t : Lat) (s : Option Nat) (w : World) (e : Ending) (w' : World) : Prop := ∃ (xo : Option Addr) (xc : Nat) (yo : Option Addr) (yc : Nat) (zo : Option Addr) (zc : Nat), e = .returned (.agg #[.int .i64 t.k, .int .i64 t.lo, .int .i64 t.hi, .slice xo t.ns.length xc, .slice yo t.ps.length yc, .slice zo t.rs.length zc]) ∧
  LS (fun k => w.heap.size ≤ k ∧ k < w'.heap.size) w' ⟨t.k, t.lo, t.hi, .slice xo t.ns.length xc, .slice yo t.ps.length yc, .slice zo t.rs.length zc⟩ t ∧ RG b g d w w' s
/-- read's boxes: the result's, untouched, and the description's in block p. -/
structure RS (b g : Nat) (d : List Int) (w : World) (p : Nat) (x0 x1 x2 x3 x4 x5 : Value) (off : Option Nat) (wr : World) : Prop where
  rg : RG b g d w wr off
  hb : b < w.heap.size ∧ g < w.heap.size
  hp : w.heap.size < p ∧ p < wr.heap.size
  res : wr.heap[w.heap.size]? = some (.cells [.int .i64 0, .int .i64 0, .int .i64 0, .slice none 0 0, .slice none 0 0, .slice none 0 0].toArray 26 (0, 0))
  box : wr.heap[p]? = some (.cells [x0, x1, x2, x3, x4, x5].toArray 26 (0, 0))
section
variable {b g : Nat} {d : List Int} {w : World} {p : Nat} {x0 x1 x2 x3 x4 x5 : Value} {off off' : Option Nat} {wr w2 : World}
theorem RS.call (h : RS b g d w p x0 x1 x2 x3 x4 x5 off wr) (k : RG b g d wr w2 off') : RS b g d w p x0 x1 x2 x3 x4 x5 off' w2 := by
  have h1 := h.hb
  have h2 := h.hp
  exact ⟨h.rg.trans k, h1, ⟨h2.1, Nat.lt_of_lt_of_le h2.2 k.size⟩, (k.blk (by omega) (by omega)).trans h.res, (k.blk h2.2 (by omega)).trans h.box⟩
theorem RS.bel {B : Nat} (h : RS b g d w p x0 x1 x2 x3 x4 x5 off wr) (hb : Below B wr w2) (hB : p < B) : RS b g d w p x0 x1 x2 x3 x4 x5 off w2 := by
  have h1 := h.hb
  have h2 := h.hp
  exact ⟨h.rg.bel hb (by omega) (by omega) (by omega), h1, ⟨h2.1, Nat.lt_of_lt_of_le h2.2 hb.size⟩, (hb.block _ (by omega)).trans h.res, (hb.block _ hB).trans h.box⟩
theorem RS.alloc (h : RS b g d w p x0 x1 x2 x3 x4 x5 off wr) (o : Obj) : RS b g d w p x0 x1 x2 x3 x4 x5 off (wr.alloc o) := h.bel (bel_alloc wr o) h.hp.2
theorem RS.drew (h : RS b g d w p x0 x1 x2 x3 x4 x5 off wr) : RS b g d w p x0 x1 x2 x3 x4 x5 off wr.drew := h.bel (B := wr.heap.size) (Below.refl _ _).drew h.hp.2
theorem RS.set (h : RS b g d w p x0 x1 x2 x3 x4 x5 off wr) (j : Nat) (v : Value) {y0 y1 y2 y3 y4 y5 : Value} (e : [x0, x1, x2, x3, x4, x5].set j v = [y0, y1, y2, y3, y4, y5]) : RS b g d w p y0 y1 y2 y3 y4 y5 off (wr.setCell ⟨p, j, none⟩ v) := by
  have h1 := h.hb
  have h2 := h.hp
  obtain ⟨s, k⟩ := h.rg
  refine ⟨⟨rs_same s (set_blk 0 (by omega)) (set_blk 0 (by omega)), ⟨k.os, k.tape, k.output, by simpa using k.size, fun x hx hn => (set_blk 0 (by omega)).trans (k.block x hx hn)⟩⟩, h1, ⟨h2.1, by simpa using h2.2⟩, (set_blk 0 (by omega)).trans h.res, ?_⟩
  rw [← e]
  exact Go.Proofs.Ytcjnmgokddfidaa.blk_setCell (k := j) h.box
theorem RS.cells (h : RS b g d w p x0 x1 x2 x3 x4 x5 off wr) : wr.cell? ⟨p, 0, none⟩ = some x0 ∧ wr.cell? ⟨p, 1, none⟩ = some x1 ∧ wr.cell? ⟨p, 2, none⟩ = some x2 ∧ wr.cell? ⟨p, 3, none⟩ = some x3 ∧ wr.cell? ⟨p, 4, none⟩ = some x4 ∧ wr.cell? ⟨p, 5, none⟩ = some x5 :=
  ⟨cell_blk h.box rfl, cell_blk h.box rfl, cell_blk h.box rfl, cell_blk h.box rfl, cell_blk h.box rfl, cell_blk h.box rfl⟩
theorem RS.free (h : RS b g d w p x0 x1 x2 x3 x4 x5 off wr) (j : Nat) : wr.frozen? ⟨p, j, none⟩ = false := fr_blk h.box j
theorem NS.call {v : Value} {ns : List Str} (n : NS (Bh p wr) wr v ns) (h : RS b g d w p x0 x1 x2 x3 x4 x5 off wr) (k : RG b g d wr w2 off') : NS (Bh p w2) w2 v ns :=
  (n.keep (keeps_rg k (fun hk => by have := hk.1; have := h.hp; have := h.hb; omega))).mono (bh_mono k.size)
/-- Behind the first number. -/
theorem RS.start {w1 : World} (h : RG b g d (w.alloc (.cells [.int .i64 0, .int .i64 0, .int .i64 0, .slice none 0 0, .slice none 0 0, .slice none 0 0].toArray 26 (0, 0))) w1 off) (hb : b < w.heap.size ∧ g < w.heap.size) (k : Value) :
    RS b g d w w1.heap.size k (.int .i64 0) (.int .i64 0) (.slice none 0 0) (.slice none 0 0) (.slice none 0 0) off (w1.alloc (.cells [k, .int .i64 0, .int .i64 0, .slice none 0 0, .slice none 0 0, .slice none 0 0].toArray 26 (0, 0))) := by
  have hs : (w.alloc (.cells [.int .i64 0, .int .i64 0, .int .i64 0, .slice none 0 0, .slice none 0 0, .slice none 0 0].toArray 26 (0, 0))).heap.size = w.heap.size + 1 := by simp
  have h1 := h.size
  rw [hs] at h1
  refine ⟨h.of_alloc.alloc _, hb, ⟨by omega, by simp⟩, ?_, heap_alloc_new w1 _⟩
  exact ((bel_alloc w1 _).block _ (by omega)).trans ((h.blk (by omega) (by omega)).trans (heap_alloc_new w _))
/-- All stands: the result box is filled. -/
theorem RS.fin {t : Lat} {xo : Option Addr} {xc : Nat} {yo : Option Addr} {yc : Nat} {zo : Option Addr} {zc : Nat} (h : RS b g d w p (.int .i64 t.k) (.int .i64 t.lo) (.int .i64 t.hi) (.slice xo t.ns.length xc) (.slice yo t.ps.length yc) (.slice zo t.rs.length zc) off wr) (rk : R64 t.k ∧ R64 t.lo ∧ R64 t.hi) (on : Ok t.ns) (or : OkR t.rs)
    (hn : NS (Bh p wr) wr (.slice xo t.ns.length xc) t.ns) (hp : PS (Bh p wr) wr (.slice yo t.ps.length yc) t.ps) (hr : RuS (Bh p wr) wr (.slice zo t.rs.length zc) t.rs) (cs : Array Value) {e : Ending} (he : e = .returned (.agg #[.int .i64 t.k, .int .i64 t.lo, .int .i64 t.hi, .slice xo t.ns.length xc, .slice yo t.ps.length yc, .slice zo t.rs.length zc])) : RdP b g d t off w e (wr.setRow w.heap.size cs) := by
  subst he
  have h1 := h.hb
  have h2 := h.hp
  have hK : Keeps (Bh p wr) wr (wr.setRow w.heap.size cs) := ⟨by simp [World.setRow], fun k hk _ => setRow_other _ _ _ _ (by have := hk.1; omega)⟩
  have hM : ∀ k, Bh p wr k → w.heap.size ≤ k ∧ k < (wr.setRow w.heap.size cs).heap.size := fun k hk => ⟨by have := hk.1; omega, by have := hk.2; simp [World.setRow]; omega⟩
  obtain ⟨ps, p1, p2, p3, p4⟩ := (hp.keep hK).mono hM
  refine ⟨xo, xc, yo, yc, zo, zc, rfl, .mk ps rfl rfl rfl rk.1 rk.2.1 rk.2.2 ((hn.keep hK).mono hM) on ((hr.keep hK).mono hM) or p1 p2 p3 p4, ?_⟩
  obtain ⟨s, k⟩ := h.rg
  exact ⟨rs_same s (setRow_other _ _ _ _ (by omega)) (setRow_other _ _ _ _ (by omega)), ⟨k.os, k.tape, k.output, by simpa [World.setRow] using k.size, fun x hx hn => (setRow_other _ _ _ _ (by omega)).trans (k.block x hx hn)⟩⟩
end
end Go.Proofs.Ytcjnmgokddfidaa
