/- write of package lattice. Bounds on sizes alone. -/
import Derived.Test.YtoogcafceghdjaaLatWnm
import Derived.Test.YtoogcafceghdjaaLatFie
namespace Go.Proofs.Ytoogcafceghdjaa
open Go.RowKit
set_option maxRecDepth 100000
set_option maxHeartbeats 3200000

/-- The contract of write, for a tree. -/
def WP (w0 : World) (b : Nat) (t : Lat) : Prop := ∀ (k lo hi : Int) (an : Option Addr) (nn cn : Nat) (ap : Option Addr) (np cp : Nat) (ar : Option Addr) (nr cr : Nat) (w : World) (v : Value) (l : List Int), LO w0 k lo hi an nn cn ap np cp ar nr cr t → Below w0.heap.size w0 w → w0.heap.size ≤ b → Wr.Wst w0.heap.size b w v l → l.length + (encL t).length ≤ 60000000000000 →
  Calls Try.prog 21 #[.pointer (some ⟨b, 0, none⟩), .agg #[.int .i64 k, .int .i64 lo, .int .i64 hi, .slice an nn cn, .slice ap np cp, .slice ar nr cr]] w fun e w' => e = .returned (.tuple #[]) ∧ WK w0.heap.size b w v w' (l ++ encL t)
theorem encL_k (t : Lat) : encL t = Wr.enc t.k.toNat ++ (if t.k = 2 ∨ t.k = 3 then Wr.enc (Wr.zig t.lo) ++ Wr.enc (Wr.zig t.hi) else if t.k = 4 ∨ t.k = 8 then nsE t.ns else if t.k = 5 then nsE t.ns ++ encLs t.ps else if t.k = 6 then Wr.enc t.ns.length ++ encPs t.ns t.ps else if t.k = 7 then encLs t.ps else if t.k = 10 then nsE t.ns ++ rsE t.rs else []) := by
  cases t
  rw [encL]
  rfl
theorem wr_box {B b : Nat} {w : World} {v : Value} {l : List Int} (h : Wr.Wst B b w v l) (x0 x1 x2 x3 x4 x5 : Value) {w' : World} {l' : List Int} (k : WK B b (w.alloc (.cells #[x0, x1, x2, x3, x4, x5] 26)) v w' l') :
    w'.cell? ⟨w.heap.size, 0, none⟩ = some x0 ∧ w'.cell? ⟨w.heap.size, 1, none⟩ = some x1 ∧ w'.cell? ⟨w.heap.size, 2, none⟩ = some x2 ∧ w'.cell? ⟨w.heap.size, 3, none⟩ = some x3 ∧ w'.cell? ⟨w.heap.size, 4, none⟩ = some x4 ∧ w'.cell? ⟨w.heap.size, 5, none⟩ = some x5 := by
  have hb := lt_of_block h.blk
  have e := (k.blk (k := w.heap.size) (by simp) (by omega) (fun hs => by have := (h.own.lt _ hs).2; omega)).trans (heap_alloc_new w (.cells [x0, x1, x2, x3, x4, x5].toArray 26 (0, 0)))
  exact ⟨cell_blk e rfl, cell_blk e rfl, cell_blk e rfl, cell_blk e rfl, cell_blk e rfl, cell_blk e rfl⟩
/-- write of a part, behind. -/
theorem wp_wk {w0 : World} {b : Nat} {p : Lat} (ih : WP w0 b p) {k lo hi : Int} {an : Option Addr} {nn cn : Nat} {ap : Option Addr} {np cp : Nat} {ar : Option Addr} {nr cr : Nat} {wa w : World} {va : Value} {l : List Int} (H : LO w0 k lo hi an nn cn ap np cp ar nr cr p) (h : WK w0.heap.size b wa va w l) (hb0 : Below w0.heap.size w0 wa) (hl : l.length + (encL p).length ≤ 60000000000000) :
    Calls Try.prog 21 #[.pointer (some ⟨b, 0, none⟩), .agg #[.int .i64 k, .int .i64 lo, .int .i64 hi, .slice an nn cn, .slice ap np cp, .slice ar nr cr]] w fun e w' => e = .returned (.tuple #[]) ∧ WK w0.heap.size b wa va w' (l ++ encL p) :=
  h.call fun v hv => ih k lo hi an nn cn ap np cp ar nr cr w v l H (hb0.trans h.bel) h.hb hv hl
theorem shape_5 {t : Lat} (h : shapeB t = true) (hk : t.k = 5) : t.ps.length = 1 := by
  unfold shapeB at h
  rw [hk] at h
  simp at h
  exact h.2.2.2
theorem shape_7 {t : Lat} (h : shapeB t = true) (hk : t.k = 7) : t.ps.length = 2 := by
  unfold shapeB at h
  rw [hk] at h
  simp at h
  exact h.2.2.2.1
theorem shape_6 {t : Lat} (h : shapeB t = true) (hk : t.k = 6) : t.ps.length = t.ns.length := by
  unfold shapeB at h
  rw [hk] at h
  simp at h
  exact h.2.2.2.1
theorem encPs_snoc : ∀ (ns : List Str) (ps : List Lat) (j : Nat) (x : Str) (p : Lat), ns[j]? = some x → ps[j]? = some p → encPs (ns.take (j + 1)) (ps.take (j + 1)) = encPs (ns.take j) (ps.take j) ++ (txE x ++ encL p)
  | [], _, _, _, _, h, _ => by simp at h
  | _ :: _, [], _, _, _, _, h => by simp at h
  | n :: ns, q :: ps, 0, x, p, h, h2 => by
    simp at h h2
    subst h h2
    simp [encPs_cons, encPs_nil]
  | n :: ns, q :: ps, j + 1, x, p, h, h2 => by
    have ih := encPs_snoc ns ps j x p (by simpa using h) (by simpa using h2)
    rw [List.take_succ_cons, List.take_succ_cons, encPs_cons, ih, List.take_succ_cons, List.take_succ_cons, encPs_cons]
    simp only [List.append_assoc]
theorem encPs_pre : ∀ (ns : List Str) (ps : List Lat) (j : Nat), j ≤ ns.length → ns.length = ps.length → (encPs (ns.take j) (ps.take j)).length ≤ (encPs ns ps).length
  | [], ps, j, _, _ => by simp [encPs_nil]
  | _ :: _, [], _, _, h => by simp at h
  | n :: ns, p :: ps, 0, _, _ => by simp [encPs_nil]
  | n :: ns, p :: ps, j + 1, h, h2 => by
    have ih := encPs_pre ns ps j (by simpa using h) (by simpa using h2)
    rw [List.take_succ_cons, List.take_succ_cons, encPs_cons, encPs_cons]
    simp only [List.length_append]
    omega
theorem rule_box {B b : Nat} {w : World} {v : Value} {l : List Int} (h : Wr.Wst B b w v l) (x0 x1 : Value) {w' : World} {l' : List Int} (k : WK B b (w.alloc (.cells #[x0, x1] 58)) v w' l') : w'.cell? ⟨w.heap.size, 0, none⟩ = some x0 ∧ w'.cell? ⟨w.heap.size, 1, none⟩ = some x1 := by
  have hb := lt_of_block h.blk
  have e := (k.blk (k := w.heap.size) (by simp) (by omega) (fun hs => by have := (h.own.lt _ hs).2; omega)).trans (heap_alloc_new w (.cells [x0, x1].toArray 58 (0, 0)))
  exact ⟨cell_blk e rfl, cell_blk e rfl⟩
theorem one_of {ps : List Lat} {p : Lat} (h : ps.length = 1) (hp : ps[0]? = some p) : ps = [p] := by
  match ps, h with
  | [a], _ => simpa using hp
theorem two_of {ps : List Lat} {p q : Lat} (h : ps.length = 2) (hp : ps[0]? = some p) (hq : ps[1]? = some q) : ps = [p, q] := by
  match ps, h with
  | [a, c], _ => simp at hp hq; rw [hp, hq]
section
variable (b : Nat) (lo hi : Int) (an : Option Addr) (nn cn : Nat) (ap : Option Addr) (np cp : Nat) (ar : Option Addr) (nr cr : Nat) (t : Lat) (w0 w : World) (v : Value) (l : List Int)
theorem wr_1 (H : LO w0 1 lo hi an nn cn ap np cp ar nr cr t) (hok : Okay t) (hb0 : Below w0.heap.size w0 w) (hb : w0.heap.size ≤ b) (h : Wr.Wst w0.heap.size b w v l) (hl : l.length + (encL t).length ≤ 60000000000000) (IH : ∀ p ∈ t.ps, WP w0 b p) :
    Calls Try.prog 21 #[.pointer (some ⟨b, 0, none⟩), .agg #[.int .i64 1, .int .i64 lo, .int .i64 hi, .slice an nn cn, .slice ap np cp, .slice ar nr cr]] w fun e w' => e = .returned (.tuple #[]) ∧ WK w0.heap.size b w v w' (l ++ encL t) := by
  have hk : t.k = 1 := H.hk.symm
  have hN := hok.node
  have hBW := hb0.size
  have HBA := hid_of (hb0.trans ((bel_alloc w (.cells #[.int .i64 1, .int .i64 lo, .int .i64 hi, .slice an nn cn, .slice ap np cp, .slice ar nr cr] 26)).mono hb0.size))
  have KA := hid_of (WK.start (h.alloc (.cells #[.int .i64 1, .int .i64 lo, .int .i64 hi, .slice an nn cn, .slice ap np cp, .slice ar nr cr] 26)) hb (Nat.le_trans hBW (by simp)))
  have HBX : Hid (∀ w' l', WK w0.heap.size b (w.alloc (.cells #[.int .i64 1, .int .i64 lo, .int .i64 hi, .slice an nn cn, .slice ap np cp, .slice ar nr cr] 26)) v w' l' → _) := hid_of (fun w' l' k => wr_box h _ _ _ _ _ _ k)
  have HE : Hid (encL t = Wr.enc 1 ++ ([] : List Int)) := hid_of (by
    rw [encL_k, hk, if_neg (by decide : ¬((1 : Int) = 2 ∨ (1 : Int) = 3)), if_neg (by decide : ¬((1 : Int) = 4 ∨ (1 : Int) = 8)), if_neg (by decide : ¬((1 : Int) = 5)), if_neg (by decide : ¬((1 : Int) = 6)), if_neg (by decide : ¬((1 : Int) = 7)), if_neg (by decide : ¬((1 : Int) = 10))]
    rfl)
  have HL : Hid (l.length + (Wr.enc 1).length + (([] : List Int)).length ≤ 60000000000000) := hid_of (by
    have h1 := hl
    rw [HE.out, List.length_append] at h1
    omega)
  have C0 := hid_of (show Calls Try.prog 45 #[.pointer (some ⟨b, 0, none⟩), .int .u64 1] _ _ from uint_wk 1 KA.out (by omega) (by omega))
  clear H hok hb0 hb h hl IH hk hN
  go_enter Try.func21, Try.ntmps21
  go_wp2_with (go_at_call 45; ((with_reducible refine (C0.out).mono ?_); (rintro e w1 ⟨rfl, q1⟩)); have K1 := hid_of q1; obtain ⟨a0, a1, a2, a3, a4, a5⟩ := HBX.out w1 _ q1; clear q1)
  go_end0
  have R := K1.out
  exact ⟨rfl, by rw [HE.out]; have := R.of_alloc hBW; simpa only [List.append_assoc, List.append_nil] using this⟩
theorem wr_9 (H : LO w0 9 lo hi an nn cn ap np cp ar nr cr t) (hok : Okay t) (hb0 : Below w0.heap.size w0 w) (hb : w0.heap.size ≤ b) (h : Wr.Wst w0.heap.size b w v l) (hl : l.length + (encL t).length ≤ 60000000000000) (IH : ∀ p ∈ t.ps, WP w0 b p) :
    Calls Try.prog 21 #[.pointer (some ⟨b, 0, none⟩), .agg #[.int .i64 9, .int .i64 lo, .int .i64 hi, .slice an nn cn, .slice ap np cp, .slice ar nr cr]] w fun e w' => e = .returned (.tuple #[]) ∧ WK w0.heap.size b w v w' (l ++ encL t) := by
  have hk : t.k = 9 := H.hk.symm
  have hN := hok.node
  have hBW := hb0.size
  have HBA := hid_of (hb0.trans ((bel_alloc w (.cells #[.int .i64 9, .int .i64 lo, .int .i64 hi, .slice an nn cn, .slice ap np cp, .slice ar nr cr] 26)).mono hb0.size))
  have KA := hid_of (WK.start (h.alloc (.cells #[.int .i64 9, .int .i64 lo, .int .i64 hi, .slice an nn cn, .slice ap np cp, .slice ar nr cr] 26)) hb (Nat.le_trans hBW (by simp)))
  have HBX : Hid (∀ w' l', WK w0.heap.size b (w.alloc (.cells #[.int .i64 9, .int .i64 lo, .int .i64 hi, .slice an nn cn, .slice ap np cp, .slice ar nr cr] 26)) v w' l' → _) := hid_of (fun w' l' k => wr_box h _ _ _ _ _ _ k)
  have HE : Hid (encL t = Wr.enc 9 ++ ([] : List Int)) := hid_of (by
    rw [encL_k, hk, if_neg (by decide : ¬((9 : Int) = 2 ∨ (9 : Int) = 3)), if_neg (by decide : ¬((9 : Int) = 4 ∨ (9 : Int) = 8)), if_neg (by decide : ¬((9 : Int) = 5)), if_neg (by decide : ¬((9 : Int) = 6)), if_neg (by decide : ¬((9 : Int) = 7)), if_neg (by decide : ¬((9 : Int) = 10))]
    rfl)
  have HL : Hid (l.length + (Wr.enc 9).length + (([] : List Int)).length ≤ 60000000000000) := hid_of (by
    have h1 := hl
    rw [HE.out, List.length_append] at h1
    omega)
  have C0 := hid_of (show Calls Try.prog 45 #[.pointer (some ⟨b, 0, none⟩), .int .u64 9] _ _ from uint_wk 9 KA.out (by omega) (by omega))
  clear H hok hb0 hb h hl IH hk hN
  go_enter Try.func21, Try.ntmps21
  go_wp2_with (go_at_call 45; ((with_reducible refine (C0.out).mono ?_); (rintro e w1 ⟨rfl, q1⟩)); have K1 := hid_of q1; obtain ⟨a0, a1, a2, a3, a4, a5⟩ := HBX.out w1 _ q1; clear q1)
  go_end0
  have R := K1.out
  exact ⟨rfl, by rw [HE.out]; have := R.of_alloc hBW; simpa only [List.append_assoc, List.append_nil] using this⟩
theorem wr_2 (H : LO w0 2 lo hi an nn cn ap np cp ar nr cr t) (hok : Okay t) (hb0 : Below w0.heap.size w0 w) (hb : w0.heap.size ≤ b) (h : Wr.Wst w0.heap.size b w v l) (hl : l.length + (encL t).length ≤ 60000000000000) (IH : ∀ p ∈ t.ps, WP w0 b p) :
    Calls Try.prog 21 #[.pointer (some ⟨b, 0, none⟩), .agg #[.int .i64 2, .int .i64 lo, .int .i64 hi, .slice an nn cn, .slice ap np cp, .slice ar nr cr]] w fun e w' => e = .returned (.tuple #[]) ∧ WK w0.heap.size b w v w' (l ++ encL t) := by
  have hk : t.k = 2 := H.hk.symm
  have hN := hok.node
  have hBW := hb0.size
  have HBA := hid_of (hb0.trans ((bel_alloc w (.cells #[.int .i64 2, .int .i64 lo, .int .i64 hi, .slice an nn cn, .slice ap np cp, .slice ar nr cr] 26)).mono hb0.size))
  have KA := hid_of (WK.start (h.alloc (.cells #[.int .i64 2, .int .i64 lo, .int .i64 hi, .slice an nn cn, .slice ap np cp, .slice ar nr cr] 26)) hb (Nat.le_trans hBW (by simp)))
  have HBX : Hid (∀ w' l', WK w0.heap.size b (w.alloc (.cells #[.int .i64 2, .int .i64 lo, .int .i64 hi, .slice an nn cn, .slice ap np cp, .slice ar nr cr] 26)) v w' l' → _) := hid_of (fun w' l' k => wr_box h _ _ _ _ _ _ k)
  have HE : Hid (encL t = Wr.enc 2 ++ (Wr.enc (Wr.zig lo) ++ Wr.enc (Wr.zig hi))) := hid_of (by
    rw [encL_k, hk, if_pos (by decide : (2 : Int) = 2 ∨ (2 : Int) = 3), H.hlo, H.hhi]
    rfl)
  have HL : Hid (l.length + (Wr.enc 2).length + ((Wr.enc (Wr.zig lo) ++ Wr.enc (Wr.zig hi))).length ≤ 60000000000000) := hid_of (by
    have h1 := hl
    rw [HE.out, List.length_append] at h1
    omega)
  have C0 := hid_of (show Calls Try.prog 45 #[.pointer (some ⟨b, 0, none⟩), .int .u64 2] _ _ from uint_wk 2 KA.out (by omega) (by omega))
  have C1 : Hid (∀ w1, WK w0.heap.size b (w.alloc (.cells #[.int .i64 2, .int .i64 lo, .int .i64 hi, .slice an nn cn, .slice ap np cp, .slice ar nr cr] 26)) v w1 (l ++ Wr.enc 2) → _) := hid_of (fun w1 k => int_wk lo k H.rlo (by have := HL.out; rw [List.length_append]; omega))
  have C2 : Hid (∀ w1, WK w0.heap.size b (w.alloc (.cells #[.int .i64 2, .int .i64 lo, .int .i64 hi, .slice an nn cn, .slice ap np cp, .slice ar nr cr] 26)) v w1 (l ++ Wr.enc 2 ++ Wr.enc (Wr.zig lo)) → _) := hid_of (fun w1 k => int_wk hi k H.rhi (by have := HL.out; simp only [List.length_append] at this ⊢; omega))
  clear H hok hb0 hb h hl IH hk hN
  go_enter Try.func21, Try.ntmps21
  go_wp2_with (first
    | (go_at_call 45; ((with_reducible refine (C0.out).mono ?_); (rintro e w1 ⟨rfl, q1⟩)); have K1 := hid_of q1; obtain ⟨a0, a1, a2, a3, a4, a5⟩ := HBX.out w1 _ q1; clear q1)
    | (go_at_call 46; ((with_reducible refine (C1.out w1 K1.out).mono ?_); (rintro e w2 ⟨rfl, q1⟩)); have K2 := hid_of q1; obtain ⟨d0, d1, d2, d3, d4, d5⟩ := HBX.out w2 _ q1; clear q1)
    | (go_at_call 46; ((with_reducible refine (C2.out w2 K2.out).mono ?_); (rintro e w3 ⟨rfl, q1⟩)); have K3 := hid_of q1; clear q1))
  go_end0
  have R := K3.out
  exact ⟨rfl, by rw [HE.out]; have := R.of_alloc hBW; simpa only [List.append_assoc, List.append_nil] using this⟩
theorem wr_3 (H : LO w0 3 lo hi an nn cn ap np cp ar nr cr t) (hok : Okay t) (hb0 : Below w0.heap.size w0 w) (hb : w0.heap.size ≤ b) (h : Wr.Wst w0.heap.size b w v l) (hl : l.length + (encL t).length ≤ 60000000000000) (IH : ∀ p ∈ t.ps, WP w0 b p) :
    Calls Try.prog 21 #[.pointer (some ⟨b, 0, none⟩), .agg #[.int .i64 3, .int .i64 lo, .int .i64 hi, .slice an nn cn, .slice ap np cp, .slice ar nr cr]] w fun e w' => e = .returned (.tuple #[]) ∧ WK w0.heap.size b w v w' (l ++ encL t) := by
  have hk : t.k = 3 := H.hk.symm
  have hN := hok.node
  have hBW := hb0.size
  have HBA := hid_of (hb0.trans ((bel_alloc w (.cells #[.int .i64 3, .int .i64 lo, .int .i64 hi, .slice an nn cn, .slice ap np cp, .slice ar nr cr] 26)).mono hb0.size))
  have KA := hid_of (WK.start (h.alloc (.cells #[.int .i64 3, .int .i64 lo, .int .i64 hi, .slice an nn cn, .slice ap np cp, .slice ar nr cr] 26)) hb (Nat.le_trans hBW (by simp)))
  have HBX : Hid (∀ w' l', WK w0.heap.size b (w.alloc (.cells #[.int .i64 3, .int .i64 lo, .int .i64 hi, .slice an nn cn, .slice ap np cp, .slice ar nr cr] 26)) v w' l' → _) := hid_of (fun w' l' k => wr_box h _ _ _ _ _ _ k)
  have HE : Hid (encL t = Wr.enc 3 ++ (Wr.enc (Wr.zig lo) ++ Wr.enc (Wr.zig hi))) := hid_of (by
    rw [encL_k, hk, if_pos (by decide : (3 : Int) = 2 ∨ (3 : Int) = 3), H.hlo, H.hhi]
    rfl)
  have HL : Hid (l.length + (Wr.enc 3).length + ((Wr.enc (Wr.zig lo) ++ Wr.enc (Wr.zig hi))).length ≤ 60000000000000) := hid_of (by
    have h1 := hl
    rw [HE.out, List.length_append] at h1
    omega)
  have C0 := hid_of (show Calls Try.prog 45 #[.pointer (some ⟨b, 0, none⟩), .int .u64 3] _ _ from uint_wk 3 KA.out (by omega) (by omega))
  have C1 : Hid (∀ w1, WK w0.heap.size b (w.alloc (.cells #[.int .i64 3, .int .i64 lo, .int .i64 hi, .slice an nn cn, .slice ap np cp, .slice ar nr cr] 26)) v w1 (l ++ Wr.enc 3) → _) := hid_of (fun w1 k => int_wk lo k H.rlo (by have := HL.out; rw [List.length_append]; omega))
  have C2 : Hid (∀ w1, WK w0.heap.size b (w.alloc (.cells #[.int .i64 3, .int .i64 lo, .int .i64 hi, .slice an nn cn, .slice ap np cp, .slice ar nr cr] 26)) v w1 (l ++ Wr.enc 3 ++ Wr.enc (Wr.zig lo)) → _) := hid_of (fun w1 k => int_wk hi k H.rhi (by have := HL.out; simp only [List.length_append] at this ⊢; omega))
  clear H hok hb0 hb h hl IH hk hN
  go_enter Try.func21, Try.ntmps21
  go_wp2_with (first
    | (go_at_call 45; ((with_reducible refine (C0.out).mono ?_); (rintro e w1 ⟨rfl, q1⟩)); have K1 := hid_of q1; obtain ⟨a0, a1, a2, a3, a4, a5⟩ := HBX.out w1 _ q1; clear q1)
    | (go_at_call 46; ((with_reducible refine (C1.out w1 K1.out).mono ?_); (rintro e w2 ⟨rfl, q1⟩)); have K2 := hid_of q1; obtain ⟨d0, d1, d2, d3, d4, d5⟩ := HBX.out w2 _ q1; clear q1)
    | (go_at_call 46; ((with_reducible refine (C2.out w2 K2.out).mono ?_); (rintro e w3 ⟨rfl, q1⟩)); have K3 := hid_of q1; clear q1))
  go_end0
  have R := K3.out
  exact ⟨rfl, by rw [HE.out]; have := R.of_alloc hBW; simpa only [List.append_assoc, List.append_nil] using this⟩
theorem wr_4 (H : LO w0 4 lo hi an nn cn ap np cp ar nr cr t) (hok : Okay t) (hb0 : Below w0.heap.size w0 w) (hb : w0.heap.size ≤ b) (h : Wr.Wst w0.heap.size b w v l) (hl : l.length + (encL t).length ≤ 60000000000000) (IH : ∀ p ∈ t.ps, WP w0 b p) :
    Calls Try.prog 21 #[.pointer (some ⟨b, 0, none⟩), .agg #[.int .i64 4, .int .i64 lo, .int .i64 hi, .slice an nn cn, .slice ap np cp, .slice ar nr cr]] w fun e w' => e = .returned (.tuple #[]) ∧ WK w0.heap.size b w v w' (l ++ encL t) := by
  have hk : t.k = 4 := H.hk.symm
  have hN := hok.node
  have hBW := hb0.size
  have HBA := hid_of (hb0.trans ((bel_alloc w (.cells #[.int .i64 4, .int .i64 lo, .int .i64 hi, .slice an nn cn, .slice ap np cp, .slice ar nr cr] 26)).mono hb0.size))
  have KA := hid_of (WK.start (h.alloc (.cells #[.int .i64 4, .int .i64 lo, .int .i64 hi, .slice an nn cn, .slice ap np cp, .slice ar nr cr] 26)) hb (Nat.le_trans hBW (by simp)))
  have HBX : Hid (∀ w' l', WK w0.heap.size b (w.alloc (.cells #[.int .i64 4, .int .i64 lo, .int .i64 hi, .slice an nn cn, .slice ap np cp, .slice ar nr cr] 26)) v w' l' → _) := hid_of (fun w' l' k => wr_box h _ _ _ _ _ _ k)
  have HE : Hid (encL t = Wr.enc 4 ++ nsE t.ns) := hid_of (by
    rw [encL_k, hk, if_neg (by decide : ¬((4 : Int) = 2 ∨ (4 : Int) = 3)), if_pos (by decide : (4 : Int) = 4 ∨ (4 : Int) = 8)]
    rfl)
  have HL : Hid (l.length + (Wr.enc 4).length + (nsE t.ns).length ≤ 60000000000000) := hid_of (by
    have h1 := hl
    rw [HE.out, List.length_append] at h1
    omega)
  have C0 := hid_of (show Calls Try.prog 45 #[.pointer (some ⟨b, 0, none⟩), .int .u64 4] _ _ from uint_wk 4 KA.out (by omega) (by omega))
  have CN : Hid (∀ w1, WK w0.heap.size b (w.alloc (.cells #[.int .i64 4, .int .i64 lo, .int .i64 hi, .slice an nn cn, .slice ap np cp, .slice ar nr cr] 26)) v w1 (l ++ Wr.enc 4) → _) := hid_of (fun w1 k => wn_wk k HBA.out H.n hN.nm (by have := hN.nl; omega) (by have := HL.out; simp only [List.length_append] at this ⊢; omega))
  clear H hok hb0 hb h hl IH hk hN
  go_enter Try.func21, Try.ntmps21
  go_wp2_with (first
    | (go_at_call 45; ((with_reducible refine (C0.out).mono ?_); (rintro e w1 ⟨rfl, q1⟩)); have K1 := hid_of q1; obtain ⟨a0, a1, a2, a3, a4, a5⟩ := HBX.out w1 _ q1; clear q1)
    | (go_at_call 47; ((with_reducible refine (CN.out w1 K1.out).mono ?_); (rintro e w2 ⟨rfl, q1⟩)); have K2 := hid_of q1; obtain ⟨d0, d1, d2, d3, d4, d5⟩ := HBX.out w2 _ q1; clear q1))
  go_end0
  have R := K2.out
  exact ⟨rfl, by rw [HE.out]; have := R.of_alloc hBW; simpa only [List.append_assoc, List.append_nil] using this⟩
theorem wr_8 (H : LO w0 8 lo hi an nn cn ap np cp ar nr cr t) (hok : Okay t) (hb0 : Below w0.heap.size w0 w) (hb : w0.heap.size ≤ b) (h : Wr.Wst w0.heap.size b w v l) (hl : l.length + (encL t).length ≤ 60000000000000) (IH : ∀ p ∈ t.ps, WP w0 b p) :
    Calls Try.prog 21 #[.pointer (some ⟨b, 0, none⟩), .agg #[.int .i64 8, .int .i64 lo, .int .i64 hi, .slice an nn cn, .slice ap np cp, .slice ar nr cr]] w fun e w' => e = .returned (.tuple #[]) ∧ WK w0.heap.size b w v w' (l ++ encL t) := by
  have hk : t.k = 8 := H.hk.symm
  have hN := hok.node
  have hBW := hb0.size
  have HBA := hid_of (hb0.trans ((bel_alloc w (.cells #[.int .i64 8, .int .i64 lo, .int .i64 hi, .slice an nn cn, .slice ap np cp, .slice ar nr cr] 26)).mono hb0.size))
  have KA := hid_of (WK.start (h.alloc (.cells #[.int .i64 8, .int .i64 lo, .int .i64 hi, .slice an nn cn, .slice ap np cp, .slice ar nr cr] 26)) hb (Nat.le_trans hBW (by simp)))
  have HBX : Hid (∀ w' l', WK w0.heap.size b (w.alloc (.cells #[.int .i64 8, .int .i64 lo, .int .i64 hi, .slice an nn cn, .slice ap np cp, .slice ar nr cr] 26)) v w' l' → _) := hid_of (fun w' l' k => wr_box h _ _ _ _ _ _ k)
  have HE : Hid (encL t = Wr.enc 8 ++ nsE t.ns) := hid_of (by
    rw [encL_k, hk, if_neg (by decide : ¬((8 : Int) = 2 ∨ (8 : Int) = 3)), if_pos (by decide : (8 : Int) = 4 ∨ (8 : Int) = 8)]
    rfl)
  have HL : Hid (l.length + (Wr.enc 8).length + (nsE t.ns).length ≤ 60000000000000) := hid_of (by
    have h1 := hl
    rw [HE.out, List.length_append] at h1
    omega)
  have C0 := hid_of (show Calls Try.prog 45 #[.pointer (some ⟨b, 0, none⟩), .int .u64 8] _ _ from uint_wk 8 KA.out (by omega) (by omega))
  have CN : Hid (∀ w1, WK w0.heap.size b (w.alloc (.cells #[.int .i64 8, .int .i64 lo, .int .i64 hi, .slice an nn cn, .slice ap np cp, .slice ar nr cr] 26)) v w1 (l ++ Wr.enc 8) → _) := hid_of (fun w1 k => wn_wk k HBA.out H.n hN.nm (by have := hN.nl; omega) (by have := HL.out; simp only [List.length_append] at this ⊢; omega))
  clear H hok hb0 hb h hl IH hk hN
  go_enter Try.func21, Try.ntmps21
  go_wp2_with (first
    | (go_at_call 45; ((with_reducible refine (C0.out).mono ?_); (rintro e w1 ⟨rfl, q1⟩)); have K1 := hid_of q1; obtain ⟨a0, a1, a2, a3, a4, a5⟩ := HBX.out w1 _ q1; clear q1)
    | (go_at_call 47; ((with_reducible refine (CN.out w1 K1.out).mono ?_); (rintro e w2 ⟨rfl, q1⟩)); have K2 := hid_of q1; obtain ⟨d0, d1, d2, d3, d4, d5⟩ := HBX.out w2 _ q1; clear q1))
  go_end0
  have R := K2.out
  exact ⟨rfl, by rw [HE.out]; have := R.of_alloc hBW; simpa only [List.append_assoc, List.append_nil] using this⟩
theorem wr_5 (H : LO w0 5 lo hi an nn cn ap np cp ar nr cr t) (hok : Okay t) (hb0 : Below w0.heap.size w0 w) (hb : w0.heap.size ≤ b) (h : Wr.Wst w0.heap.size b w v l) (hl : l.length + (encL t).length ≤ 60000000000000) (IH : ∀ p ∈ t.ps, WP w0 b p) :
    Calls Try.prog 21 #[.pointer (some ⟨b, 0, none⟩), .agg #[.int .i64 5, .int .i64 lo, .int .i64 hi, .slice an nn cn, .slice ap np cp, .slice ar nr cr]] w fun e w' => e = .returned (.tuple #[]) ∧ WK w0.heap.size b w v w' (l ++ encL t) := by
  have hlp := H.lp
  have hpn : t.ps.length = 1 := shape_5 hok.node.shape H.hk.symm
  obtain ⟨p0, hp0⟩ : ∃ p, t.ps[0]? = some p := ⟨_, List.getElem?_eq_getElem (by omega)⟩
  obtain ⟨g, o, pk0, plo0, phi0, pan0, pnn0, pcn0, pap0, pnp0, pcp0, par0, pnr0, pcr0, rfl, PO0, PC0⟩ := H.p.get hp0
  have hk : t.k = 5 := H.hk.symm
  have hN := hok.node
  have hBW := hb0.size
  have HBA := hid_of (hb0.trans ((bel_alloc w (.cells #[.int .i64 5, .int .i64 lo, .int .i64 hi, .slice an nn cn, .slice (some ⟨g, o, none⟩) np cp, .slice ar nr cr] 26)).mono hb0.size))
  have KA := hid_of (WK.start (h.alloc (.cells #[.int .i64 5, .int .i64 lo, .int .i64 hi, .slice an nn cn, .slice (some ⟨g, o, none⟩) np cp, .slice ar nr cr] 26)) hb (Nat.le_trans hBW (by simp)))
  have HBX : Hid (∀ w' l', WK w0.heap.size b (w.alloc (.cells #[.int .i64 5, .int .i64 lo, .int .i64 hi, .slice an nn cn, .slice (some ⟨g, o, none⟩) np cp, .slice ar nr cr] 26)) v w' l' → _) := hid_of (fun w' l' k => wr_box h _ _ _ _ _ _ k)
  have HE : Hid (encL t = Wr.enc 5 ++ (nsE t.ns ++ encL p0)) := hid_of (by
    have e : t.ps = [p0] := one_of hpn hp0
    rw [encL_k, hk, if_neg (by decide : ¬((5 : Int) = 2 ∨ (5 : Int) = 3)), if_neg (by decide : ¬((5 : Int) = 4 ∨ (5 : Int) = 8)), if_pos (by decide : (5 : Int) = 5), e, encLs_cons, encLs_nil, List.append_nil]
    rfl)
  have HL : Hid (l.length + (Wr.enc 5).length + ((nsE t.ns ++ encL p0)).length ≤ 60000000000000) := hid_of (by
    have h1 := hl
    rw [HE.out, List.length_append] at h1
    omega)
  have C0 := hid_of (show Calls Try.prog 45 #[.pointer (some ⟨b, 0, none⟩), .int .u64 5] _ _ from uint_wk 5 KA.out (by omega) (by omega))
  have CN : Hid (∀ w1, WK w0.heap.size b (w.alloc (.cells #[.int .i64 5, .int .i64 lo, .int .i64 hi, .slice an nn cn, .slice (some ⟨g, o, none⟩) np cp, .slice ar nr cr] 26)) v w1 (l ++ Wr.enc 5) → _) := hid_of (fun w1 k => wn_wk k HBA.out H.n hN.nm (by have := hN.nl; omega) (by have := HL.out; simp only [List.length_append] at this ⊢; omega))
  have HP0 : Hid (∀ w' l', WK w0.heap.size b (w.alloc (.cells #[.int .i64 5, .int .i64 lo, .int .i64 hi, .slice an nn cn, .slice (some ⟨g, o, none⟩) np cp, .slice ar nr cr] 26)) v w' l' → w'.cell? ⟨g, o, none⟩ = some (.int .i64 pk0) ∧ w'.cell? ⟨g, o + 1, none⟩ = some (.int .i64 plo0) ∧ w'.cell? ⟨g, o + 2, none⟩ = some (.int .i64 phi0) ∧ w'.cell? ⟨g, o + 3, none⟩ = some (.slice pan0 pnn0 pcn0) ∧ w'.cell? ⟨g, o + 4, none⟩ = some (.slice pap0 pnp0 pcp0) ∧ w'.cell? ⟨g, o + 5, none⟩ = some (.slice par0 pnr0 pcr0)) := hid_of (fun w' l' k => by
    have := PC0 w' (HBA.out.trans (k.bel.mono (Nat.le_refl _)))
    simpa using this)
  have CW0 : Hid (∀ w2, WK w0.heap.size b (w.alloc (.cells #[.int .i64 5, .int .i64 lo, .int .i64 hi, .slice an nn cn, .slice (some ⟨g, o, none⟩) np cp, .slice ar nr cr] 26)) v w2 (l ++ Wr.enc 5 ++ nsE t.ns) → _) := hid_of (fun w2 k => wp_wk (IH p0 (List.mem_of_getElem? hp0)) PO0 k HBA.out (by have := HL.out; simp only [List.length_append] at this ⊢; omega))
  have hnp : 0 < np := by omega
  have hcp := (LDs.len H.p).2
  clear PO0 PC0 hp0 hpn hlp
  clear H hok hb0 hb h hl IH hk hN
  go_enter Try.func21, Try.ntmps21
  go_wp2_with (first
    | (go_at_call 45; ((with_reducible refine (C0.out).mono ?_); (rintro e w1 ⟨rfl, q1⟩)); have K1 := hid_of q1; obtain ⟨a0, a1, a2, a3, a4, a5⟩ := HBX.out w1 _ q1; clear q1)
    | (go_at_call 47; ((with_reducible refine (CN.out w1 K1.out).mono ?_); (rintro e w2 ⟨rfl, q1⟩)); have K2 := hid_of q1; obtain ⟨d0, d1, d2, d3, d4, d5⟩ := HBX.out w2 _ q1; obtain ⟨r0, r1, r2, r3, r4, r5⟩ := HP0.out w2 _ q1; clear q1)
    | (go_at_call 21; ((with_reducible refine (CW0.out w2 K2.out).mono ?_); (rintro e w3 ⟨rfl, q1⟩)); have K3 := hid_of q1; obtain ⟨e0, e1, e2, e3, e4, e5⟩ := HBX.out w3 _ q1; clear q1))
  go_end0
  have R := K3.out
  exact ⟨rfl, by rw [HE.out]; have := R.of_alloc hBW; simpa only [List.append_assoc, List.append_nil] using this⟩
theorem wr_7 (H : LO w0 7 lo hi an nn cn ap np cp ar nr cr t) (hok : Okay t) (hb0 : Below w0.heap.size w0 w) (hb : w0.heap.size ≤ b) (h : Wr.Wst w0.heap.size b w v l) (hl : l.length + (encL t).length ≤ 60000000000000) (IH : ∀ p ∈ t.ps, WP w0 b p) :
    Calls Try.prog 21 #[.pointer (some ⟨b, 0, none⟩), .agg #[.int .i64 7, .int .i64 lo, .int .i64 hi, .slice an nn cn, .slice ap np cp, .slice ar nr cr]] w fun e w' => e = .returned (.tuple #[]) ∧ WK w0.heap.size b w v w' (l ++ encL t) := by
  have hlp := H.lp
  have hpn : t.ps.length = 2 := shape_7 hok.node.shape H.hk.symm
  obtain ⟨p0, hp0⟩ : ∃ p, t.ps[0]? = some p := ⟨_, List.getElem?_eq_getElem (by omega)⟩
  obtain ⟨g, o, pk0, plo0, phi0, pan0, pnn0, pcn0, pap0, pnp0, pcp0, par0, pnr0, pcr0, rfl, PO0, PC0⟩ := H.p.get hp0
  obtain ⟨p1, hp1⟩ : ∃ p, t.ps[1]? = some p := ⟨_, List.getElem?_eq_getElem (by omega)⟩
  obtain ⟨g', o', pk1, plo1, phi1, pan1, pnn1, pcn1, pap1, pnp1, pcp1, par1, pnr1, pcr1, e1, PO1, PC1⟩ := H.p.get hp1
  cases e1
  have hk : t.k = 7 := H.hk.symm
  have hN := hok.node
  have hBW := hb0.size
  have HBA := hid_of (hb0.trans ((bel_alloc w (.cells #[.int .i64 7, .int .i64 lo, .int .i64 hi, .slice an nn cn, .slice (some ⟨g, o, none⟩) np cp, .slice ar nr cr] 26)).mono hb0.size))
  have KA := hid_of (WK.start (h.alloc (.cells #[.int .i64 7, .int .i64 lo, .int .i64 hi, .slice an nn cn, .slice (some ⟨g, o, none⟩) np cp, .slice ar nr cr] 26)) hb (Nat.le_trans hBW (by simp)))
  have HBX : Hid (∀ w' l', WK w0.heap.size b (w.alloc (.cells #[.int .i64 7, .int .i64 lo, .int .i64 hi, .slice an nn cn, .slice (some ⟨g, o, none⟩) np cp, .slice ar nr cr] 26)) v w' l' → _) := hid_of (fun w' l' k => wr_box h _ _ _ _ _ _ k)
  have HE : Hid (encL t = Wr.enc 7 ++ (encL p0 ++ encL p1)) := hid_of (by
    have e : t.ps = [p0, p1] := two_of hpn hp0 hp1
    rw [encL_k, hk, if_neg (by decide : ¬((7 : Int) = 2 ∨ (7 : Int) = 3)), if_neg (by decide : ¬((7 : Int) = 4 ∨ (7 : Int) = 8)), if_neg (by decide : ¬((7 : Int) = 5)), if_neg (by decide : ¬((7 : Int) = 6)), if_pos (by decide : (7 : Int) = 7), e, encLs_cons, encLs_cons, encLs_nil, List.append_nil]
    rfl)
  have HL : Hid (l.length + (Wr.enc 7).length + ((encL p0 ++ encL p1)).length ≤ 60000000000000) := hid_of (by
    have h1 := hl
    rw [HE.out, List.length_append] at h1
    omega)
  have C0 := hid_of (show Calls Try.prog 45 #[.pointer (some ⟨b, 0, none⟩), .int .u64 7] _ _ from uint_wk 7 KA.out (by omega) (by omega))
  have HP0 : Hid (∀ w' l', WK w0.heap.size b (w.alloc (.cells #[.int .i64 7, .int .i64 lo, .int .i64 hi, .slice an nn cn, .slice (some ⟨g, o, none⟩) np cp, .slice ar nr cr] 26)) v w' l' → w'.cell? ⟨g, o, none⟩ = some (.int .i64 pk0) ∧ w'.cell? ⟨g, o + 1, none⟩ = some (.int .i64 plo0) ∧ w'.cell? ⟨g, o + 2, none⟩ = some (.int .i64 phi0) ∧ w'.cell? ⟨g, o + 3, none⟩ = some (.slice pan0 pnn0 pcn0) ∧ w'.cell? ⟨g, o + 4, none⟩ = some (.slice pap0 pnp0 pcp0) ∧ w'.cell? ⟨g, o + 5, none⟩ = some (.slice par0 pnr0 pcr0)) := hid_of (fun w' l' k => by
    have := PC0 w' (HBA.out.trans (k.bel.mono (Nat.le_refl _)))
    simpa using this)
  have HP1 : Hid (∀ w' l', WK w0.heap.size b (w.alloc (.cells #[.int .i64 7, .int .i64 lo, .int .i64 hi, .slice an nn cn, .slice (some ⟨g, o, none⟩) np cp, .slice ar nr cr] 26)) v w' l' → w'.cell? ⟨g, o + 6, none⟩ = some (.int .i64 pk1) ∧ w'.cell? ⟨g, o + 6 + 1, none⟩ = some (.int .i64 plo1) ∧ w'.cell? ⟨g, o + 6 + 2, none⟩ = some (.int .i64 phi1) ∧ w'.cell? ⟨g, o + 6 + 3, none⟩ = some (.slice pan1 pnn1 pcn1) ∧ w'.cell? ⟨g, o + 6 + 4, none⟩ = some (.slice pap1 pnp1 pcp1) ∧ w'.cell? ⟨g, o + 6 + 5, none⟩ = some (.slice par1 pnr1 pcr1)) := hid_of (fun w' l' k => by
    have := PC1 w' (HBA.out.trans (k.bel.mono (Nat.le_refl _)))
    simpa using this)
  have CW0 : Hid (∀ w1, WK w0.heap.size b (w.alloc (.cells #[.int .i64 7, .int .i64 lo, .int .i64 hi, .slice an nn cn, .slice (some ⟨g, o, none⟩) np cp, .slice ar nr cr] 26)) v w1 (l ++ Wr.enc 7) → _) := hid_of (fun w2 k => wp_wk (IH p0 (List.mem_of_getElem? hp0)) PO0 k HBA.out (by have := HL.out; simp only [List.length_append] at this ⊢; omega))
  have CW1 : Hid (∀ w1, WK w0.heap.size b (w.alloc (.cells #[.int .i64 7, .int .i64 lo, .int .i64 hi, .slice an nn cn, .slice (some ⟨g, o, none⟩) np cp, .slice ar nr cr] 26)) v w1 (l ++ Wr.enc 7 ++ encL p0) → _) := hid_of (fun w2 k => wp_wk (IH p1 (List.mem_of_getElem? hp1)) PO1 k HBA.out (by have := HL.out; simp only [List.length_append] at this ⊢; omega))
  have hnp : 0 < np := by omega
  have hnp1 : 1 < np := by omega
  have hcp := (LDs.len H.p).2
  clear PO0 PC0 hp0 PO1 PC1 hp1 hpn hlp
  clear H hok hb0 hb h hl IH hk hN
  go_enter Try.func21, Try.ntmps21
  go_wp2_with (first
    | (go_at_call 45; ((with_reducible refine (C0.out).mono ?_); (rintro e w1 ⟨rfl, q1⟩)); have K1 := hid_of q1; obtain ⟨a0, a1, a2, a3, a4, a5⟩ := HBX.out w1 _ q1; obtain ⟨r0, r1, r2, r3, r4, r5⟩ := HP0.out w1 _ q1; clear q1)
    | (go_at_call 21; ((with_reducible refine (CW0.out w1 K1.out).mono ?_); (rintro e w2 ⟨rfl, q1⟩)); have K2 := hid_of q1; obtain ⟨e0, e1, e2, e3, e4, e5⟩ := HBX.out w2 _ q1; obtain ⟨s0, s1, s2, s3, s4, s5⟩ := HP1.out w2 _ q1; clear q1)
    | (go_at_call 21; ((with_reducible refine (CW1.out w2 K2.out).mono ?_); (rintro e w3 ⟨rfl, q1⟩)); have K3 := hid_of q1; obtain ⟨e0, e1, e2, e3, e4, e5⟩ := HBX.out w3 _ q1; clear q1))
  go_end0
  have R := K3.out
  exact ⟨rfl, by rw [HE.out]; have := R.of_alloc hBW; simpa only [List.append_assoc, List.append_nil] using this⟩
theorem wr_6 (H : LO w0 6 lo hi an nn cn ap np cp ar nr cr t) (hok : Okay t) (hb0 : Below w0.heap.size w0 w) (hb : w0.heap.size ≤ b) (h : Wr.Wst w0.heap.size b w v l) (hl : l.length + (encL t).length ≤ 60000000000000) (IH : ∀ p ∈ t.ps, WP w0 b p) :
    Calls Try.prog 21 #[.pointer (some ⟨b, 0, none⟩), .agg #[.int .i64 6, .int .i64 lo, .int .i64 hi, .slice an nn cn, .slice ap np cp, .slice ar nr cr]] w fun e w' => e = .returned (.tuple #[]) ∧ WK w0.heap.size b w v w' (l ++ encL t) := by
  have hps := shape_6 hok.node.shape H.hk.symm
  have HPT : Hid (∀ j, j < nn → ∃ gn on x bx g o pk plo phi pan pnn pcn pap pnp pcp par pnr pcr p, an = some ⟨gn, on, none⟩ ∧ ap = some ⟨g, o, none⟩ ∧ (t.ns[j]? = some x ∧ t.ps[j]? = some p ∧ x.length ≤ 16 ∧ bx = ba x) ∧ LO w0 pk plo phi pan pnn pcn pap pnp pcp par pnr pcr p ∧ WP w0 b p ∧ nn ≤ cn ∧ np ≤ cp ∧
      Hid (∀ w', Below w0.heap.size w0 w' → w'.cell? ⟨gn, on + j, none⟩ = some (.string bx) ∧ w'.cell? ⟨g, o + j * 6, none⟩ = some (.int .i64 pk) ∧ w'.cell? ⟨g, o + j * 6 + 1, none⟩ = some (.int .i64 plo) ∧ w'.cell? ⟨g, o + j * 6 + 2, none⟩ = some (.int .i64 phi) ∧ w'.cell? ⟨g, o + j * 6 + 3, none⟩ = some (.slice pan pnn pcn) ∧ w'.cell? ⟨g, o + j * 6 + 4, none⟩ = some (.slice pap pnp pcp) ∧ w'.cell? ⟨g, o + j * 6 + 5, none⟩ = some (.slice par pnr pcr))) := hid_of (fun j hj => by
    have hln := H.ln
    obtain ⟨x, hx⟩ : ∃ x, t.ns[j]? = some x := ⟨_, List.getElem?_eq_getElem (by omega)⟩
    obtain ⟨p, hp⟩ : ∃ p, t.ps[j]? = some p := ⟨_, List.getElem?_eq_getElem (by omega)⟩
    obtain ⟨g, o, pk, plo, phi, pan, pnn, pcn, pap, pnp, pcp, par, pnr, pcr, e1, PO, PC⟩ := H.p.get hp
    obtain ⟨_, q1, q2, q3⟩ := rds_open H.n
    obtain ⟨gn, on, e2, hg, hc⟩ := q3.resolve_left (fun e => by rw [e] at hx; simp at hx)
    refine ⟨gn, on, x, _, g, o, pk, plo, phi, pan, pnn, pcn, pap, pnp, pcp, par, pnr, pcr, p, e2, e1, ⟨hx, hp, hok.node.nm x (List.mem_of_getElem? hx), rfl⟩, PO, IH p (List.mem_of_getElem? hp), q1, (LDs.len H.p).2.1, hid_of fun w' hw => ⟨(hw.cell (p := ⟨gn, on + j, none⟩) hg).trans (hc j x hx), PC w' hw⟩⟩)
  have HNN := hid_of H.ln
  have HNP := hid_of H.lp
  have hnn8 : nn ≤ 8 := by have := hok.node.pl H.hk.symm; have := H.ln; omega
  have hnpn : np = nn := by have := H.lp; have := H.ln; omega
  have hk : t.k = 6 := H.hk.symm
  have hN := hok.node
  have hBW := hb0.size
  have HBA := hid_of (hb0.trans ((bel_alloc w (.cells #[.int .i64 6, .int .i64 lo, .int .i64 hi, .slice an nn cn, .slice ap np cp, .slice ar nr cr] 26)).mono hb0.size))
  have KA := hid_of (WK.start (h.alloc (.cells #[.int .i64 6, .int .i64 lo, .int .i64 hi, .slice an nn cn, .slice ap np cp, .slice ar nr cr] 26)) hb (Nat.le_trans hBW (by simp)))
  have HBX : Hid (∀ w' l', WK w0.heap.size b (w.alloc (.cells #[.int .i64 6, .int .i64 lo, .int .i64 hi, .slice an nn cn, .slice ap np cp, .slice ar nr cr] 26)) v w' l' → _) := hid_of (fun w' l' k => wr_box h _ _ _ _ _ _ k)
  have HE : Hid (encL t = Wr.enc 6 ++ (Wr.enc nn ++ encPs t.ns t.ps)) := hid_of (by
    rw [encL_k, hk, if_neg (by decide : ¬((6 : Int) = 2 ∨ (6 : Int) = 3)), if_neg (by decide : ¬((6 : Int) = 4 ∨ (6 : Int) = 8)), if_neg (by decide : ¬((6 : Int) = 5)), if_pos (by decide : (6 : Int) = 6), ← H.ln]
    rfl)
  have HL : Hid (l.length + (Wr.enc 6).length + ((Wr.enc nn ++ encPs t.ns t.ps)).length ≤ 60000000000000) := hid_of (by
    have h1 := hl
    rw [HE.out, List.length_append] at h1
    omega)
  have C0 := hid_of (show Calls Try.prog 45 #[.pointer (some ⟨b, 0, none⟩), .int .u64 6] _ _ from uint_wk 6 KA.out (by omega) (by omega))
  have C2 : Hid (∀ w1, WK w0.heap.size b (w.alloc (.cells #[.int .i64 6, .int .i64 lo, .int .i64 hi, .slice an nn cn, .slice ap np cp, .slice ar nr cr] 26)) v w1 (l ++ Wr.enc 6) → _) := hid_of (fun w1 k => uint_wk nn k (by omega) (by have := HL.out; simp only [List.length_append] at this ⊢; omega))
  subst hnpn
  clear H hok hb0 hb h hl IH hk hN hps
  go_enter Try.func21, Try.ntmps21
  go_wp2_with (first
    | (go_at_call 45; ((with_reducible refine (C0.out).mono ?_); (rintro e w1 ⟨rfl, q1⟩)); have K1 := hid_of q1; obtain ⟨a0, a1, a2, a3, a4, a5⟩ := HBX.out w1 _ q1; clear q1)
    | (go_at_call 45; ((with_reducible refine (C2.out w1 K1.out).mono ?_); (rintro e w2 ⟨rfl, q1⟩)); have K2 := hid_of q1; obtain ⟨d0, d1, d2, d3, d4, d5⟩ := HBX.out w2 _ q1; clear q1))
  go_loopw [4, 5, 56] (fun v4 v5 iv wr => ∃ (j : Nat) (x4 x5 : Value), v4 = x4 ∧ v5 = x5 ∧ j ≤ np ∧ iv = .int .i64 j ∧ Hid (WK w0.heap.size b (w.alloc (.cells #[.int .i64 6, .int .i64 lo, .int .i64 hi, .slice an np cn, .slice ap np cp, .slice ar nr cr] 26)) v wr (l ++ Wr.enc 6 ++ Wr.enc np ++ encPs (t.ns.take j) (t.ps.take j)))) (fun _ _ iv _ => np - (intOf iv).toNat)
  case atStart => exact ⟨0, _, _, rfl, rfl, Nat.zero_le _, rfl, hid_of (by rw [List.take_zero, List.take_zero, encPs_nil, List.append_nil]; exact K2.out)⟩
  case round =>
    obtain ⟨j, x4, x5, rfl, rfl, hj, rfl, hk⟩ := hrel
    by_cases hlt : j < np
    · have hd : decide (j < np) = true := by simp; omega
      obtain ⟨gn, on, x, bx, g, o, pk, plo, phi, pan, pnn, pcn, pap, pnp, pcp, par, pnr, pcr, p, rfl, rfl, hxp, PO, IHp, hcn, hcp, HC⟩ := HPT.out j hlt
      have HXP := hid_of hxp
      have HBL : Hid (l.length + (Wr.enc 6).length + (Wr.enc np).length + ((encPs (t.ns.take j) (t.ps.take j)).length + ((txE x).length + (encL p).length)) ≤ 60000000000000) := hid_of (by
        have h1 := HL.out
        have h2 := encPs_pre t.ns t.ps (j + 1) (by have := HNN.out; omega) (by have := HNN.out; have := HNP.out; omega)
        rw [encPs_snoc _ _ _ _ _ HXP.out.1 HXP.out.2.1] at h2
        simp only [List.length_append] at h1 h2 ⊢
        omega)
      have CT := hid_of (text_wk x bx HXP.out.2.2.2 hk.out HXP.out.2.2.1 (by have := HBL.out; simp only [List.length_append]; omega))
      have CW : Hid (∀ w3, WK w0.heap.size b (w.alloc (.cells #[.int .i64 6, .int .i64 lo, .int .i64 hi, .slice (some ⟨gn, on, none⟩) np cn, .slice (some ⟨g, o, none⟩) np cp, .slice ar nr cr] 26)) v w3 (l ++ Wr.enc 6 ++ Wr.enc np ++ encPs (t.ns.take j) (t.ps.take j) ++ txE x) → _) := hid_of (fun w3 k => wp_wk IHp PO k HBA.out (by have := HBL.out; simp only [List.length_append] at this ⊢; omega))
      obtain ⟨y0, y1, y2, y3, y4, y5⟩ := HBX.out _ _ hk.out
      obtain ⟨z0, z1, z2, z3, z4, z5, z6⟩ := HC.out _ (HBA.out.trans (hk.out.bel.mono (Nat.le_refl _)))
      have HNX : Hid (encPs (t.ns.take (j + 1)) (t.ps.take (j + 1)) = encPs (t.ns.take j) (t.ps.take j) ++ (txE x ++ encL p)) := hid_of (encPs_snoc _ _ _ _ _ HXP.out.1 HXP.out.2.1)
      clear hxp
      go_wp2_with (first
        | (go_at_call 48; ((with_reducible refine (CT.out).mono ?_); (rintro e w3 ⟨rfl, q1⟩)); have K3 := hid_of q1; obtain ⟨e0, e1, e2, e3, e4, e5⟩ := HBX.out w3 _ q1; obtain ⟨u0, u1, u2, u3, u4, u5, u6⟩ := HC.out w3 (HBA.out.trans (q1.bel.mono (Nat.le_refl _))); clear q1)
        | (go_at_call 21; ((with_reducible refine (CW.out w3 K3.out).mono ?_); (rintro e w4 ⟨rfl, q1⟩)); have K4 := hid_of q1; clear q1))
      go_roundw
      case rel => exact ⟨j + 1, _, _, rfl, rfl, by omega, by go_num, hid_of (by rw [HNX.out]; have := K4.out; simpa only [List.append_assoc] using this)⟩
      case measure => simp [intOf]; omega
    · have hd : decide (j < np) = false := by simp; omega
      have HF : Hid (WK w0.heap.size b w v wr (l ++ encL t)) := hid_of (by
        have h1 := hk.out.of_alloc hBW
        rw [List.take_of_length_le (by have := HNN.out; omega), List.take_of_length_le (by have := HNP.out; omega)] at h1
        rw [HE.out]
        simpa only [List.append_assoc] using h1)
      go_wp2
      go_end0
      exact ⟨rfl, HF.out⟩
theorem wr_10 (H : LO w0 10 lo hi an nn cn ap np cp ar nr cr t) (hok : Okay t) (hb0 : Below w0.heap.size w0 w) (hb : w0.heap.size ≤ b) (h : Wr.Wst w0.heap.size b w v l) (hl : l.length + (encL t).length ≤ 60000000000000) (IH : ∀ p ∈ t.ps, WP w0 b p) :
    Calls Try.prog 21 #[.pointer (some ⟨b, 0, none⟩), .agg #[.int .i64 10, .int .i64 lo, .int .i64 hi, .slice an nn cn, .slice ap np cp, .slice ar nr cr]] w fun e w' => e = .returned (.tuple #[]) ∧ WK w0.heap.size b w v w' (l ++ encL t) := by
  have HRT : Hid (∀ j, j < nr → ∃ gr og a n c bx r, ar = some ⟨gr, og, none⟩ ∧ (t.rs[j]? = some r ∧ bx = ba r.2 ∧ SmR r ∧ Rd w0 (.slice a n c) (ss r.1)) ∧ nr ≤ cr ∧ cr ≤ 9223372036854775807 ∧ Hid (∀ w', Below w0.heap.size w0 w' → w'.cell? ⟨gr, og + j * 2, none⟩ = some (.slice a n c) ∧ w'.cell? ⟨gr, og + j * 2 + 1, none⟩ = some (.string bx))) := hid_of (fun j hj => by
    have hlr := H.lr
    obtain ⟨rl, q1, q2, q3⟩ := H.r
    obtain ⟨c1, c2, c3⟩ := q1.cut
    obtain ⟨y, hy⟩ : ∃ y, rl[j]? = some y := ⟨_, List.getElem?_eq_getElem (by omega)⟩
    obtain ⟨r, hr⟩ : ∃ r, t.rs[j]? = some r := ⟨_, List.getElem?_eq_getElem (by omega)⟩
    obtain ⟨k1, k2⟩ := q3 j y r hy hr
    obtain ⟨gr, og, e, d0, d1⟩ := q1.get hy
    obtain ⟨y1, y2⟩ := y
    simp only at k1 k2 d0 d1
    subst k2
    have k1' := k1
    obtain ⟨a, c, rfl, _⟩ := k1
    refine ⟨gr, og, a, _, c, _, r, e, ⟨hr, rfl, hok.node.ru r (List.mem_of_getElem? hr), k1'⟩, c2, c3, hid_of fun w' hw => ⟨(hw.cell (p := ⟨gr, og + j * 2, none⟩) (World.block_lt_of_cell? _ _ d0)).trans d0, (hw.cell (p := ⟨gr, og + j * 2 + 1, none⟩) (World.block_lt_of_cell? _ _ d1)).trans d1⟩⟩)
  have HNR := hid_of H.lr
  have hnr32 : nr ≤ 32 := by have := hok.node.rl; have := H.lr; omega
  have HHB := hid_of hb
  have hk : t.k = 10 := H.hk.symm
  have hN := hok.node
  have hBW := hb0.size
  have HBA := hid_of (hb0.trans ((bel_alloc w (.cells #[.int .i64 10, .int .i64 lo, .int .i64 hi, .slice an nn cn, .slice ap np cp, .slice ar nr cr] 26)).mono hb0.size))
  have KA := hid_of (WK.start (h.alloc (.cells #[.int .i64 10, .int .i64 lo, .int .i64 hi, .slice an nn cn, .slice ap np cp, .slice ar nr cr] 26)) hb (Nat.le_trans hBW (by simp)))
  have HBX : Hid (∀ w' l', WK w0.heap.size b (w.alloc (.cells #[.int .i64 10, .int .i64 lo, .int .i64 hi, .slice an nn cn, .slice ap np cp, .slice ar nr cr] 26)) v w' l' → _) := hid_of (fun w' l' k => wr_box h _ _ _ _ _ _ k)
  have HE : Hid (encL t = Wr.enc 10 ++ (nsE t.ns ++ (Wr.enc nr ++ t.rs.flatMap ruE1))) := hid_of (by
    rw [encL_k, hk, if_neg (by decide : ¬((10 : Int) = 2 ∨ (10 : Int) = 3)), if_neg (by decide : ¬((10 : Int) = 4 ∨ (10 : Int) = 8)), if_neg (by decide : ¬((10 : Int) = 5)), if_neg (by decide : ¬((10 : Int) = 6)), if_neg (by decide : ¬((10 : Int) = 7)), if_pos (by decide : (10 : Int) = 10)]
    rw [show rsE t.rs = Wr.enc nr ++ t.rs.flatMap ruE1 by rw [H.lr]; rfl]
    rfl)
  have HL : Hid (l.length + (Wr.enc 10).length + ((nsE t.ns ++ (Wr.enc nr ++ t.rs.flatMap ruE1))).length ≤ 60000000000000) := hid_of (by
    have h1 := hl
    rw [HE.out, List.length_append] at h1
    omega)
  have C0 := hid_of (show Calls Try.prog 45 #[.pointer (some ⟨b, 0, none⟩), .int .u64 10] _ _ from uint_wk 10 KA.out (by omega) (by omega))
  have CN : Hid (∀ w1, WK w0.heap.size b (w.alloc (.cells #[.int .i64 10, .int .i64 lo, .int .i64 hi, .slice an nn cn, .slice ap np cp, .slice ar nr cr] 26)) v w1 (l ++ Wr.enc 10) → _) := hid_of (fun w1 k => wn_wk k HBA.out H.n hN.nm (by have := hN.nl; omega) (by have := HL.out; simp only [List.length_append] at this ⊢; omega))
  have C2 : Hid (∀ w2, WK w0.heap.size b (w.alloc (.cells #[.int .i64 10, .int .i64 lo, .int .i64 hi, .slice an nn cn, .slice ap np cp, .slice ar nr cr] 26)) v w2 (l ++ Wr.enc 10 ++ nsE t.ns) → _) := hid_of (fun w2 k => uint_wk nr k (by omega) (by have := HL.out; simp only [List.length_append] at this ⊢; omega))
  clear H hok hb0 hb h hl IH hk hN
  go_enter Try.func21, Try.ntmps21
  go_wp2_with (first
    | (go_at_call 45; ((with_reducible refine (C0.out).mono ?_); (rintro e w1 ⟨rfl, q1⟩)); have K1 := hid_of q1; obtain ⟨a0, a1, a2, a3, a4, a5⟩ := HBX.out w1 _ q1; clear q1)
    | (go_at_call 47; ((with_reducible refine (CN.out w1 K1.out).mono ?_); (rintro e w2 ⟨rfl, q1⟩)); have K2 := hid_of q1; obtain ⟨d0, d1, d2, d3, d4, d5⟩ := HBX.out w2 _ q1; clear q1)
    | (go_at_call 45; ((with_reducible refine (C2.out w2 K2.out).mono ?_); (rintro e w3 ⟨rfl, q1⟩)); have K3 := hid_of q1; obtain ⟨g0, g1, g2, g3, g4, g5⟩ := HBX.out w3 _ q1; clear q1))
  go_loopw [7, 101] (fun v7 iv wr => ∃ (j : Nat) (x7 : Value), v7 = x7 ∧ j ≤ nr ∧ iv = .int .i64 j ∧ Hid (WK w0.heap.size b (w.alloc (.cells #[.int .i64 10, .int .i64 lo, .int .i64 hi, .slice an nn cn, .slice ap np cp, .slice ar nr cr] 26)) v wr (l ++ Wr.enc 10 ++ nsE t.ns ++ Wr.enc nr ++ (t.rs.take j).flatMap ruE1))) (fun _ iv _ => nr - (intOf iv).toNat)
  case atStart => exact ⟨0, _, rfl, Nat.zero_le _, rfl, hid_of (by rw [List.take_zero]; simpa using K3.out)⟩
  case round =>
    obtain ⟨j, x7, rfl, hj, rfl, hk⟩ := hrel
    by_cases hlt : j < nr
    · have hd : decide (j < nr) = true := by simp; omega
      obtain ⟨gr, og, a, n, c, bx, r, rfl, hxr, hcr, hcr9, HC⟩ := HRT.out j hlt
      have HXR := hid_of hxr
      have HBR : Hid (Below w0.heap.size w0 wr) := hid_of (HBA.out.trans (hk.out.bel.mono (Nat.le_refl _)))
      obtain ⟨z0, z1⟩ := HC.out _ HBR.out
      obtain ⟨v2, hv2, hk2, ho2⟩ := hk.out.ex
      have HV2 := hid_of hv2
      have HST := hid_of (And.intro hk2 ho2)
      have HBB : Hid (Below w0.heap.size w0 (wr.alloc (.cells #[.slice a n c, .string bx] 58))) := hid_of (HBR.out.trans ((bel_alloc wr _).mono HBR.out.size))
      have KB := hid_of (WK.start (hv2.alloc (.cells #[.slice a n c, .string bx] 58)) HHB.out (HBB.out.size))
      have HBL : Hid (l.length + (Wr.enc 10).length + (nsE t.ns).length + (Wr.enc nr).length + (((t.rs.take j).flatMap ruE1).length + ((nsE r.1).length + (txE r.2).length)) ≤ 60000000000000) := hid_of (by
        have h1 := HL.out
        have h2 := flat_take ruE1 t.rs (j + 1)
        rw [take_snocL HXR.out.1, List.flatMap_append, List.flatMap_singleton, List.length_append, show ruE1 r = nsE r.1 ++ txE r.2 from rfl, List.length_append] at h2
        simp only [List.length_append] at h1 h2 ⊢
        omega)
      have CN2 := hid_of (wn_wk KB.out HBB.out HXR.out.2.2.2 HXR.out.2.2.1.1.2 (by have := HXR.out.2.2.1.1.1; omega) (by have := HBL.out; simp only [List.length_append]; omega))
      have CT : Hid (∀ w5, WK w0.heap.size b (wr.alloc (.cells #[.slice a n c, .string bx] 58)) v2 w5 (l ++ Wr.enc 10 ++ nsE t.ns ++ Wr.enc nr ++ (t.rs.take j).flatMap ruE1 ++ nsE r.1) → _) := hid_of (fun w5 k => text_wk r.2 bx HXR.out.2.1 k HXR.out.2.2.1.2 (by have := HBL.out; simp only [List.length_append]; omega))
      have HRB : Hid (∀ w' l', WK w0.heap.size b (wr.alloc (.cells #[.slice a n c, .string bx] 58)) v2 w' l' → w'.cell? ⟨wr.heap.size, 0, none⟩ = some (.slice a n c) ∧ w'.cell? ⟨wr.heap.size, 1, none⟩ = some (.string bx)) := hid_of (fun w' l' k => rule_box HV2.out _ _ k)
      have HNX : Hid ((t.rs.take (j + 1)).flatMap ruE1 = (t.rs.take j).flatMap ruE1 ++ (nsE r.1 ++ txE r.2)) := hid_of (by rw [take_snocL HXR.out.1, List.flatMap_append, List.flatMap_singleton]; rfl)
      clear hxr hv2 hk2 ho2
      go_wp2_with (first
        | (go_at_call 47; ((with_reducible refine (CN2.out).mono ?_); (rintro e w5 ⟨rfl, q1⟩)); have K5 := hid_of q1; obtain ⟨u0, u1⟩ := HRB.out w5 _ q1; clear q1)
        | (go_at_call 48; ((with_reducible refine (CT.out w5 K5.out).mono ?_); (rintro e w6 ⟨rfl, q1⟩)); have K6 := hid_of q1; clear q1))
      go_roundw
      case rel => exact ⟨j + 1, _, rfl, by omega, by go_num, hid_of (by
        have h6 := hk.out.step HV2.out HST.out.1 HST.out.2 (K6.out.of_alloc HBR.out.size)
        rw [HNX.out]
        simpa only [List.append_assoc] using h6)⟩
      case measure => simp [intOf]; omega
    · have hd : decide (j < nr) = false := by simp; omega
      have HF : Hid (WK w0.heap.size b w v wr (l ++ encL t)) := hid_of (by
        have h1 := hk.out.of_alloc hBW
        rw [List.take_of_length_le (by have := HNR.out; omega)] at h1
        rw [HE.out]
        simpa only [List.append_assoc] using h1)
      go_wp2
      go_end0
      exact ⟨rfl, HF.out⟩
end
theorem write_any (w0 : World) (b : Nat) : ∀ t, Okay t → WP w0 b t := by
  refine lat_ind ?_
  intro k lo hi ns ps rs ih hok
  have IH : ∀ p ∈ (Lat.mk k lo hi ns ps rs).ps, WP w0 b p := fun p hp => ih p hp (hok.part p hp)
  intro k' lo' hi' an nn cn ap np cp ar nr cr w v l H hb0 hb h hl
  have hk := hok.node.kk
  have e := H.hk
  have hk2 : 1 ≤ k' ∧ k' ≤ 10 := by rw [e]; exact hk
  rcases kinds k' with rfl | rfl | rfl | rfl | rfl | rfl | rfl | rfl | rfl | rfl | hx
  case inr.inr.inr.inr.inr.inr.inr.inr.inr.inr => omega
  · exact wr_1 b lo' hi' an nn cn ap np cp ar nr cr _ w0 w v l H hok hb0 hb h hl IH
  · exact wr_2 b lo' hi' an nn cn ap np cp ar nr cr _ w0 w v l H hok hb0 hb h hl IH
  · exact wr_3 b lo' hi' an nn cn ap np cp ar nr cr _ w0 w v l H hok hb0 hb h hl IH
  · exact wr_4 b lo' hi' an nn cn ap np cp ar nr cr _ w0 w v l H hok hb0 hb h hl IH
  · exact wr_5 b lo' hi' an nn cn ap np cp ar nr cr _ w0 w v l H hok hb0 hb h hl IH
  · exact wr_6 b lo' hi' an nn cn ap np cp ar nr cr _ w0 w v l H hok hb0 hb h hl IH
  · exact wr_7 b lo' hi' an nn cn ap np cp ar nr cr _ w0 w v l H hok hb0 hb h hl IH
  · exact wr_8 b lo' hi' an nn cn ap np cp ar nr cr _ w0 w v l H hok hb0 hb h hl IH
  · exact wr_9 b lo' hi' an nn cn ap np cp ar nr cr _ w0 w v l H hok hb0 hb h hl IH
  · exact wr_10 b lo' hi' an nn cn ap np cp ar nr cr _ w0 w v l H hok hb0 hb h hl IH
end Go.Proofs.Ytoogcafceghdjaa
