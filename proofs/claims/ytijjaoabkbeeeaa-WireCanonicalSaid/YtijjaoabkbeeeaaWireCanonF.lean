/- The walk of WireCanonical: the reads that fail or leave bytes. No condition. -/
import Derived.Test.YtijjaoabkbeeeaaWireCanonW
namespace Go.Proofs.Ytijjaoabkbeeeaa
open Go.RowKit

theorem Stand.same {w w6 : World} {b g off last box : Nat} {d : List Int} {cs : Array Value} (h : Rst w6 b g d off last 0 ∧ Below w.heap.size w w6 ∧ w.heap.size ≤ box) (hx : w6.heap[box]? = some (.cells cs 32 (0, 0))) : Stand w w6 b g box d off cs :=
  ⟨⟨last, h.1⟩, hx, h.2.1⟩
/-- The Reader, with whatever error, behind a store into another block. -/
theorem rst_set {w6 : World} {b g off last box j : Nat} {d : List Int} {err : Int} {u : Value} {cs0 : Array Value} (h : Rst w6 b g d off last err) (hx : w6.heap[box]? = some (.cells cs0 32 (0, 0))) : Rst (w6.setCell ⟨box, j, none⟩ u) b g d off last err := by
  have hnb : b ≠ box := fun e => by have := h.blk; rw [e, hx] at this; cases this
  have hng : g ≠ box := fun e => by have := h.row; rw [e, hx] at this; cases this
  exact h.same (Below.heap_setCell _ _ _ _ hnb) (Below.heap_setCell _ _ _ _ hng)
theorem rto_bel {w w1 w5 w6 : World} {b : Nat} {o : Obj} (h1 : Below w.heap.size w w1) (h5 : Below w1.heap.size w1 w5) (hb : w1.heap.size ≤ b) (h6 : Kept (fun k => k = b) (w5.alloc o) w6) :
    Below w.heap.size w w6 ∧ w.heap.size ≤ w5.heap.size := by
  have h15 := h1.trans (h5.mono h1.size)
  exact ⟨(h15.alloc h15.size o).trans (h6.below (by have := h15.size; simp; omega) (fun k hk => by have := h1.size; omega)), h15.size⟩

/-- The number that an Int is kept as. -/
def uN (n : Nat) : Nat := (unzig n % 18446744073709551616).toNat
theorem wrap_unzig (n : Nat) : IntKind.u64.wrap (unzig n) = ((uN n : Nat) : Int) := by rw [IntKind.wrap_u64]; unfold uN; omega
theorem sgn_uN (n : Nat) (h : n < 18446744073709551616) : sgn (uN n) = unzig n := by
  have : -9223372036854775808 ≤ unzig n ∧ unzig n ≤ 9223372036854775807 := by unfold unzig; split <;> omega
  unfold sgn wrap64 uN; omega
theorem rb1 (b g last : Nat) (d r : List Int) (w : World) (h : Rst w b g d 0 last 0) (hd : d = 1 :: r) :
    Calls Try.prog 22 #[.pointer (some ⟨b, 0, none⟩)] w fun e w' => e = .returned (.bool true) ∧ RTo w w' b g d 1 0 0 :=
  rbool_n b g 0 last 1 d r w h (by rw [hd]; rfl)
theorem rb0 (b g last : Nat) (d r : List Int) (w : World) (h : Rst w b g d 0 last 0) (hd : d = 0 :: r) :
    Calls Try.prog 22 #[.pointer (some ⟨b, 0, none⟩)] w fun e w' => e = .returned (.bool false) ∧ RTo w w' b g d 1 0 0 :=
  rbool_n b g 0 last 0 d r w h (by rw [hd]; rfl)

set_option maxRecDepth 100000 in
set_option maxHeartbeats 400000 in
theorem canon_long (to : Option Addr) (tn tcap : Nat) (kind : Int) (w : World) (ht : 4000 < tn) :
    Calls Try.prog 5 #[.slice to tn tcap, .int .i64 kind] w fun e w' => e = .returned (.bool true) ∧ Below w.heap.size w w' := by
  go_enter Try.func5, Try.ntmps5
  go_wp2_with (go_at_call 10; refine (awake_any w).mono ?_; rintro e w1 ⟨rfl, h1⟩; have H1 := hid_of h1; clear h1)
  go_ret
  exact ⟨rfl, H1.out⟩

set_option maxRecDepth 100000 in
set_option maxHeartbeats 800000 in
theorem canon0_bad (to : Option Addr) (tl : List Int) (tcap : Nat) (w : World) (ht : tl.length ≤ 4000) (htr : ∀ y ∈ tl, 0 ≤ y ∧ y ≤ 255) (hd : dec tl = none)
    (hts : 0 < tl.length → ∃ ad, to = some ad ∧ ad.block < w.heap.size ∧ ∀ j u, (bs tl)[j]? = some u → w.cell? (ad.add j) = some u) :
    Calls Try.prog 5 #[.slice to tl.length tcap, .int .i64 0] w fun e w' => e = .returned (.bool true) ∧ Below w.heap.size w w' := by
  have HT := hid_of htr
  have HTS := hid_of hts
  have HD := hid_of hd
  have HDL : Hid (tl.length ≤ 140737488351232) := hid_of (by omega)
  clear htr hts hd
  go_enter Try.func5, Try.ntmps5
  go_wp2_with (first
    | (go_at_call 10; refine (awake_any w).mono ?_; rintro e w1 ⟨rfl, h1⟩; have H1 := hid_of h1; clear h1)
    | (go_at_call 14; refine (newReader_n to tl tl.length tcap w1 rfl HT.out HDL.out (canon_src HTS.out H1.out)).mono ?_; rintro e w5 ⟨b, g, rfl, h5, hb5, hbb, _⟩; have H5 := hid_of h5; have HB5 := hid_of hb5; have HBB := hid_of hbb; clear h5 hb5 hbb)
    | (go_at_call 20; refine (ruint_bad b g 0 0 tl _ (canon_box H5.out _) HD.out).mono ?_; rintro e w6 ⟨rfl, hR6, hK6, _⟩; have hbx := canon_row (lt_of_block H5.out.blk) hK6; have cB := cell_of_row _ _ 1 _ _ _ hbx; have fB := canon_free 1 hbx; have HX := hid_of hbx; have HR6 := hid_of hR6; have HK6 := hid_of hK6; clear hR6 hK6 hbx))
  have hB := rto_bel H1.out HB5.out HBB.out HK6.out
  have HR7 := hid_of (rst_set (j := 1) (u := .int .u64 0) HR6.out HX.out)
  have HB7 := hid_of (hB.1.setCell (p := ⟨w5.heap.size, 1, none⟩) hB.2 (.int .u64 0))
  clear cB fB hB
  generalize w6.setCell ⟨w5.heap.size, 1, none⟩ (.int .u64 0) = w7 at *
  go_quiet ((go_at_call 19; exact Calls.quiet_of (end_bad b g 0 _ tl 2 _ (HR7.out.drewN _) (Or.inl rfl))))
  go_wp2
  go_ret
  exact ⟨rfl, below_drewN HB7.out _⟩

set_option maxRecDepth 100000 in
set_option maxHeartbeats 800000 in
theorem canon0_left (to : Option Addr) (tl : List Int) (tcap : Nat) (w : World) (ht : tl.length ≤ 4000) (htr : ∀ y ∈ tl, 0 ≤ y ∧ y ≤ 255) (n k : Nat) (hd : dec tl = some (n, k)) (hk : k ≠ tl.length)
    (hts : 0 < tl.length → ∃ ad, to = some ad ∧ ad.block < w.heap.size ∧ ∀ j u, (bs tl)[j]? = some u → w.cell? (ad.add j) = some u) :
    Calls Try.prog 5 #[.slice to tl.length tcap, .int .i64 0] w fun e w' => e = .returned (.bool true) ∧ Below w.heap.size w w' := by
  have HT := hid_of htr
  have HTS := hid_of hts
  have HD := hid_of hd
  have HDL : Hid (tl.length ≤ 140737488351232) := hid_of (by omega)
  clear htr hts hd
  go_enter Try.func5, Try.ntmps5
  go_wp2_with (first
    | (go_at_call 10; refine (awake_any w).mono ?_; rintro e w1 ⟨rfl, h1⟩; have H1 := hid_of h1; clear h1)
    | (go_at_call 14; refine (newReader_n to tl tl.length tcap w1 rfl HT.out HDL.out (canon_src HTS.out H1.out)).mono ?_; rintro e w5 ⟨b, g, rfl, h5, hb5, hbb, _⟩; have H5 := hid_of h5; have HB5 := hid_of hb5; have HBB := hid_of hbb; clear h5 hb5 hbb)
    | (go_at_call 20; refine (ruint_ok b g 0 0 n k tl _ (canon_box H5.out _) HD.out).mono ?_; rintro e w6 ⟨rfl, hR6, hK6, _⟩; have hbx := canon_row (lt_of_block H5.out.blk) hK6; have cB := cell_of_row _ _ 1 _ _ _ hbx; have fB := canon_free 1 hbx; have HX := hid_of hbx; have HR6 := hid_of hR6; have HK6 := hid_of hK6; clear hR6 hK6 hbx))
  have hB := rto_bel H1.out HB5.out HBB.out HK6.out
  have HR7 := hid_of (rst_set (j := 1) (u := .int .u64 n) HR6.out HX.out)
  have HB7 := hid_of (hB.1.setCell (p := ⟨w5.heap.size, 1, none⟩) hB.2 (.int .u64 n))
  clear cB fB hB
  generalize w6.setCell ⟨w5.heap.size, 1, none⟩ (.int .u64 n) = w7 at *
  go_quiet ((go_at_call 19; exact Calls.quiet_of (end_bad b g (0 + k) _ tl 0 _ (HR7.out.drewN _) (Or.inr ⟨rfl, by omega⟩))))
  go_wp2
  go_ret
  exact ⟨rfl, below_drewN HB7.out _⟩

set_option maxRecDepth 100000 in
set_option maxHeartbeats 800000 in
theorem canon1_bad (to : Option Addr) (tl : List Int) (tcap : Nat) (w : World) (ht : tl.length ≤ 4000) (htr : ∀ y ∈ tl, 0 ≤ y ∧ y ≤ 255) (hd : dec tl = none)
    (hts : 0 < tl.length → ∃ ad, to = some ad ∧ ad.block < w.heap.size ∧ ∀ j u, (bs tl)[j]? = some u → w.cell? (ad.add j) = some u) :
    Calls Try.prog 5 #[.slice to tl.length tcap, .int .i64 1] w fun e w' => e = .returned (.bool true) ∧ Below w.heap.size w w' := by
  have HT := hid_of htr
  have HTS := hid_of hts
  have HD := hid_of hd
  have HDL : Hid (tl.length ≤ 140737488351232) := hid_of (by omega)
  clear htr hts hd
  go_enter Try.func5, Try.ntmps5
  go_wp2_with (first
    | (go_at_call 10; refine (awake_any w).mono ?_; rintro e w1 ⟨rfl, h1⟩; have H1 := hid_of h1; clear h1)
    | (go_at_call 14; refine (newReader_n to tl tl.length tcap w1 rfl HT.out HDL.out (canon_src HTS.out H1.out)).mono ?_; rintro e w5 ⟨b, g, rfl, h5, hb5, hbb, _⟩; have H5 := hid_of h5; have HB5 := hid_of hb5; have HBB := hid_of hbb; clear h5 hb5 hbb)
    | (go_at_call 21; refine (rint_bad b g 0 0 tl _ (canon_box H5.out _) HD.out).mono ?_; rintro e w6 ⟨rfl, hR6, hK6, _⟩; have hbx := canon_row (lt_of_block H5.out.blk) hK6; have cB := cell_of_row _ _ 1 _ _ _ hbx; have fB := canon_free 1 hbx; have HX := hid_of hbx; have HR6 := hid_of hR6; have HK6 := hid_of hK6; clear hR6 hK6 hbx))
  have hB := rto_bel H1.out HB5.out HBB.out HK6.out
  have HR7 := hid_of (rst_set (j := 1) (u := .int .u64 0) HR6.out HX.out)
  have HB7 := hid_of (hB.1.setCell (p := ⟨w5.heap.size, 1, none⟩) hB.2 (.int .u64 0))
  clear cB fB hB
  generalize w6.setCell ⟨w5.heap.size, 1, none⟩ (.int .u64 0) = w7 at *
  go_quiet ((go_at_call 19; exact Calls.quiet_of (end_bad b g 0 _ tl 2 _ (HR7.out.drewN _) (Or.inl rfl))))
  go_wp2
  go_ret
  exact ⟨rfl, below_drewN HB7.out _⟩

set_option maxRecDepth 100000 in
set_option maxHeartbeats 800000 in
theorem canon1_left (to : Option Addr) (tl : List Int) (tcap : Nat) (w : World) (ht : tl.length ≤ 4000) (htr : ∀ y ∈ tl, 0 ≤ y ∧ y ≤ 255) (n k : Nat) (hd : dec tl = some (n, k)) (hk : k ≠ tl.length)
    (hts : 0 < tl.length → ∃ ad, to = some ad ∧ ad.block < w.heap.size ∧ ∀ j u, (bs tl)[j]? = some u → w.cell? (ad.add j) = some u) :
    Calls Try.prog 5 #[.slice to tl.length tcap, .int .i64 1] w fun e w' => e = .returned (.bool true) ∧ Below w.heap.size w w' := by
  have HT := hid_of htr
  have HTS := hid_of hts
  have HD := hid_of hd
  have HDL : Hid (tl.length ≤ 140737488351232) := hid_of (by omega)
  have hw := wrap_unzig n
  clear htr hts hd
  go_enter Try.func5, Try.ntmps5
  go_wp2_with (first
    | (go_at_call 10; refine (awake_any w).mono ?_; rintro e w1 ⟨rfl, h1⟩; have H1 := hid_of h1; clear h1)
    | (go_at_call 14; refine (newReader_n to tl tl.length tcap w1 rfl HT.out HDL.out (canon_src HTS.out H1.out)).mono ?_; rintro e w5 ⟨b, g, rfl, h5, hb5, hbb, _⟩; have H5 := hid_of h5; have HB5 := hid_of hb5; have HBB := hid_of hbb; clear h5 hb5 hbb)
    | (go_at_call 21; refine (rint_ok b g 0 0 n k tl _ (canon_box H5.out _) HD.out).mono ?_; rintro e w6 ⟨rfl, hR6, hK6, _⟩; have hbx := canon_row (lt_of_block H5.out.blk) hK6; have cB := cell_of_row _ _ 1 _ _ _ hbx; have fB := canon_free 1 hbx; have HX := hid_of hbx; have HR6 := hid_of hR6; have HK6 := hid_of hK6; clear hR6 hK6 hbx))
  have hB := rto_bel H1.out HB5.out HBB.out HK6.out
  have HR7 := hid_of (rst_set (j := 1) (u := .int .u64 (uN n)) HR6.out HX.out)
  have HB7 := hid_of (hB.1.setCell (p := ⟨w5.heap.size, 1, none⟩) hB.2 (.int .u64 (uN n)))
  clear cB fB hB
  generalize w6.setCell ⟨w5.heap.size, 1, none⟩ (.int .u64 (uN n)) = w7 at *
  go_quiet ((go_at_call 19; exact Calls.quiet_of (end_bad b g (0 + k) _ tl 0 _ (HR7.out.drewN _) (Or.inr ⟨rfl, by omega⟩))))
  go_wp2
  go_ret
  exact ⟨rfl, below_drewN HB7.out _⟩

set_option maxRecDepth 100000 in
set_option maxHeartbeats 800000 in
theorem canon2_bad (to : Option Addr) (tl : List Int) (tcap : Nat) (w : World) (ht : tl.length ≤ 4000) (htr : ∀ y ∈ tl, 0 ≤ y ∧ y ≤ 255) (hd : tl.length ≤ 0 ∨ ∃ y, tl[0]? = some y ∧ 1 < y)
    (hts : 0 < tl.length → ∃ ad, to = some ad ∧ ad.block < w.heap.size ∧ ∀ j u, (bs tl)[j]? = some u → w.cell? (ad.add j) = some u) :
    Calls Try.prog 5 #[.slice to tl.length tcap, .int .i64 2] w fun e w' => e = .returned (.bool true) ∧ Below w.heap.size w w' := by
  have HT := hid_of htr
  have HTS := hid_of hts
  have HD := hid_of hd
  have HDL : Hid (tl.length ≤ 140737488351232) := hid_of (by omega)
  clear htr hts hd
  go_enter Try.func5, Try.ntmps5
  go_wp2_with (first
    | (go_at_call 10; refine (awake_any w).mono ?_; rintro e w1 ⟨rfl, h1⟩; have H1 := hid_of h1; clear h1)
    | (go_at_call 14; refine (newReader_n to tl tl.length tcap w1 rfl HT.out HDL.out (canon_src HTS.out H1.out)).mono ?_; rintro e w5 ⟨b, g, rfl, h5, hb5, hbb, _⟩; have H5 := hid_of h5; have HB5 := hid_of hb5; have HBB := hid_of hbb; clear h5 hb5 hbb)
    | (go_at_call 22; refine (rbool_bad b g 0 0 tl _ (canon_box H5.out _) HD.out).mono ?_; rintro e w6 ⟨rfl, hR6, hK6, _⟩; have hbx := canon_row (lt_of_block H5.out.blk) hK6; have HX := hid_of hbx; have HR6 := hid_of hR6; have HK6 := hid_of hK6; clear hR6 hK6 hbx))
  have hB := rto_bel H1.out HB5.out HBB.out HK6.out
  have HR7 := hid_of HR6.out
  have HB7 := hid_of hB.1
  clear hB
  go_quiet ((go_at_call 19; exact Calls.quiet_of (end_bad b g 0 _ tl 2 _ (HR7.out.drewN _) (Or.inl rfl))))
  go_wp2
  go_ret
  exact ⟨rfl, below_drewN HB7.out _⟩

set_option maxRecDepth 100000 in
set_option maxHeartbeats 800000 in
theorem canon2_left1 (to : Option Addr) (tl : List Int) (tcap : Nat) (w : World) (ht : tl.length ≤ 4000) (htr : ∀ y ∈ tl, 0 ≤ y ∧ y ≤ 255) (r : List Int) (hd : tl = 1 :: r) (hk : tl.length ≠ 1)
    (hts : 0 < tl.length → ∃ ad, to = some ad ∧ ad.block < w.heap.size ∧ ∀ j u, (bs tl)[j]? = some u → w.cell? (ad.add j) = some u) :
    Calls Try.prog 5 #[.slice to tl.length tcap, .int .i64 2] w fun e w' => e = .returned (.bool true) ∧ Below w.heap.size w w' := by
  have HT := hid_of htr
  have HTS := hid_of hts
  have HD := hid_of hd
  have HDL : Hid (tl.length ≤ 140737488351232) := hid_of (by omega)
  clear htr hts hd
  go_enter Try.func5, Try.ntmps5
  go_wp2_with (first
    | (go_at_call 10; refine (awake_any w).mono ?_; rintro e w1 ⟨rfl, h1⟩; have H1 := hid_of h1; clear h1)
    | (go_at_call 14; refine (newReader_n to tl tl.length tcap w1 rfl HT.out HDL.out (canon_src HTS.out H1.out)).mono ?_; rintro e w5 ⟨b, g, rfl, h5, hb5, hbb, _⟩; have H5 := hid_of h5; have HB5 := hid_of hb5; have HBB := hid_of hbb; clear h5 hb5 hbb)
    | (go_at_call 22; refine (rb1 b g 0 tl r _ (canon_box H5.out _) HD.out).mono ?_; rintro e w6 ⟨rfl, hR6, hK6, _⟩; have hbx := canon_row (lt_of_block H5.out.blk) hK6; have cB := cell_of_row _ _ 1 _ _ _ hbx; have fB := canon_free 1 hbx; have HX := hid_of hbx; have HR6 := hid_of hR6; have HK6 := hid_of hK6; clear hR6 hK6 hbx))
  have hB := rto_bel H1.out HB5.out HBB.out HK6.out
  have HR7 := hid_of (rst_set (j := 1) (u := .int .u64 1) HR6.out HX.out)
  have HB7 := hid_of (hB.1.setCell (p := ⟨w5.heap.size, 1, none⟩) hB.2 (.int .u64 1))
  clear cB fB hB
  generalize w6.setCell ⟨w5.heap.size, 1, none⟩ (.int .u64 1) = w7 at *
  go_quiet ((go_at_call 19; exact Calls.quiet_of (end_bad b g 1 _ tl 0 _ (HR7.out.drewN _) (Or.inr ⟨rfl, by omega⟩))))
  go_wp2
  go_ret
  exact ⟨rfl, below_drewN HB7.out _⟩

set_option maxRecDepth 100000 in
set_option maxHeartbeats 800000 in
theorem canon2_left0 (to : Option Addr) (tl : List Int) (tcap : Nat) (w : World) (ht : tl.length ≤ 4000) (htr : ∀ y ∈ tl, 0 ≤ y ∧ y ≤ 255) (r : List Int) (hd : tl = 0 :: r) (hk : tl.length ≠ 1)
    (hts : 0 < tl.length → ∃ ad, to = some ad ∧ ad.block < w.heap.size ∧ ∀ j u, (bs tl)[j]? = some u → w.cell? (ad.add j) = some u) :
    Calls Try.prog 5 #[.slice to tl.length tcap, .int .i64 2] w fun e w' => e = .returned (.bool true) ∧ Below w.heap.size w w' := by
  have HT := hid_of htr
  have HTS := hid_of hts
  have HD := hid_of hd
  have HDL : Hid (tl.length ≤ 140737488351232) := hid_of (by omega)
  clear htr hts hd
  go_enter Try.func5, Try.ntmps5
  go_wp2_with (first
    | (go_at_call 10; refine (awake_any w).mono ?_; rintro e w1 ⟨rfl, h1⟩; have H1 := hid_of h1; clear h1)
    | (go_at_call 14; refine (newReader_n to tl tl.length tcap w1 rfl HT.out HDL.out (canon_src HTS.out H1.out)).mono ?_; rintro e w5 ⟨b, g, rfl, h5, hb5, hbb, _⟩; have H5 := hid_of h5; have HB5 := hid_of hb5; have HBB := hid_of hbb; clear h5 hb5 hbb)
    | (go_at_call 22; refine (rb0 b g 0 tl r _ (canon_box H5.out _) HD.out).mono ?_; rintro e w6 ⟨rfl, hR6, hK6, _⟩; have hbx := canon_row (lt_of_block H5.out.blk) hK6; have HX := hid_of hbx; have HR6 := hid_of hR6; have HK6 := hid_of hK6; clear hR6 hK6 hbx))
  have hB := rto_bel H1.out HB5.out HBB.out HK6.out
  have HR7 := hid_of HR6.out
  have HB7 := hid_of hB.1
  clear hB
  go_quiet ((go_at_call 19; exact Calls.quiet_of (end_bad b g 1 _ tl 0 _ (HR7.out.drewN _) (Or.inr ⟨rfl, by omega⟩))))
  go_wp2
  go_ret
  exact ⟨rfl, below_drewN HB7.out _⟩

set_option maxRecDepth 100000 in
set_option maxHeartbeats 800000 in
theorem canon3_bad (to : Option Addr) (tl : List Int) (tcap : Nat) (w : World) (ht : tl.length ≤ 4000) (htr : ∀ y ∈ tl, 0 ≤ y ∧ y ≤ 255) (hd : decRun tl = none)
    (hts : 0 < tl.length → ∃ ad, to = some ad ∧ ad.block < w.heap.size ∧ ∀ j u, (bs tl)[j]? = some u → w.cell? (ad.add j) = some u) :
    Calls Try.prog 5 #[.slice to tl.length tcap, .int .i64 3] w fun e w' => e = .returned (.bool true) ∧ Below w.heap.size w w' := by
  have HT := hid_of htr
  have HTS := hid_of hts
  have HD := hid_of hd
  have HDL : Hid (tl.length ≤ 140737488351232) := hid_of (by omega)
  clear htr hts hd
  go_enter Try.func5, Try.ntmps5
  go_wp2_with (first
    | (go_at_call 10; refine (awake_any w).mono ?_; rintro e w1 ⟨rfl, h1⟩; have H1 := hid_of h1; clear h1)
    | (go_at_call 14; refine (newReader_n to tl tl.length tcap w1 rfl HT.out HDL.out (canon_src HTS.out H1.out)).mono ?_; rintro e w5 ⟨b, g, rfl, h5, hb5, hbb, _⟩; have H5 := hid_of h5; have HB5 := hid_of hb5; have HBB := hid_of hbb; clear h5 hb5 hbb)
    | (go_at_call 23; refine (rbytes_bad b g 0 0 tl _ (canon_box H5.out _) HD.out).mono ?_; rintro e w6 ⟨rfl, hR6, hK6, _⟩; have hbx := canon_row (lt_of_block H5.out.blk) hK6; have cB := cell_of_row _ _ 2 _ _ _ hbx; have fB := canon_free 2 hbx; have HX := hid_of hbx; have HR6 := hid_of hR6; have HK6 := hid_of hK6; clear hR6 hK6 hbx))
  have hB := rto_bel H1.out HB5.out HBB.out HK6.out
  have HR7 := hid_of (rst_set (j := 2) (u := .slice none 0 0) HR6.out HX.out)
  have HB7 := hid_of (hB.1.setCell (p := ⟨w5.heap.size, 2, none⟩) hB.2 (.slice none 0 0))
  clear cB fB hB
  generalize w6.setCell ⟨w5.heap.size, 2, none⟩ (.slice none 0 0) = w7 at *
  go_quiet ((go_at_call 19; exact Calls.quiet_of (end_bad b g 0 _ tl 2 _ (HR7.out.drewN _) (Or.inl rfl))))
  go_wp2
  go_ret
  exact ⟨rfl, below_drewN HB7.out _⟩

set_option maxRecDepth 100000 in
set_option maxHeartbeats 800000 in
theorem canon3_left (to : Option Addr) (tl : List Int) (tcap : Nat) (w : World) (ht : tl.length ≤ 4000) (htr : ∀ y ∈ tl, 0 ≤ y ∧ y ≤ 255) (k n : Nat) (hd : decRun tl = some (k, n)) (hk : k + n ≠ tl.length)
    (hts : 0 < tl.length → ∃ ad, to = some ad ∧ ad.block < w.heap.size ∧ ∀ j u, (bs tl)[j]? = some u → w.cell? (ad.add j) = some u) :
    Calls Try.prog 5 #[.slice to tl.length tcap, .int .i64 3] w fun e w' => e = .returned (.bool true) ∧ Below w.heap.size w w' := by
  have HT := hid_of htr
  have HTS := hid_of hts
  have HD := hid_of hd
  have HDL : Hid (tl.length ≤ 140737488351232) := hid_of (by omega)
  clear htr hts hd
  go_enter Try.func5, Try.ntmps5
  go_wp2_with (first
    | (go_at_call 10; refine (awake_any w).mono ?_; rintro e w1 ⟨rfl, h1⟩; have H1 := hid_of h1; clear h1)
    | (go_at_call 14; refine (newReader_n to tl tl.length tcap w1 rfl HT.out HDL.out (canon_src HTS.out H1.out)).mono ?_; rintro e w5 ⟨b, g, rfl, h5, hb5, hbb, _⟩; have H5 := hid_of h5; have HB5 := hid_of hb5; have HBB := hid_of hbb; clear h5 hb5 hbb)
    | (go_at_call 23; refine (rbytes_ok b g 0 0 k n tl _ (canon_box H5.out _) HD.out).mono ?_; rintro e w6 ⟨rfl, hR6, _, hK6⟩; have hbx := canon_row (lt_of_block H5.out.blk) hK6; have cB := cell_of_row _ _ 2 _ _ _ hbx; have fB := canon_free 2 hbx; have HX := hid_of hbx; have HR6 := hid_of hR6; have HK6 := hid_of hK6; clear hR6 hK6 hbx))
  have hB := rto_bel H1.out HB5.out HBB.out HK6.out
  have HR7 := hid_of (rst_set (j := 2) (u := .slice (some ⟨w5.heap.size + 1, 0, none⟩) n n) HR6.out HX.out)
  have HB7 := hid_of (hB.1.setCell (p := ⟨w5.heap.size, 2, none⟩) hB.2 (.slice (some ⟨w5.heap.size + 1, 0, none⟩) n n))
  clear cB fB hB
  generalize w6.setCell ⟨w5.heap.size, 2, none⟩ (.slice (some ⟨w5.heap.size + 1, 0, none⟩) n n) = w7 at *
  go_quiet ((go_at_call 19; exact Calls.quiet_of (end_bad b g (0 + k + n) _ tl 0 _ (HR7.out.drewN _) (Or.inr ⟨rfl, by omega⟩))))
  go_wp2
  go_ret
  exact ⟨rfl, below_drewN HB7.out _⟩

end Go.Proofs.Ytijjaoabkbeeeaa
