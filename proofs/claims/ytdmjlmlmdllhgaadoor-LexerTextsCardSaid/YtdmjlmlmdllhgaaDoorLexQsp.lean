/- The spelling of a token: of the reference. Bounds on sizes alone. -/
import Derived.Test.YtdmjlmlmdllhgaaDoorLexQnm
namespace Go.Proofs.YtdmjlmlmdllhgaaDoor
open Go.RowKit

theorem itoa_nat (n : Int) (h : 0 ≤ n) : (⟨(Lib.itoa n).toArray⟩ : ByteArray) = ⟨(Lib.decDigits n.toNat).toArray⟩ := by
  unfold Lib.itoa; rw [if_neg (by omega)]
set_option maxRecDepth 100000 in
set_option maxHeartbeats 3200000 in
theorem qs3_text (n p : Int) (tx : ByteArray) (w : World) (ht : tx ≠ ⟨#[]⟩) :
    Calls Tryd.prog 26 #[.agg #[.int .i64 3, .string tx, .int .i64 n, .int .i64 p]] w (SpP false ⟨#[]⟩ w) := by
  have d1 : tx.toList ≠ [] := txt_ne ht
  have d2 : (tx.toList == []) = false := by simpa using d1
  clear ht
  have BX := hid_of (bel_alloc w (.cells #[.int .i64 3, .string tx, .int .i64 n, .int .i64 p] 25))
  have cs : Hid (∀ w1, Below (w.alloc (.cells #[.int .i64 3, .string tx, .int .i64 n, .int .i64 p] 25)).heap.size (w.alloc (.cells #[.int .i64 3, .string tx, .int .i64 n, .int .i64 p] 25)) w1 → w1.cell? ⟨w.heap.size, 1, none⟩ = some (.string tx)) := hid_of (fun w1 h => by
    obtain ⟨_, q1, _⟩ := row4 ((h.block w.heap.size (by simp)).trans (heap_alloc_new w (.cells #[.int .i64 3, .string tx, .int .i64 n, .int .i64 p] 25)))
    exact q1)
  have cs0 := cs.out _ (bel_drew (Below.refl _ (w.alloc (.cells #[.int .i64 3, .string tx, .int .i64 n, .int .i64 p] 25))))
  clear cs cs0
  go_enter Tryd.func26, Tryd.ntmps26
  go_wp2
  go_ret2
  exact spp_eq rfl (fun h => by cases h) (by first | exact BX.out | exact bel_drewN BX.out _)
set_option maxRecDepth 100000 in
set_option maxHeartbeats 3200000 in
theorem qs3_neg (n p : Int) (w : World) (h0 : n < 0) :
    Calls Tryd.prog 26 #[.agg #[.int .i64 3, .string ⟨#[]⟩, .int .i64 n, .int .i64 p]] w (SpP false ⟨#[]⟩ w) := by
  have d1 : decide (n < 0) = true := decide_eq_true h0
  clear h0
  have BX := hid_of (bel_alloc w (.cells #[.int .i64 3, .string ⟨#[]⟩, .int .i64 n, .int .i64 p] 25))
  have cs : Hid (∀ w1, Below (w.alloc (.cells #[.int .i64 3, .string ⟨#[]⟩, .int .i64 n, .int .i64 p] 25)).heap.size (w.alloc (.cells #[.int .i64 3, .string ⟨#[]⟩, .int .i64 n, .int .i64 p] 25)) w1 → w1.cell? ⟨w.heap.size, 1, none⟩ = some (.string ⟨#[]⟩)) := hid_of (fun w1 h => by
    obtain ⟨_, q1, _⟩ := row4 ((h.block w.heap.size (by simp)).trans (heap_alloc_new w (.cells #[.int .i64 3, .string ⟨#[]⟩, .int .i64 n, .int .i64 p] 25)))
    exact q1)
  have cs0 := cs.out _ (bel_drew (Below.refl _ (w.alloc (.cells #[.int .i64 3, .string ⟨#[]⟩, .int .i64 n, .int .i64 p] 25))))
  clear cs cs0
  go_enter Tryd.func26, Tryd.ntmps26
  go_wp2
  go_ret2
  exact spp_eq rfl (fun h => by cases h) (by first | exact BX.out | exact bel_drewN BX.out _)
set_option maxRecDepth 100000 in
set_option maxHeartbeats 3200000 in
theorem qs3_big (n p : Int) (w : World) (h0 : 1000000000000000 < n) :
    Calls Tryd.prog 26 #[.agg #[.int .i64 3, .string ⟨#[]⟩, .int .i64 n, .int .i64 p]] w (SpP false ⟨#[]⟩ w) := by
  have d1 : decide (n < 0) = false := decide_eq_false (by omega)
  have d2 : decide (n > 1000000000000000) = true := decide_eq_true h0
  clear h0
  have BX := hid_of (bel_alloc w (.cells #[.int .i64 3, .string ⟨#[]⟩, .int .i64 n, .int .i64 p] 25))
  have cs : Hid (∀ w1, Below (w.alloc (.cells #[.int .i64 3, .string ⟨#[]⟩, .int .i64 n, .int .i64 p] 25)).heap.size (w.alloc (.cells #[.int .i64 3, .string ⟨#[]⟩, .int .i64 n, .int .i64 p] 25)) w1 → w1.cell? ⟨w.heap.size, 1, none⟩ = some (.string ⟨#[]⟩)) := hid_of (fun w1 h => by
    obtain ⟨_, q1, _⟩ := row4 ((h.block w.heap.size (by simp)).trans (heap_alloc_new w (.cells #[.int .i64 3, .string ⟨#[]⟩, .int .i64 n, .int .i64 p] 25)))
    exact q1)
  have cs0 := cs.out _ (bel_drew (Below.refl _ (w.alloc (.cells #[.int .i64 3, .string ⟨#[]⟩, .int .i64 n, .int .i64 p] 25))))
  clear cs cs0
  go_enter Tryd.func26, Tryd.ntmps26
  go_wp2
  go_ret2
  exact spp_eq rfl (fun h => by cases h) (by first | exact BX.out | exact bel_drewN BX.out _)
set_option maxRecDepth 100000 in
set_option maxHeartbeats 3200000 in
theorem qs3_yes (n : Nat) (p : Int) (w : World) (h1 : n ≤ 1000000000000000) :
    Calls Tryd.prog 26 #[.agg #[.int .i64 3, .string ⟨#[]⟩, .int .i64 (n : Int), .int .i64 p]] w (SpP true ⟨(Lib.decDigits n).toArray⟩ w) := by
  have d1 : decide ((n : Int) < 0) = false := decide_eq_false (by omega)
  have d2 : decide ((n : Int) > 1000000000000000) = false := decide_eq_false (by omega)
  have QN := hid_of (qnum_any n h1)
  clear h1
  have BX := hid_of (bel_alloc w (.cells #[.int .i64 3, .string ⟨#[]⟩, .int .i64 (n : Int), .int .i64 p] 25))
  have cs : Hid (∀ w1, Below (w.alloc (.cells #[.int .i64 3, .string ⟨#[]⟩, .int .i64 (n : Int), .int .i64 p] 25)).heap.size (w.alloc (.cells #[.int .i64 3, .string ⟨#[]⟩, .int .i64 (n : Int), .int .i64 p] 25)) w1 → w1.cell? ⟨w.heap.size, 1, none⟩ = some (.string ⟨#[]⟩)) := hid_of (fun w1 h => by
    obtain ⟨_, q1, _⟩ := row4 ((h.block w.heap.size (by simp)).trans (heap_alloc_new w (.cells #[.int .i64 3, .string ⟨#[]⟩, .int .i64 (n : Int), .int .i64 p] 25)))
    exact q1)
  have cs0 := cs.out _ (bel_drew (Below.refl _ (w.alloc (.cells #[.int .i64 3, .string ⟨#[]⟩, .int .i64 (n : Int), .int .i64 p] 25))))
  clear cs cs0
  go_enter Tryd.func26, Tryd.ntmps26
  go_wp2_with (go_at_call 38; ((with_reducible refine (QN.out _).mono ?_); (rintro e w' ⟨rfl, rfl⟩)))
  go_ret2
  exact spp_eq rfl (fun _ => rfl) (by first | exact BX.out | exact bel_drewN BX.out _)
set_option maxRecDepth 100000 in
set_option maxHeartbeats 3200000 in
theorem qs_n (k n p : Int) (tx : ByteArray) (w : World) (h3 : k ≠ 3) (hn : n ≠ 0) :
    Calls Tryd.prog 26 #[.agg #[.int .i64 k, .string tx, .int .i64 n, .int .i64 p]] w (SpP false ⟨#[]⟩ w) := by
  have e3 : (k == 3) = false := by simpa using h3
  have dn : (n != 0) = true := by simpa using hn
  clear h3 hn
  have BX := hid_of (bel_alloc w (.cells #[.int .i64 k, .string tx, .int .i64 n, .int .i64 p] 25))
  have cs : Hid (∀ w1, Below (w.alloc (.cells #[.int .i64 k, .string tx, .int .i64 n, .int .i64 p] 25)).heap.size (w.alloc (.cells #[.int .i64 k, .string tx, .int .i64 n, .int .i64 p] 25)) w1 → w1.cell? ⟨w.heap.size, 1, none⟩ = some (.string tx)) := hid_of (fun w1 h => by
    obtain ⟨_, q1, _⟩ := row4 ((h.block w.heap.size (by simp)).trans (heap_alloc_new w (.cells #[.int .i64 k, .string tx, .int .i64 n, .int .i64 p] 25)))
    exact q1)
  have cs0 := cs.out _ (bel_drew (Below.refl _ (w.alloc (.cells #[.int .i64 k, .string tx, .int .i64 n, .int .i64 p] 25))))
  clear cs cs0
  go_enter Tryd.func26, Tryd.ntmps26
  go_wp2
  go_ret2
  exact spp_eq rfl (fun h => by cases h) (by first | exact BX.out | exact bel_drewN BX.out _)
set_option maxRecDepth 100000 in
set_option maxHeartbeats 3200000 in
theorem qs_other (k p : Int) (tx : ByteArray) (w : World) (h1 : k ≠ 1) (h2 : k ≠ 2) (h3 : k ≠ 3) (h4 : k ≠ 4) (h5 : k ≠ 5) :
    Calls Tryd.prog 26 #[.agg #[.int .i64 k, .string tx, .int .i64 0, .int .i64 p]] w (SpP false ⟨#[]⟩ w) := by
  have e1 : (k == 1) = false := by simpa using h1
  have e2 : (k == 2) = false := by simpa using h2
  have e3 : (k == 3) = false := by simpa using h3
  have e4 : (k == 4) = false := by simpa using h4
  have e5 : (k == 5) = false := by simpa using h5
  clear h1 h2 h3 h4 h5
  have BX := hid_of (bel_alloc w (.cells #[.int .i64 k, .string tx, .int .i64 0, .int .i64 p] 25))
  have cs : Hid (∀ w1, Below (w.alloc (.cells #[.int .i64 k, .string tx, .int .i64 0, .int .i64 p] 25)).heap.size (w.alloc (.cells #[.int .i64 k, .string tx, .int .i64 0, .int .i64 p] 25)) w1 → w1.cell? ⟨w.heap.size, 1, none⟩ = some (.string tx)) := hid_of (fun w1 h => by
    obtain ⟨_, q1, _⟩ := row4 ((h.block w.heap.size (by simp)).trans (heap_alloc_new w (.cells #[.int .i64 k, .string tx, .int .i64 0, .int .i64 p] 25)))
    exact q1)
  have cs0 := cs.out _ (bel_drew (Below.refl _ (w.alloc (.cells #[.int .i64 k, .string tx, .int .i64 0, .int .i64 p] 25))))
  clear cs cs0
  go_enter Tryd.func26, Tryd.ntmps26
  go_wp2
  go_ret2
  exact spp_eq rfl (fun h => by cases h) (by first | exact BX.out | exact bel_drewN BX.out _)
set_option maxRecDepth 100000 in
set_option maxHeartbeats 3200000 in
theorem qs1_bad (p : Int) (tx : ByteArray) (w : World) (hs : tx.size ≤ 1000000) (hv : isName (strBytes tx) = false) :
    Calls Tryd.prog 26 #[.agg #[.int .i64 1, .string tx, .int .i64 0, .int .i64 p]] w (SpP false tx w) := by
  have VA : Hid (∀ w1, Calls Tryd.prog 39 #[.string tx] w1 fun e w' => e = .returned (.bool false) ∧ w' = w1) := hid_of (fun w1 => by rw [← hv]; exact rvalid_any tx w1 (hmax hs))
  clear hv hs
  have BX := hid_of (bel_alloc w (.cells #[.int .i64 1, .string tx, .int .i64 0, .int .i64 p] 25))
  have cs : Hid (∀ w1, Below (w.alloc (.cells #[.int .i64 1, .string tx, .int .i64 0, .int .i64 p] 25)).heap.size (w.alloc (.cells #[.int .i64 1, .string tx, .int .i64 0, .int .i64 p] 25)) w1 → w1.cell? ⟨w.heap.size, 1, none⟩ = some (.string tx)) := hid_of (fun w1 h => by
    obtain ⟨_, q1, _⟩ := row4 ((h.block w.heap.size (by simp)).trans (heap_alloc_new w (.cells #[.int .i64 1, .string tx, .int .i64 0, .int .i64 p] 25)))
    exact q1)
  have cs0 := cs.out _ (bel_drew (Below.refl _ (w.alloc (.cells #[.int .i64 1, .string tx, .int .i64 0, .int .i64 p] 25))))
  clear cs cs0
  go_enter Tryd.func26, Tryd.ntmps26
  go_wp2
  go_quiet ((go_at_call 39; exact Calls.quiet_of_same (VA.out _)))
  go_wp2
  go_ret2
  exact spp_eq rfl (fun h => (by cases h)) (BX.out.trans ((bel_drewN (Below.refl _ _) _).mono BX.out.size))
set_option maxRecDepth 100000 in
set_option maxHeartbeats 3200000 in
theorem qs1_kw (p : Int) (tx : ByteArray) (w : World) (hs : tx.size ≤ 1000000) (hv : isName (strBytes tx) = true) (hk : kw tx = true) :
    Calls Tryd.prog 26 #[.agg #[.int .i64 1, .string tx, .int .i64 0, .int .i64 p]] w (SpP false tx w) := by
  have VA : Hid (∀ w1, Calls Tryd.prog 39 #[.string tx] w1 fun e w' => e = .returned (.bool true) ∧ w' = w1) := hid_of (fun w1 => by rw [← hv]; exact rvalid_any tx w1 (hmax hs))
  have KA : Hid (∀ w1, Calls Tryd.prog 16 #[.string tx] w1 (BlP true w1)) := hid_of (fun w1 => by rw [← hk]; exact qkeyword_any tx w1)
  clear hv hs hk
  have BX := hid_of (bel_alloc w (.cells #[.int .i64 1, .string tx, .int .i64 0, .int .i64 p] 25))
  have cs : Hid (∀ w1, Below (w.alloc (.cells #[.int .i64 1, .string tx, .int .i64 0, .int .i64 p] 25)).heap.size (w.alloc (.cells #[.int .i64 1, .string tx, .int .i64 0, .int .i64 p] 25)) w1 → w1.cell? ⟨w.heap.size, 1, none⟩ = some (.string tx)) := hid_of (fun w1 h => by
    obtain ⟨_, q1, _⟩ := row4 ((h.block w.heap.size (by simp)).trans (heap_alloc_new w (.cells #[.int .i64 1, .string tx, .int .i64 0, .int .i64 p] 25)))
    exact q1)
  have cs0 := cs.out _ (bel_drew (Below.refl _ (w.alloc (.cells #[.int .i64 1, .string tx, .int .i64 0, .int .i64 p] 25))))
  go_enter Tryd.func26, Tryd.ntmps26
  go_wp2
  go_region_held3 (fun W => W.cell? ⟨w.heap.size, 1, none⟩ = some (.string tx)) (first | exact cs0 | exact cs4) (first
    | (go_at_call 39; ((with_reducible refine (VA.out _).mono ?_); (rintro e w' ⟨rfl, rfl⟩)))
    | (go_at_call 16; ((with_reducible refine (KA.out _).mono ?_); (rintro e w1 ⟨rfl, h⟩; have B1 := hid_of h; have cs4 := cs.out _ ((bel_drew (Below.refl _ _)).trans (h.mono (Nat.le_refl _))); clear h))))
  all_goals go_wp2
  all_goals go_ret2
  all_goals exact spp_eq rfl (fun h => (by cases h)) (BX.out.trans ((bel_drew (Below.refl _ _)).trans (B1.out.mono (Nat.le_refl _)) |>.mono BX.out.size))
set_option maxRecDepth 100000 in
set_option maxHeartbeats 3200000 in
theorem qs1_ok (p : Int) (tx : ByteArray) (w : World) (hs : tx.size ≤ 1000000) (hv : isName (strBytes tx) = true) (hk : kw tx = false) :
    Calls Tryd.prog 26 #[.agg #[.int .i64 1, .string tx, .int .i64 0, .int .i64 p]] w (SpP true tx w) := by
  have VA : Hid (∀ w1, Calls Tryd.prog 39 #[.string tx] w1 fun e w' => e = .returned (.bool true) ∧ w' = w1) := hid_of (fun w1 => by rw [← hv]; exact rvalid_any tx w1 (hmax hs))
  have KA : Hid (∀ w1, Calls Tryd.prog 16 #[.string tx] w1 (BlP false w1)) := hid_of (fun w1 => by rw [← hk]; exact qkeyword_any tx w1)
  clear hv hs hk
  have BX := hid_of (bel_alloc w (.cells #[.int .i64 1, .string tx, .int .i64 0, .int .i64 p] 25))
  have cs : Hid (∀ w1, Below (w.alloc (.cells #[.int .i64 1, .string tx, .int .i64 0, .int .i64 p] 25)).heap.size (w.alloc (.cells #[.int .i64 1, .string tx, .int .i64 0, .int .i64 p] 25)) w1 → w1.cell? ⟨w.heap.size, 1, none⟩ = some (.string tx)) := hid_of (fun w1 h => by
    obtain ⟨_, q1, _⟩ := row4 ((h.block w.heap.size (by simp)).trans (heap_alloc_new w (.cells #[.int .i64 1, .string tx, .int .i64 0, .int .i64 p] 25)))
    exact q1)
  have cs0 := cs.out _ (bel_drew (Below.refl _ (w.alloc (.cells #[.int .i64 1, .string tx, .int .i64 0, .int .i64 p] 25))))
  go_enter Tryd.func26, Tryd.ntmps26
  go_wp2
  go_region_held3 (fun W => W.cell? ⟨w.heap.size, 1, none⟩ = some (.string tx)) (first | exact cs0 | exact cs4) (first
    | (go_at_call 39; ((with_reducible refine (VA.out _).mono ?_); (rintro e w' ⟨rfl, rfl⟩)))
    | (go_at_call 16; ((with_reducible refine (KA.out _).mono ?_); (rintro e w1 ⟨rfl, h⟩; have B1 := hid_of h; have cs4 := cs.out _ ((bel_drew (Below.refl _ _)).trans (h.mono (Nat.le_refl _))); clear h))))
  all_goals go_wp2
  all_goals go_ret2
  all_goals exact spp_eq rfl (fun h => rfl) (BX.out.trans ((bel_drew (Below.refl _ _)).trans (B1.out.mono (Nat.le_refl _)) |>.mono BX.out.size))
set_option maxRecDepth 100000 in
set_option maxHeartbeats 3200000 in
theorem qs2_bad (p : Int) (tx : ByteArray) (w : World) (hk : kw tx = false) :
    Calls Tryd.prog 26 #[.agg #[.int .i64 2, .string tx, .int .i64 0, .int .i64 p]] w (SpP false tx w) := by
  have KA : Hid (∀ w1, Calls Tryd.prog 16 #[.string tx] w1 (BlP false w1)) := hid_of (fun w1 => by rw [← hk]; exact qkeyword_any tx w1)
  clear hk
  have BX := hid_of (bel_alloc w (.cells #[.int .i64 2, .string tx, .int .i64 0, .int .i64 p] 25))
  have cs : Hid (∀ w1, Below (w.alloc (.cells #[.int .i64 2, .string tx, .int .i64 0, .int .i64 p] 25)).heap.size (w.alloc (.cells #[.int .i64 2, .string tx, .int .i64 0, .int .i64 p] 25)) w1 → w1.cell? ⟨w.heap.size, 1, none⟩ = some (.string tx)) := hid_of (fun w1 h => by
    obtain ⟨_, q1, _⟩ := row4 ((h.block w.heap.size (by simp)).trans (heap_alloc_new w (.cells #[.int .i64 2, .string tx, .int .i64 0, .int .i64 p] 25)))
    exact q1)
  have cs0 := cs.out _ (bel_drew (Below.refl _ (w.alloc (.cells #[.int .i64 2, .string tx, .int .i64 0, .int .i64 p] 25))))
  go_enter Tryd.func26, Tryd.ntmps26
  go_wp2
  go_region_held3 (fun W => W.cell? ⟨w.heap.size, 1, none⟩ = some (.string tx)) (first | exact cs0 | exact cs4) (first
    | (go_at_call 16; ((with_reducible refine (KA.out _).mono ?_); (rintro e w1 ⟨rfl, h⟩; have B1 := hid_of h; have cs4 := cs.out _ ((bel_drew (Below.refl _ _)).trans (h.mono (Nat.le_refl _))); clear h))))
  all_goals go_wp2
  all_goals go_ret2
  all_goals exact spp_eq rfl (fun h => (by cases h)) (BX.out.trans ((bel_drew (Below.refl _ _)).trans (B1.out.mono (Nat.le_refl _)) |>.mono BX.out.size))
set_option maxRecDepth 100000 in
set_option maxHeartbeats 3200000 in
theorem qs2_ok (p : Int) (tx : ByteArray) (w : World) (hk : kw tx = true) :
    Calls Tryd.prog 26 #[.agg #[.int .i64 2, .string tx, .int .i64 0, .int .i64 p]] w (SpP true tx w) := by
  have KA : Hid (∀ w1, Calls Tryd.prog 16 #[.string tx] w1 (BlP true w1)) := hid_of (fun w1 => by rw [← hk]; exact qkeyword_any tx w1)
  clear hk
  have BX := hid_of (bel_alloc w (.cells #[.int .i64 2, .string tx, .int .i64 0, .int .i64 p] 25))
  have cs : Hid (∀ w1, Below (w.alloc (.cells #[.int .i64 2, .string tx, .int .i64 0, .int .i64 p] 25)).heap.size (w.alloc (.cells #[.int .i64 2, .string tx, .int .i64 0, .int .i64 p] 25)) w1 → w1.cell? ⟨w.heap.size, 1, none⟩ = some (.string tx)) := hid_of (fun w1 h => by
    obtain ⟨_, q1, _⟩ := row4 ((h.block w.heap.size (by simp)).trans (heap_alloc_new w (.cells #[.int .i64 2, .string tx, .int .i64 0, .int .i64 p] 25)))
    exact q1)
  have cs0 := cs.out _ (bel_drew (Below.refl _ (w.alloc (.cells #[.int .i64 2, .string tx, .int .i64 0, .int .i64 p] 25))))
  go_enter Tryd.func26, Tryd.ntmps26
  go_wp2
  go_region_held3 (fun W => W.cell? ⟨w.heap.size, 1, none⟩ = some (.string tx)) (first | exact cs0 | exact cs4) (first
    | (go_at_call 16; ((with_reducible refine (KA.out _).mono ?_); (rintro e w1 ⟨rfl, h⟩; have B1 := hid_of h; have cs4 := cs.out _ ((bel_drew (Below.refl _ _)).trans (h.mono (Nat.le_refl _))); clear h))))
  all_goals go_wp2
  all_goals go_ret2
  all_goals exact spp_eq rfl (fun h => rfl) (BX.out.trans ((bel_drew (Below.refl _ _)).trans (B1.out.mono (Nat.le_refl _)) |>.mono BX.out.size))
set_option maxRecDepth 100000 in
set_option maxHeartbeats 3200000 in
theorem qs4_bad (p : Int) (tx : ByteArray) (w : World) (hs : tx.size ≤ 1000000) (hv : isName (strBytes tx) = false) :
    Calls Tryd.prog 26 #[.agg #[.int .i64 4, .string tx, .int .i64 0, .int .i64 p]] w (SpP false (⟨#[39]⟩ ++ tx ++ ⟨#[39]⟩) w) := by
  have z1 : (⟨#[39]⟩ : ByteArray).size = 1 := rfl
  have z2 : ((⟨#[39]⟩ : ByteArray) ++ tx).size = 1 + tx.size := by rw [ByteArray.size_append]; rfl
  have A1 : ∀ W, (Op.stringOp .add ⟨#[39]⟩ tx).run Tryd.prog W = .ok (.string (⟨#[39]⟩ ++ tx)) W := fun W => run_string_add_sum W _ _ (by omega)
  have A2 : ∀ W, (Op.stringOp .add (⟨#[39]⟩ ++ tx) ⟨#[39]⟩).run Tryd.prog W = .ok (.string (⟨#[39]⟩ ++ tx ++ ⟨#[39]⟩)) W := fun W => run_string_add_sum W _ _ (by omega)
  clear z1 z2
  have VA : Hid (∀ w1, Calls Tryd.prog 39 #[.string tx] w1 fun e w' => e = .returned (.bool false) ∧ w' = w1) := hid_of (fun w1 => by rw [← hv]; exact rvalid_any tx w1 (hmax hs))
  clear hv hs
  have BX := hid_of (bel_alloc w (.cells #[.int .i64 4, .string tx, .int .i64 0, .int .i64 p] 25))
  have cs : Hid (∀ w1, Below (w.alloc (.cells #[.int .i64 4, .string tx, .int .i64 0, .int .i64 p] 25)).heap.size (w.alloc (.cells #[.int .i64 4, .string tx, .int .i64 0, .int .i64 p] 25)) w1 → w1.cell? ⟨w.heap.size, 1, none⟩ = some (.string tx)) := hid_of (fun w1 h => by
    obtain ⟨_, q1, _⟩ := row4 ((h.block w.heap.size (by simp)).trans (heap_alloc_new w (.cells #[.int .i64 4, .string tx, .int .i64 0, .int .i64 p] 25)))
    exact q1)
  have cs0 := cs.out _ (bel_drew (Below.refl _ (w.alloc (.cells #[.int .i64 4, .string tx, .int .i64 0, .int .i64 p] 25))))
  clear cs cs0
  go_enter Tryd.func26, Tryd.ntmps26
  go_wp2
  go_quiet ((go_at_call 39; exact Calls.quiet_of_same (VA.out _)))
  go_wp2
  go_ret2
  exact spp_eq rfl (fun h => (by cases h)) (BX.out.trans ((bel_drewN (Below.refl _ _) _).mono BX.out.size))
set_option maxRecDepth 100000 in
set_option maxHeartbeats 3200000 in
theorem qs4_ok (p : Int) (tx : ByteArray) (w : World) (hs : tx.size ≤ 1000000) (hv : isName (strBytes tx) = true) :
    Calls Tryd.prog 26 #[.agg #[.int .i64 4, .string tx, .int .i64 0, .int .i64 p]] w (SpP true (⟨#[39]⟩ ++ tx ++ ⟨#[39]⟩) w) := by
  have z1 : (⟨#[39]⟩ : ByteArray).size = 1 := rfl
  have z2 : ((⟨#[39]⟩ : ByteArray) ++ tx).size = 1 + tx.size := by rw [ByteArray.size_append]; rfl
  have A1 : ∀ W, (Op.stringOp .add ⟨#[39]⟩ tx).run Tryd.prog W = .ok (.string (⟨#[39]⟩ ++ tx)) W := fun W => run_string_add_sum W _ _ (by omega)
  have A2 : ∀ W, (Op.stringOp .add (⟨#[39]⟩ ++ tx) ⟨#[39]⟩).run Tryd.prog W = .ok (.string (⟨#[39]⟩ ++ tx ++ ⟨#[39]⟩)) W := fun W => run_string_add_sum W _ _ (by omega)
  clear z1 z2
  have VA : Hid (∀ w1, Calls Tryd.prog 39 #[.string tx] w1 fun e w' => e = .returned (.bool true) ∧ w' = w1) := hid_of (fun w1 => by rw [← hv]; exact rvalid_any tx w1 (hmax hs))
  clear hv hs
  have BX := hid_of (bel_alloc w (.cells #[.int .i64 4, .string tx, .int .i64 0, .int .i64 p] 25))
  have cs : Hid (∀ w1, Below (w.alloc (.cells #[.int .i64 4, .string tx, .int .i64 0, .int .i64 p] 25)).heap.size (w.alloc (.cells #[.int .i64 4, .string tx, .int .i64 0, .int .i64 p] 25)) w1 → w1.cell? ⟨w.heap.size, 1, none⟩ = some (.string tx)) := hid_of (fun w1 h => by
    obtain ⟨_, q1, _⟩ := row4 ((h.block w.heap.size (by simp)).trans (heap_alloc_new w (.cells #[.int .i64 4, .string tx, .int .i64 0, .int .i64 p] 25)))
    exact q1)
  have cs0 := cs.out _ (bel_drew (Below.refl _ (w.alloc (.cells #[.int .i64 4, .string tx, .int .i64 0, .int .i64 p] 25))))
  clear cs cs0
  go_enter Tryd.func26, Tryd.ntmps26
  go_wp2
  go_quiet ((go_at_call 39; exact Calls.quiet_of_same (VA.out _)))
  go_wp2
  go_ret2
  exact spp_eq rfl (fun h => rfl) (BX.out.trans ((bel_drewN (Below.refl _ _) _).mono BX.out.size))
set_option maxRecDepth 100000 in
set_option maxHeartbeats 3200000 in
theorem qs5_bad (p : Int) (tx : ByteArray) (w : World) (hk : sgn tx = false) :
    Calls Tryd.prog 26 #[.agg #[.int .i64 5, .string tx, .int .i64 0, .int .i64 p]] w (SpP false tx w) := by
  have KA : Hid (∀ w1, Calls Tryd.prog 18 #[.string tx] w1 (BlP false w1)) := hid_of (fun w1 => by rw [← hk]; exact qsign_any tx w1)
  clear hk
  have BX := hid_of (bel_alloc w (.cells #[.int .i64 5, .string tx, .int .i64 0, .int .i64 p] 25))
  have cs : Hid (∀ w1, Below (w.alloc (.cells #[.int .i64 5, .string tx, .int .i64 0, .int .i64 p] 25)).heap.size (w.alloc (.cells #[.int .i64 5, .string tx, .int .i64 0, .int .i64 p] 25)) w1 → w1.cell? ⟨w.heap.size, 1, none⟩ = some (.string tx)) := hid_of (fun w1 h => by
    obtain ⟨_, q1, _⟩ := row4 ((h.block w.heap.size (by simp)).trans (heap_alloc_new w (.cells #[.int .i64 5, .string tx, .int .i64 0, .int .i64 p] 25)))
    exact q1)
  have cs0 := cs.out _ (bel_drew (Below.refl _ (w.alloc (.cells #[.int .i64 5, .string tx, .int .i64 0, .int .i64 p] 25))))
  go_enter Tryd.func26, Tryd.ntmps26
  go_wp2
  go_region_held3 (fun W => W.cell? ⟨w.heap.size, 1, none⟩ = some (.string tx)) (first | exact cs0 | exact cs4) (first
    | (go_at_call 18; ((with_reducible refine (KA.out _).mono ?_); (rintro e w1 ⟨rfl, h⟩; have B1 := hid_of h; have cs4 := cs.out _ ((bel_drew (Below.refl _ _)).trans (h.mono (Nat.le_refl _))); clear h))))
  all_goals go_wp2
  all_goals go_ret2
  all_goals exact spp_eq rfl (fun h => (by cases h)) (BX.out.trans ((bel_drew (Below.refl _ _)).trans (B1.out.mono (Nat.le_refl _)) |>.mono BX.out.size))
set_option maxRecDepth 100000 in
set_option maxHeartbeats 3200000 in
theorem qs5_ok (p : Int) (tx : ByteArray) (w : World) (hk : sgn tx = true) :
    Calls Tryd.prog 26 #[.agg #[.int .i64 5, .string tx, .int .i64 0, .int .i64 p]] w (SpP true tx w) := by
  have KA : Hid (∀ w1, Calls Tryd.prog 18 #[.string tx] w1 (BlP true w1)) := hid_of (fun w1 => by rw [← hk]; exact qsign_any tx w1)
  clear hk
  have BX := hid_of (bel_alloc w (.cells #[.int .i64 5, .string tx, .int .i64 0, .int .i64 p] 25))
  have cs : Hid (∀ w1, Below (w.alloc (.cells #[.int .i64 5, .string tx, .int .i64 0, .int .i64 p] 25)).heap.size (w.alloc (.cells #[.int .i64 5, .string tx, .int .i64 0, .int .i64 p] 25)) w1 → w1.cell? ⟨w.heap.size, 1, none⟩ = some (.string tx)) := hid_of (fun w1 h => by
    obtain ⟨_, q1, _⟩ := row4 ((h.block w.heap.size (by simp)).trans (heap_alloc_new w (.cells #[.int .i64 5, .string tx, .int .i64 0, .int .i64 p] 25)))
    exact q1)
  have cs0 := cs.out _ (bel_drew (Below.refl _ (w.alloc (.cells #[.int .i64 5, .string tx, .int .i64 0, .int .i64 p] 25))))
  go_enter Tryd.func26, Tryd.ntmps26
  go_wp2
  go_region_held3 (fun W => W.cell? ⟨w.heap.size, 1, none⟩ = some (.string tx)) (first | exact cs0 | exact cs4) (first
    | (go_at_call 18; ((with_reducible refine (KA.out _).mono ?_); (rintro e w1 ⟨rfl, h⟩; have B1 := hid_of h; have cs4 := cs.out _ ((bel_drew (Below.refl _ _)).trans (h.mono (Nat.le_refl _))); clear h))))
  all_goals go_wp2
  all_goals go_ret2
  all_goals exact spp_eq rfl (fun h => rfl) (BX.out.trans ((bel_drew (Below.refl _ _)).trans (B1.out.mono (Nat.le_refl _)) |>.mono BX.out.size))
/-- Which tokens the reference spells: all that are possible but the end. -/
def okQ (t : T4) : Bool := okF t && !decide (t.kind = 6)
theorem qsp_any (t : T4) (hs : Sm t) (w : World) : Calls Tryd.prog 26 #[t.v] w (SpP (okQ t) (spell t) w) := by
  unfold okQ
  obtain ⟨k, tx, n, p⟩ := t
  obtain ⟨htx, hlo, hhi⟩ := hs
  simp only at htx hlo hhi
  show Calls Tryd.prog 26 #[.agg #[.int .i64 k, .string tx, .int .i64 n, .int .i64 p]] w (SpP (okF ⟨k, tx, n, p⟩ && !decide (k = 6)) (spell ⟨k, tx, n, p⟩) w)
  by_cases h3 : k = 3
  · subst h3
    rw [show (okF ⟨3, tx, n, p⟩ && !decide ((3 : Int) = 6)) = okF ⟨3, tx, n, p⟩ from Bool.and_true _, ok3]
    by_cases ht : tx = ⟨#[]⟩
    · subst ht
      by_cases h0 : 0 ≤ n
      · by_cases h1 : n ≤ 1000000000000000
        · obtain ⟨m, rfl⟩ : ∃ m : Nat, n = m := ⟨n.toNat, by omega⟩
          exact (qs3_yes m p w (by omega)).mono fun _ _ h => spp_cong h (decide_eq_true ⟨rfl, h0, h1⟩).symm (fun _ => (itoa_nat _ h0).symm)
        · exact (qs3_big n p w (by omega)).mono fun _ _ h => spp_cong h (decide_eq_false (fun h => h1 h.2.2)).symm (fun h2 => absurd (of_decide_eq_true h2).2.2 h1)
      · exact (qs3_neg n p w (by omega)).mono fun _ _ h => spp_cong h (decide_eq_false (fun h => h0 h.2.1)).symm (fun h2 => absurd (of_decide_eq_true h2).2.1 h0)
    · exact (qs3_text n p tx w ht).mono fun _ _ h => spp_cong h (decide_eq_false (fun h => ht h.1)).symm (fun h2 => absurd (of_decide_eq_true h2).1 ht)
  have fin : ∀ {b : Bool}, b = false → Calls Tryd.prog 26 #[.agg #[.int .i64 k, .string tx, .int .i64 n, .int .i64 p]] w (SpP false ⟨#[]⟩ w) → Calls Tryd.prog 26 #[.agg #[.int .i64 k, .string tx, .int .i64 n, .int .i64 p]] w (SpP b (spell ⟨k, tx, n, p⟩) w) := fun hb h => h.mono fun _ _ h => spp_cong h hb.symm (fun h2 => by rw [hb] at h2; cases h2)
  by_cases hn : n = 0
  · subst hn
    by_cases h1 : k = 1
    · subst h1
      rw [show (okF ⟨1, tx, 0, p⟩ && !decide ((1 : Int) = 6)) = okF ⟨1, tx, 0, p⟩ from Bool.and_true _, ok1]
      cases hv : isName (strBytes tx) with
      | false => exact (qs1_bad p tx w htx hv).mono fun _ _ h => spp_cong h rfl (fun h2 => by cases h2)
      | true =>
        cases hk : kw tx with
        | true => exact (qs1_kw p tx w htx hv hk).mono fun _ _ h => spp_cong h rfl (fun h2 => by cases h2)
        | false => exact (qs1_ok p tx w htx hv hk).mono fun _ _ h => spp_cong h rfl (fun _ => rfl)
    by_cases h2 : k = 2
    · subst h2
      rw [show (okF ⟨2, tx, 0, p⟩ && !decide ((2 : Int) = 6)) = okF ⟨2, tx, 0, p⟩ from Bool.and_true _, ok2]
      cases hk : kw tx with
      | false => exact (qs2_bad p tx w hk).mono fun _ _ h => spp_cong h rfl (fun h2 => by cases h2)
      | true => exact (qs2_ok p tx w hk).mono fun _ _ h => spp_cong h rfl (fun _ => rfl)
    by_cases h4 : k = 4
    · subst h4
      rw [show (okF ⟨4, tx, 0, p⟩ && !decide ((4 : Int) = 6)) = okF ⟨4, tx, 0, p⟩ from Bool.and_true _, ok4]
      cases hv : isName (strBytes tx) with
      | false => exact (qs4_bad p tx w htx hv).mono fun _ _ h => spp_cong h rfl (fun h2 => by cases h2)
      | true => exact (qs4_ok p tx w htx hv).mono fun _ _ h => spp_cong h rfl (fun _ => rfl)
    by_cases h5 : k = 5
    · subst h5
      rw [show (okF ⟨5, tx, 0, p⟩ && !decide ((5 : Int) = 6)) = okF ⟨5, tx, 0, p⟩ from Bool.and_true _, ok5]
      cases hk : sgn tx with
      | false => exact (qs5_bad p tx w hk).mono fun _ _ h => spp_cong h rfl (fun h2 => by cases h2)
      | true => exact (qs5_ok p tx w hk).mono fun _ _ h => spp_cong h rfl (fun _ => rfl)
    refine fin ?_ (qs_other k p tx w h1 h2 h3 h4 h5)
    by_cases h6 : k = 6
    · subst h6; exact Bool.and_false _
    · rw [okx h1 h2 h3 h4 h5 h6]; rfl
  · refine fin ?_ (qs_n k n p tx w h3 hn)
    have : okF ⟨k, tx, n, p⟩ = false := by
      unfold okF
      rw [if_neg h3, decide_eq_false hn, Bool.and_false]
    rw [this]; rfl
end Go.Proofs.YtdmjlmlmdllhgaaDoor
