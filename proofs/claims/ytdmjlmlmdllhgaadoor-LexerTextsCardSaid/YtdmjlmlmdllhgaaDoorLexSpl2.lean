/- The spelling of a token: of the program, kinds other than integers. Bounds on sizes alone. -/
import Derived.Test.YtdmjlmlmdllhgaaDoorLexSpl
namespace Go.Proofs.YtdmjlmlmdllhgaaDoor
open Go.RowKit

set_option maxRecDepth 100000 in
set_option maxHeartbeats 3200000 in
theorem spell1_bad (n p : Int) (tx : ByteArray) (w : World) (hs : tx.size ≤ 1000000) (hv : isName (strBytes tx) = false) :
    Calls Tryd.prog 36 #[.agg #[.int .i64 1, .string tx, .int .i64 n, .int .i64 p]] w (SpP false (tx) w) := by
  have VA : Hid (∀ w, Calls Tryd.prog 50 #[.string tx] w fun e w' => e = .returned (.bool false) ∧ w = w') := hid_of (fun w => by rw [← hv]; exact (valid_any tx w (hmax hs)).mono fun _ _ h => ⟨h.1, h.2.symm⟩)
  clear hv hs
  have BX := hid_of (bel_alloc w (.cells #[.int .i64 1, .string tx, .int .i64 n, .int .i64 p] 25))
  have cs : Hid (∀ w1, Below (w.alloc (.cells #[.int .i64 1, .string tx, .int .i64 n, .int .i64 p] 25)).heap.size (w.alloc (.cells #[.int .i64 1, .string tx, .int .i64 n, .int .i64 p] 25)) w1 → w1.cell? ⟨w.heap.size, 1, none⟩ = some (.string tx) ∧ w1.cell? ⟨w.heap.size, 2, none⟩ = some (.int .i64 n)) := hid_of (fun w1 h => by
    obtain ⟨_, q1, q2, _⟩ := row4 ((h.block w.heap.size (by simp)).trans (heap_alloc_new w (.cells #[.int .i64 1, .string tx, .int .i64 n, .int .i64 p] 25)))
    exact ⟨q1, q2⟩)
  go_enter Tryd.func36, Tryd.ntmps36
  go_wp2_with (first
    | (go_at_call 50; ((with_reducible refine (VA.out _).mono ?_); (rintro e w' ⟨rfl, rfl⟩))))
  go_quiet (fail)
  go_wp2
  go_ret2
  exact spp_eq rfl (fun h => (by cases h)) (by first | exact BX.out.trans ((bel_drewN (Below.refl _ _) _).mono BX.out.size) | exact BX.out.trans ((bel_drewN (bel_drewN (Below.refl _ _) _) _).mono BX.out.size))
set_option maxRecDepth 100000 in
set_option maxHeartbeats 3200000 in
theorem spell1_kw (n p : Int) (tx : ByteArray) (w : World) (hs : tx.size ≤ 1000000) (hG : Glob w) (hv : isName (strBytes tx) = true) (hk : kw tx = true) :
    Calls Tryd.prog 36 #[.agg #[.int .i64 1, .string tx, .int .i64 n, .int .i64 p]] w (SpP false (tx) w) := by
  have VA : Hid (∀ w, Calls Tryd.prog 50 #[.string tx] w fun e w' => e = .returned (.bool true) ∧ w = w') := hid_of (fun w => by rw [← hv]; exact (valid_any tx w (hmax hs)).mono fun _ _ h => ⟨h.1, h.2.symm⟩)
  have KA : Hid (∀ w1, Below w.heap.size w w1 → Calls Tryd.prog 15 #[.string tx] w1 fun e w' => e = .returned (.bool true) ∧ w1 = w') := hid_of (fun w1 h => by rw [← hk]; exact (keyword_any tx w1 (hG.at h)).mono fun _ _ h => ⟨h.1, h.2.symm⟩)
  clear hv hs hk hG
  have BX := hid_of (bel_alloc w (.cells #[.int .i64 1, .string tx, .int .i64 n, .int .i64 p] 25))
  have cs : Hid (∀ w1, Below (w.alloc (.cells #[.int .i64 1, .string tx, .int .i64 n, .int .i64 p] 25)).heap.size (w.alloc (.cells #[.int .i64 1, .string tx, .int .i64 n, .int .i64 p] 25)) w1 → w1.cell? ⟨w.heap.size, 1, none⟩ = some (.string tx) ∧ w1.cell? ⟨w.heap.size, 2, none⟩ = some (.int .i64 n)) := hid_of (fun w1 h => by
    obtain ⟨_, q1, q2, _⟩ := row4 ((h.block w.heap.size (by simp)).trans (heap_alloc_new w (.cells #[.int .i64 1, .string tx, .int .i64 n, .int .i64 p] 25)))
    exact ⟨q1, q2⟩)
  go_enter Tryd.func36, Tryd.ntmps36
  go_wp2_with (first
    | (go_at_call 50; ((with_reducible refine (VA.out _).mono ?_); (rintro e w' ⟨rfl, rfl⟩)))
    | (go_at_call 15; ((with_reducible refine (KA.out _ BX.out).mono ?_); (rintro e w' ⟨rfl, rfl⟩))))
  go_quiet (fail)
  go_wp2
  go_ret2
  exact spp_eq rfl (fun h => (by cases h)) (by first | exact BX.out.trans ((bel_drewN (Below.refl _ _) _).mono BX.out.size) | exact BX.out.trans ((bel_drewN (bel_drewN (Below.refl _ _) _) _).mono BX.out.size))
set_option maxRecDepth 100000 in
set_option maxHeartbeats 3200000 in
theorem spell1_ok_z (p : Int) (tx : ByteArray) (w : World) (hs : tx.size ≤ 1000000) (hG : Glob w) (hv : isName (strBytes tx) = true) (hk : kw tx = false) :
    Calls Tryd.prog 36 #[.agg #[.int .i64 1, .string tx, .int .i64 0, .int .i64 p]] w (SpP true (tx) w) := by
  have VA : Hid (∀ w, Calls Tryd.prog 50 #[.string tx] w fun e w' => e = .returned (.bool true) ∧ w = w') := hid_of (fun w => by rw [← hv]; exact (valid_any tx w (hmax hs)).mono fun _ _ h => ⟨h.1, h.2.symm⟩)
  have KA : Hid (∀ w1, Below w.heap.size w w1 → Calls Tryd.prog 15 #[.string tx] w1 fun e w' => e = .returned (.bool false) ∧ w1 = w') := hid_of (fun w1 h => by rw [← hk]; exact (keyword_any tx w1 (hG.at h)).mono fun _ _ h => ⟨h.1, h.2.symm⟩)
  clear hv hs hk hG
  have BX := hid_of (bel_alloc w (.cells #[.int .i64 1, .string tx, .int .i64 0, .int .i64 p] 25))
  have cs : Hid (∀ w1, Below (w.alloc (.cells #[.int .i64 1, .string tx, .int .i64 0, .int .i64 p] 25)).heap.size (w.alloc (.cells #[.int .i64 1, .string tx, .int .i64 0, .int .i64 p] 25)) w1 → w1.cell? ⟨w.heap.size, 1, none⟩ = some (.string tx) ∧ w1.cell? ⟨w.heap.size, 2, none⟩ = some (.int .i64 0)) := hid_of (fun w1 h => by
    obtain ⟨_, q1, q2, _⟩ := row4 ((h.block w.heap.size (by simp)).trans (heap_alloc_new w (.cells #[.int .i64 1, .string tx, .int .i64 0, .int .i64 p] 25)))
    exact ⟨q1, q2⟩)
  go_enter Tryd.func36, Tryd.ntmps36
  go_wp2_with (first
    | (go_at_call 50; ((with_reducible refine (VA.out _).mono ?_); (rintro e w' ⟨rfl, rfl⟩)))
    | (go_at_call 15; ((with_reducible refine (KA.out _ BX.out).mono ?_); (rintro e w' ⟨rfl, rfl⟩))))
  go_quiet (fail)
  go_wp2
  go_ret2
  exact spp_eq rfl (fun h => rfl) (by first | exact BX.out.trans ((bel_drewN (Below.refl _ _) _).mono BX.out.size) | exact BX.out.trans ((bel_drewN (bel_drewN (Below.refl _ _) _) _).mono BX.out.size))
set_option maxRecDepth 100000 in
set_option maxHeartbeats 3200000 in
theorem spell1_ok_nz (n p : Int) (tx : ByteArray) (w : World) (hs : tx.size ≤ 1000000) (hG : Glob w) (hv : isName (strBytes tx) = true) (hk : kw tx = false) (hn : n ≠ 0) :
    Calls Tryd.prog 36 #[.agg #[.int .i64 1, .string tx, .int .i64 n, .int .i64 p]] w (SpP false (tx) w) := by
  have VA : Hid (∀ w, Calls Tryd.prog 50 #[.string tx] w fun e w' => e = .returned (.bool true) ∧ w = w') := hid_of (fun w => by rw [← hv]; exact (valid_any tx w (hmax hs)).mono fun _ _ h => ⟨h.1, h.2.symm⟩)
  have KA : Hid (∀ w1, Below w.heap.size w w1 → Calls Tryd.prog 15 #[.string tx] w1 fun e w' => e = .returned (.bool false) ∧ w1 = w') := hid_of (fun w1 h => by rw [← hk]; exact (keyword_any tx w1 (hG.at h)).mono fun _ _ h => ⟨h.1, h.2.symm⟩)
  clear hv hs hk hG
  have dn : (n == 0) = false := by simpa using hn
  clear hn
  have BX := hid_of (bel_alloc w (.cells #[.int .i64 1, .string tx, .int .i64 n, .int .i64 p] 25))
  have cs : Hid (∀ w1, Below (w.alloc (.cells #[.int .i64 1, .string tx, .int .i64 n, .int .i64 p] 25)).heap.size (w.alloc (.cells #[.int .i64 1, .string tx, .int .i64 n, .int .i64 p] 25)) w1 → w1.cell? ⟨w.heap.size, 1, none⟩ = some (.string tx) ∧ w1.cell? ⟨w.heap.size, 2, none⟩ = some (.int .i64 n)) := hid_of (fun w1 h => by
    obtain ⟨_, q1, q2, _⟩ := row4 ((h.block w.heap.size (by simp)).trans (heap_alloc_new w (.cells #[.int .i64 1, .string tx, .int .i64 n, .int .i64 p] 25)))
    exact ⟨q1, q2⟩)
  go_enter Tryd.func36, Tryd.ntmps36
  go_wp2_with (first
    | (go_at_call 50; ((with_reducible refine (VA.out _).mono ?_); (rintro e w' ⟨rfl, rfl⟩)))
    | (go_at_call 15; ((with_reducible refine (KA.out _ BX.out).mono ?_); (rintro e w' ⟨rfl, rfl⟩))))
  go_quiet (fail)
  go_wp2
  go_ret2
  exact spp_eq rfl (fun h => (by cases h)) (by first | exact BX.out.trans ((bel_drewN (Below.refl _ _) _).mono BX.out.size) | exact BX.out.trans ((bel_drewN (bel_drewN (Below.refl _ _) _) _).mono BX.out.size))
set_option maxRecDepth 100000 in
set_option maxHeartbeats 3200000 in
theorem spell2_bad (n p : Int) (tx : ByteArray) (w : World) (hG : Glob w) (hk : kw tx = false) :
    Calls Tryd.prog 36 #[.agg #[.int .i64 2, .string tx, .int .i64 n, .int .i64 p]] w (SpP false (tx) w) := by
  have KA : Hid (∀ w1, Below w.heap.size w w1 → Calls Tryd.prog 15 #[.string tx] w1 fun e w' => e = .returned (.bool false) ∧ w1 = w') := hid_of (fun w1 h => by rw [← hk]; exact (keyword_any tx w1 (hG.at h)).mono fun _ _ h => ⟨h.1, h.2.symm⟩)
  clear hk hG
  have BX := hid_of (bel_alloc w (.cells #[.int .i64 2, .string tx, .int .i64 n, .int .i64 p] 25))
  have cs : Hid (∀ w1, Below (w.alloc (.cells #[.int .i64 2, .string tx, .int .i64 n, .int .i64 p] 25)).heap.size (w.alloc (.cells #[.int .i64 2, .string tx, .int .i64 n, .int .i64 p] 25)) w1 → w1.cell? ⟨w.heap.size, 1, none⟩ = some (.string tx) ∧ w1.cell? ⟨w.heap.size, 2, none⟩ = some (.int .i64 n)) := hid_of (fun w1 h => by
    obtain ⟨_, q1, q2, _⟩ := row4 ((h.block w.heap.size (by simp)).trans (heap_alloc_new w (.cells #[.int .i64 2, .string tx, .int .i64 n, .int .i64 p] 25)))
    exact ⟨q1, q2⟩)
  go_enter Tryd.func36, Tryd.ntmps36
  go_wp2_with (first
    | (go_at_call 15; ((with_reducible refine (KA.out _ BX.out).mono ?_); (rintro e w' ⟨rfl, rfl⟩))))
  go_quiet (fail)
  go_wp2
  go_ret2
  exact spp_eq rfl (fun h => (by cases h)) (by first | exact BX.out.trans ((bel_drewN (Below.refl _ _) _).mono BX.out.size) | exact BX.out.trans ((bel_drewN (bel_drewN (Below.refl _ _) _) _).mono BX.out.size))
set_option maxRecDepth 100000 in
set_option maxHeartbeats 3200000 in
theorem spell2_ok_z (p : Int) (tx : ByteArray) (w : World) (hG : Glob w) (hk : kw tx = true) :
    Calls Tryd.prog 36 #[.agg #[.int .i64 2, .string tx, .int .i64 0, .int .i64 p]] w (SpP true (tx) w) := by
  have KA : Hid (∀ w1, Below w.heap.size w w1 → Calls Tryd.prog 15 #[.string tx] w1 fun e w' => e = .returned (.bool true) ∧ w1 = w') := hid_of (fun w1 h => by rw [← hk]; exact (keyword_any tx w1 (hG.at h)).mono fun _ _ h => ⟨h.1, h.2.symm⟩)
  clear hk hG
  have BX := hid_of (bel_alloc w (.cells #[.int .i64 2, .string tx, .int .i64 0, .int .i64 p] 25))
  have cs : Hid (∀ w1, Below (w.alloc (.cells #[.int .i64 2, .string tx, .int .i64 0, .int .i64 p] 25)).heap.size (w.alloc (.cells #[.int .i64 2, .string tx, .int .i64 0, .int .i64 p] 25)) w1 → w1.cell? ⟨w.heap.size, 1, none⟩ = some (.string tx) ∧ w1.cell? ⟨w.heap.size, 2, none⟩ = some (.int .i64 0)) := hid_of (fun w1 h => by
    obtain ⟨_, q1, q2, _⟩ := row4 ((h.block w.heap.size (by simp)).trans (heap_alloc_new w (.cells #[.int .i64 2, .string tx, .int .i64 0, .int .i64 p] 25)))
    exact ⟨q1, q2⟩)
  go_enter Tryd.func36, Tryd.ntmps36
  go_wp2_with (first
    | (go_at_call 15; ((with_reducible refine (KA.out _ BX.out).mono ?_); (rintro e w' ⟨rfl, rfl⟩))))
  go_quiet (fail)
  go_wp2
  go_ret2
  exact spp_eq rfl (fun h => rfl) (by first | exact BX.out.trans ((bel_drewN (Below.refl _ _) _).mono BX.out.size) | exact BX.out.trans ((bel_drewN (bel_drewN (Below.refl _ _) _) _).mono BX.out.size))
set_option maxRecDepth 100000 in
set_option maxHeartbeats 3200000 in
theorem spell2_ok_nz (n p : Int) (tx : ByteArray) (w : World) (hG : Glob w) (hk : kw tx = true) (hn : n ≠ 0) :
    Calls Tryd.prog 36 #[.agg #[.int .i64 2, .string tx, .int .i64 n, .int .i64 p]] w (SpP false (tx) w) := by
  have KA : Hid (∀ w1, Below w.heap.size w w1 → Calls Tryd.prog 15 #[.string tx] w1 fun e w' => e = .returned (.bool true) ∧ w1 = w') := hid_of (fun w1 h => by rw [← hk]; exact (keyword_any tx w1 (hG.at h)).mono fun _ _ h => ⟨h.1, h.2.symm⟩)
  clear hk hG
  have dn : (n == 0) = false := by simpa using hn
  clear hn
  have BX := hid_of (bel_alloc w (.cells #[.int .i64 2, .string tx, .int .i64 n, .int .i64 p] 25))
  have cs : Hid (∀ w1, Below (w.alloc (.cells #[.int .i64 2, .string tx, .int .i64 n, .int .i64 p] 25)).heap.size (w.alloc (.cells #[.int .i64 2, .string tx, .int .i64 n, .int .i64 p] 25)) w1 → w1.cell? ⟨w.heap.size, 1, none⟩ = some (.string tx) ∧ w1.cell? ⟨w.heap.size, 2, none⟩ = some (.int .i64 n)) := hid_of (fun w1 h => by
    obtain ⟨_, q1, q2, _⟩ := row4 ((h.block w.heap.size (by simp)).trans (heap_alloc_new w (.cells #[.int .i64 2, .string tx, .int .i64 n, .int .i64 p] 25)))
    exact ⟨q1, q2⟩)
  go_enter Tryd.func36, Tryd.ntmps36
  go_wp2_with (first
    | (go_at_call 15; ((with_reducible refine (KA.out _ BX.out).mono ?_); (rintro e w' ⟨rfl, rfl⟩))))
  go_quiet (fail)
  go_wp2
  go_ret2
  exact spp_eq rfl (fun h => (by cases h)) (by first | exact BX.out.trans ((bel_drewN (Below.refl _ _) _).mono BX.out.size) | exact BX.out.trans ((bel_drewN (bel_drewN (Below.refl _ _) _) _).mono BX.out.size))
set_option maxRecDepth 100000 in
set_option maxHeartbeats 3200000 in
theorem spell4_bad (n p : Int) (tx : ByteArray) (w : World) (hs : tx.size ≤ 1000000) (hv : isName (strBytes tx) = false) :
    Calls Tryd.prog 36 #[.agg #[.int .i64 4, .string tx, .int .i64 n, .int .i64 p]] w (SpP false (⟨#[39]⟩ ++ tx ++ ⟨#[39]⟩) w) := by
  have z1 : (⟨#[39]⟩ : ByteArray).size = 1 := rfl
  have z2 : ((⟨#[39]⟩ : ByteArray) ++ tx).size = 1 + tx.size := by rw [ByteArray.size_append]; rfl
  have A1 : ∀ W, (Op.stringOp .add ⟨#[39]⟩ tx).run Tryd.prog W = .ok (.string (⟨#[39]⟩ ++ tx)) W := fun W => run_string_add_sum W _ _ (by omega)
  have A2 : ∀ W, (Op.stringOp .add (⟨#[39]⟩ ++ tx) ⟨#[39]⟩).run Tryd.prog W = .ok (.string (⟨#[39]⟩ ++ tx ++ ⟨#[39]⟩)) W := fun W => run_string_add_sum W _ _ (by omega)
  clear z1 z2
  have VA : Hid (∀ w, Calls Tryd.prog 50 #[.string tx] w fun e w' => e = .returned (.bool false) ∧ w' = w) := hid_of (fun w => by rw [← hv]; exact valid_any tx w (hmax hs))
  clear hv hs
  have BX := hid_of (bel_alloc w (.cells #[.int .i64 4, .string tx, .int .i64 n, .int .i64 p] 25))
  have cs : Hid (∀ w1, Below (w.alloc (.cells #[.int .i64 4, .string tx, .int .i64 n, .int .i64 p] 25)).heap.size (w.alloc (.cells #[.int .i64 4, .string tx, .int .i64 n, .int .i64 p] 25)) w1 → w1.cell? ⟨w.heap.size, 1, none⟩ = some (.string tx) ∧ w1.cell? ⟨w.heap.size, 2, none⟩ = some (.int .i64 n)) := hid_of (fun w1 h => by
    obtain ⟨_, q1, q2, _⟩ := row4 ((h.block w.heap.size (by simp)).trans (heap_alloc_new w (.cells #[.int .i64 4, .string tx, .int .i64 n, .int .i64 p] 25)))
    exact ⟨q1, q2⟩)
  go_enter Tryd.func36, Tryd.ntmps36
  go_wp2
  go_quiet (((go_at_call 50; exact Calls.quiet_of_same (VA.out _))))
  go_wp2
  go_quiet (fail)
  go_wp2
  go_ret2
  exact spp_eq rfl (fun h => (by cases h)) (by first | exact BX.out.trans ((bel_drewN (Below.refl _ _) _).mono BX.out.size) | exact BX.out.trans ((bel_drewN (bel_drewN (Below.refl _ _) _) _).mono BX.out.size))
set_option maxRecDepth 100000 in
set_option maxHeartbeats 3200000 in
theorem spell4_ok_z (p : Int) (tx : ByteArray) (w : World) (hs : tx.size ≤ 1000000) (hv : isName (strBytes tx) = true) :
    Calls Tryd.prog 36 #[.agg #[.int .i64 4, .string tx, .int .i64 0, .int .i64 p]] w (SpP true (⟨#[39]⟩ ++ tx ++ ⟨#[39]⟩) w) := by
  have z1 : (⟨#[39]⟩ : ByteArray).size = 1 := rfl
  have z2 : ((⟨#[39]⟩ : ByteArray) ++ tx).size = 1 + tx.size := by rw [ByteArray.size_append]; rfl
  have A1 : ∀ W, (Op.stringOp .add ⟨#[39]⟩ tx).run Tryd.prog W = .ok (.string (⟨#[39]⟩ ++ tx)) W := fun W => run_string_add_sum W _ _ (by omega)
  have A2 : ∀ W, (Op.stringOp .add (⟨#[39]⟩ ++ tx) ⟨#[39]⟩).run Tryd.prog W = .ok (.string (⟨#[39]⟩ ++ tx ++ ⟨#[39]⟩)) W := fun W => run_string_add_sum W _ _ (by omega)
  clear z1 z2
  have VA : Hid (∀ w, Calls Tryd.prog 50 #[.string tx] w fun e w' => e = .returned (.bool true) ∧ w' = w) := hid_of (fun w => by rw [← hv]; exact valid_any tx w (hmax hs))
  clear hv hs
  have BX := hid_of (bel_alloc w (.cells #[.int .i64 4, .string tx, .int .i64 0, .int .i64 p] 25))
  have cs : Hid (∀ w1, Below (w.alloc (.cells #[.int .i64 4, .string tx, .int .i64 0, .int .i64 p] 25)).heap.size (w.alloc (.cells #[.int .i64 4, .string tx, .int .i64 0, .int .i64 p] 25)) w1 → w1.cell? ⟨w.heap.size, 1, none⟩ = some (.string tx) ∧ w1.cell? ⟨w.heap.size, 2, none⟩ = some (.int .i64 0)) := hid_of (fun w1 h => by
    obtain ⟨_, q1, q2, _⟩ := row4 ((h.block w.heap.size (by simp)).trans (heap_alloc_new w (.cells #[.int .i64 4, .string tx, .int .i64 0, .int .i64 p] 25)))
    exact ⟨q1, q2⟩)
  go_enter Tryd.func36, Tryd.ntmps36
  go_wp2
  go_quiet (((go_at_call 50; exact Calls.quiet_of_same (VA.out _))))
  go_wp2
  go_quiet (fail)
  go_wp2
  go_ret2
  exact spp_eq rfl (fun h => rfl) (by first | exact BX.out.trans ((bel_drewN (Below.refl _ _) _).mono BX.out.size) | exact BX.out.trans ((bel_drewN (bel_drewN (Below.refl _ _) _) _).mono BX.out.size))
set_option maxRecDepth 100000 in
set_option maxHeartbeats 3200000 in
theorem spell4_ok_nz (n p : Int) (tx : ByteArray) (w : World) (hs : tx.size ≤ 1000000) (hv : isName (strBytes tx) = true) (hn : n ≠ 0) :
    Calls Tryd.prog 36 #[.agg #[.int .i64 4, .string tx, .int .i64 n, .int .i64 p]] w (SpP false (⟨#[39]⟩ ++ tx ++ ⟨#[39]⟩) w) := by
  have z1 : (⟨#[39]⟩ : ByteArray).size = 1 := rfl
  have z2 : ((⟨#[39]⟩ : ByteArray) ++ tx).size = 1 + tx.size := by rw [ByteArray.size_append]; rfl
  have A1 : ∀ W, (Op.stringOp .add ⟨#[39]⟩ tx).run Tryd.prog W = .ok (.string (⟨#[39]⟩ ++ tx)) W := fun W => run_string_add_sum W _ _ (by omega)
  have A2 : ∀ W, (Op.stringOp .add (⟨#[39]⟩ ++ tx) ⟨#[39]⟩).run Tryd.prog W = .ok (.string (⟨#[39]⟩ ++ tx ++ ⟨#[39]⟩)) W := fun W => run_string_add_sum W _ _ (by omega)
  clear z1 z2
  have VA : Hid (∀ w, Calls Tryd.prog 50 #[.string tx] w fun e w' => e = .returned (.bool true) ∧ w' = w) := hid_of (fun w => by rw [← hv]; exact valid_any tx w (hmax hs))
  clear hv hs
  have dn : (n == 0) = false := by simpa using hn
  clear hn
  have BX := hid_of (bel_alloc w (.cells #[.int .i64 4, .string tx, .int .i64 n, .int .i64 p] 25))
  have cs : Hid (∀ w1, Below (w.alloc (.cells #[.int .i64 4, .string tx, .int .i64 n, .int .i64 p] 25)).heap.size (w.alloc (.cells #[.int .i64 4, .string tx, .int .i64 n, .int .i64 p] 25)) w1 → w1.cell? ⟨w.heap.size, 1, none⟩ = some (.string tx) ∧ w1.cell? ⟨w.heap.size, 2, none⟩ = some (.int .i64 n)) := hid_of (fun w1 h => by
    obtain ⟨_, q1, q2, _⟩ := row4 ((h.block w.heap.size (by simp)).trans (heap_alloc_new w (.cells #[.int .i64 4, .string tx, .int .i64 n, .int .i64 p] 25)))
    exact ⟨q1, q2⟩)
  go_enter Tryd.func36, Tryd.ntmps36
  go_wp2
  go_quiet (((go_at_call 50; exact Calls.quiet_of_same (VA.out _))))
  go_wp2
  go_quiet (fail)
  go_wp2
  go_ret2
  exact spp_eq rfl (fun h => (by cases h)) (by first | exact BX.out.trans ((bel_drewN (Below.refl _ _) _).mono BX.out.size) | exact BX.out.trans ((bel_drewN (bel_drewN (Below.refl _ _) _) _).mono BX.out.size))
set_option maxRecDepth 100000 in
set_option maxHeartbeats 3200000 in
theorem spell5_bad (n p : Int) (tx : ByteArray) (w : World) (hG : Glob w) (hk : sgn tx = false) :
    Calls Tryd.prog 36 #[.agg #[.int .i64 5, .string tx, .int .i64 n, .int .i64 p]] w (SpP false (tx) w) := by
  have SA : Hid (∀ w1, Below w.heap.size w w1 → Calls Tryd.prog 17 #[.string tx] w1 fun e w' => e = .returned (.bool false) ∧ w1 = w') := hid_of (fun w1 h => by rw [← hk]; exact (sign_any tx w1 (hG.at h)).mono fun _ _ h => ⟨h.1, h.2.symm⟩)
  clear hk hG
  have BX := hid_of (bel_alloc w (.cells #[.int .i64 5, .string tx, .int .i64 n, .int .i64 p] 25))
  have cs : Hid (∀ w1, Below (w.alloc (.cells #[.int .i64 5, .string tx, .int .i64 n, .int .i64 p] 25)).heap.size (w.alloc (.cells #[.int .i64 5, .string tx, .int .i64 n, .int .i64 p] 25)) w1 → w1.cell? ⟨w.heap.size, 1, none⟩ = some (.string tx) ∧ w1.cell? ⟨w.heap.size, 2, none⟩ = some (.int .i64 n)) := hid_of (fun w1 h => by
    obtain ⟨_, q1, q2, _⟩ := row4 ((h.block w.heap.size (by simp)).trans (heap_alloc_new w (.cells #[.int .i64 5, .string tx, .int .i64 n, .int .i64 p] 25)))
    exact ⟨q1, q2⟩)
  go_enter Tryd.func36, Tryd.ntmps36
  go_wp2_with (first
    | (go_at_call 17; ((with_reducible refine (SA.out _ BX.out).mono ?_); (rintro e w' ⟨rfl, rfl⟩))))
  go_quiet (fail)
  go_wp2
  go_ret2
  exact spp_eq rfl (fun h => (by cases h)) (by first | exact BX.out.trans ((bel_drewN (Below.refl _ _) _).mono BX.out.size) | exact BX.out.trans ((bel_drewN (bel_drewN (Below.refl _ _) _) _).mono BX.out.size))
set_option maxRecDepth 100000 in
set_option maxHeartbeats 3200000 in
theorem spell5_ok_z (p : Int) (tx : ByteArray) (w : World) (hG : Glob w) (hk : sgn tx = true) :
    Calls Tryd.prog 36 #[.agg #[.int .i64 5, .string tx, .int .i64 0, .int .i64 p]] w (SpP true (tx) w) := by
  have SA : Hid (∀ w1, Below w.heap.size w w1 → Calls Tryd.prog 17 #[.string tx] w1 fun e w' => e = .returned (.bool true) ∧ w1 = w') := hid_of (fun w1 h => by rw [← hk]; exact (sign_any tx w1 (hG.at h)).mono fun _ _ h => ⟨h.1, h.2.symm⟩)
  clear hk hG
  have BX := hid_of (bel_alloc w (.cells #[.int .i64 5, .string tx, .int .i64 0, .int .i64 p] 25))
  have cs : Hid (∀ w1, Below (w.alloc (.cells #[.int .i64 5, .string tx, .int .i64 0, .int .i64 p] 25)).heap.size (w.alloc (.cells #[.int .i64 5, .string tx, .int .i64 0, .int .i64 p] 25)) w1 → w1.cell? ⟨w.heap.size, 1, none⟩ = some (.string tx) ∧ w1.cell? ⟨w.heap.size, 2, none⟩ = some (.int .i64 0)) := hid_of (fun w1 h => by
    obtain ⟨_, q1, q2, _⟩ := row4 ((h.block w.heap.size (by simp)).trans (heap_alloc_new w (.cells #[.int .i64 5, .string tx, .int .i64 0, .int .i64 p] 25)))
    exact ⟨q1, q2⟩)
  go_enter Tryd.func36, Tryd.ntmps36
  go_wp2_with (first
    | (go_at_call 17; ((with_reducible refine (SA.out _ BX.out).mono ?_); (rintro e w' ⟨rfl, rfl⟩))))
  go_quiet (fail)
  go_wp2
  go_ret2
  exact spp_eq rfl (fun h => rfl) (by first | exact BX.out.trans ((bel_drewN (Below.refl _ _) _).mono BX.out.size) | exact BX.out.trans ((bel_drewN (bel_drewN (Below.refl _ _) _) _).mono BX.out.size))
set_option maxRecDepth 100000 in
set_option maxHeartbeats 3200000 in
theorem spell5_ok_nz (n p : Int) (tx : ByteArray) (w : World) (hG : Glob w) (hk : sgn tx = true) (hn : n ≠ 0) :
    Calls Tryd.prog 36 #[.agg #[.int .i64 5, .string tx, .int .i64 n, .int .i64 p]] w (SpP false (tx) w) := by
  have SA : Hid (∀ w1, Below w.heap.size w w1 → Calls Tryd.prog 17 #[.string tx] w1 fun e w' => e = .returned (.bool true) ∧ w1 = w') := hid_of (fun w1 h => by rw [← hk]; exact (sign_any tx w1 (hG.at h)).mono fun _ _ h => ⟨h.1, h.2.symm⟩)
  clear hk hG
  have dn : (n == 0) = false := by simpa using hn
  clear hn
  have BX := hid_of (bel_alloc w (.cells #[.int .i64 5, .string tx, .int .i64 n, .int .i64 p] 25))
  have cs : Hid (∀ w1, Below (w.alloc (.cells #[.int .i64 5, .string tx, .int .i64 n, .int .i64 p] 25)).heap.size (w.alloc (.cells #[.int .i64 5, .string tx, .int .i64 n, .int .i64 p] 25)) w1 → w1.cell? ⟨w.heap.size, 1, none⟩ = some (.string tx) ∧ w1.cell? ⟨w.heap.size, 2, none⟩ = some (.int .i64 n)) := hid_of (fun w1 h => by
    obtain ⟨_, q1, q2, _⟩ := row4 ((h.block w.heap.size (by simp)).trans (heap_alloc_new w (.cells #[.int .i64 5, .string tx, .int .i64 n, .int .i64 p] 25)))
    exact ⟨q1, q2⟩)
  go_enter Tryd.func36, Tryd.ntmps36
  go_wp2_with (first
    | (go_at_call 17; ((with_reducible refine (SA.out _ BX.out).mono ?_); (rintro e w' ⟨rfl, rfl⟩))))
  go_quiet (fail)
  go_wp2
  go_ret2
  exact spp_eq rfl (fun h => (by cases h)) (by first | exact BX.out.trans ((bel_drewN (Below.refl _ _) _).mono BX.out.size) | exact BX.out.trans ((bel_drewN (bel_drewN (Below.refl _ _) _) _).mono BX.out.size))
set_option maxRecDepth 100000 in
set_option maxHeartbeats 3200000 in
theorem spell6_bad (n p : Int) (tx : ByteArray) (w : World) (ht : tx ≠ ⟨#[]⟩) :
    Calls Tryd.prog 36 #[.agg #[.int .i64 6, .string tx, .int .i64 n, .int .i64 p]] w (SpP false (tx) w) := by
  have d1 : tx.toList ≠ [] := txt_ne ht
  have d2 : (tx.toList == []) = false := by simpa using d1
  clear ht
  have BX := hid_of (bel_alloc w (.cells #[.int .i64 6, .string tx, .int .i64 n, .int .i64 p] 25))
  have cs : Hid (∀ w1, Below (w.alloc (.cells #[.int .i64 6, .string tx, .int .i64 n, .int .i64 p] 25)).heap.size (w.alloc (.cells #[.int .i64 6, .string tx, .int .i64 n, .int .i64 p] 25)) w1 → w1.cell? ⟨w.heap.size, 1, none⟩ = some (.string tx) ∧ w1.cell? ⟨w.heap.size, 2, none⟩ = some (.int .i64 n)) := hid_of (fun w1 h => by
    obtain ⟨_, q1, q2, _⟩ := row4 ((h.block w.heap.size (by simp)).trans (heap_alloc_new w (.cells #[.int .i64 6, .string tx, .int .i64 n, .int .i64 p] 25)))
    exact ⟨q1, q2⟩)
  go_enter Tryd.func36, Tryd.ntmps36
  go_wp2
  go_quiet (fail)
  go_wp2
  go_ret2
  exact spp_eq rfl (fun h => (by cases h)) (by first | exact BX.out.trans ((bel_drewN (Below.refl _ _) _).mono BX.out.size) | exact BX.out.trans ((bel_drewN (bel_drewN (Below.refl _ _) _) _).mono BX.out.size))
set_option maxRecDepth 100000 in
set_option maxHeartbeats 3200000 in
theorem spell6_ok_z (p : Int) (w : World)  :
    Calls Tryd.prog 36 #[.agg #[.int .i64 6, .string ⟨#[]⟩, .int .i64 0, .int .i64 p]] w (SpP true (⟨#[]⟩) w) := by
  have BX := hid_of (bel_alloc w (.cells #[.int .i64 6, .string ⟨#[]⟩, .int .i64 0, .int .i64 p] 25))
  have cs : Hid (∀ w1, Below (w.alloc (.cells #[.int .i64 6, .string ⟨#[]⟩, .int .i64 0, .int .i64 p] 25)).heap.size (w.alloc (.cells #[.int .i64 6, .string ⟨#[]⟩, .int .i64 0, .int .i64 p] 25)) w1 → w1.cell? ⟨w.heap.size, 1, none⟩ = some (.string ⟨#[]⟩) ∧ w1.cell? ⟨w.heap.size, 2, none⟩ = some (.int .i64 0)) := hid_of (fun w1 h => by
    obtain ⟨_, q1, q2, _⟩ := row4 ((h.block w.heap.size (by simp)).trans (heap_alloc_new w (.cells #[.int .i64 6, .string ⟨#[]⟩, .int .i64 0, .int .i64 p] 25)))
    exact ⟨q1, q2⟩)
  go_enter Tryd.func36, Tryd.ntmps36
  go_wp2
  go_quiet (fail)
  go_wp2
  go_ret2
  exact spp_eq rfl (fun h => rfl) (by first | exact BX.out.trans ((bel_drewN (Below.refl _ _) _).mono BX.out.size) | exact BX.out.trans ((bel_drewN (bel_drewN (Below.refl _ _) _) _).mono BX.out.size))
set_option maxRecDepth 100000 in
set_option maxHeartbeats 3200000 in
theorem spell6_ok_nz (n p : Int) (w : World)  (hn : n ≠ 0) :
    Calls Tryd.prog 36 #[.agg #[.int .i64 6, .string ⟨#[]⟩, .int .i64 n, .int .i64 p]] w (SpP false (⟨#[]⟩) w) := by
  have dn : (n == 0) = false := by simpa using hn
  clear hn
  have BX := hid_of (bel_alloc w (.cells #[.int .i64 6, .string ⟨#[]⟩, .int .i64 n, .int .i64 p] 25))
  have cs : Hid (∀ w1, Below (w.alloc (.cells #[.int .i64 6, .string ⟨#[]⟩, .int .i64 n, .int .i64 p] 25)).heap.size (w.alloc (.cells #[.int .i64 6, .string ⟨#[]⟩, .int .i64 n, .int .i64 p] 25)) w1 → w1.cell? ⟨w.heap.size, 1, none⟩ = some (.string ⟨#[]⟩) ∧ w1.cell? ⟨w.heap.size, 2, none⟩ = some (.int .i64 n)) := hid_of (fun w1 h => by
    obtain ⟨_, q1, q2, _⟩ := row4 ((h.block w.heap.size (by simp)).trans (heap_alloc_new w (.cells #[.int .i64 6, .string ⟨#[]⟩, .int .i64 n, .int .i64 p] 25)))
    exact ⟨q1, q2⟩)
  go_enter Tryd.func36, Tryd.ntmps36
  go_wp2
  go_quiet (fail)
  go_wp2
  go_ret2
  exact spp_eq rfl (fun h => (by cases h)) (by first | exact BX.out.trans ((bel_drewN (Below.refl _ _) _).mono BX.out.size) | exact BX.out.trans ((bel_drewN (bel_drewN (Below.refl _ _) _) _).mono BX.out.size))
set_option maxRecDepth 100000 in
set_option maxHeartbeats 3200000 in
theorem spell_other (k n p : Int) (tx : ByteArray) (w : World) (h1 : k ≠ 1) (h2 : k ≠ 2) (h3 : k ≠ 3) (h4 : k ≠ 4) (h5 : k ≠ 5) (h6 : k ≠ 6) :
    Calls Tryd.prog 36 #[.agg #[.int .i64 k, .string tx, .int .i64 n, .int .i64 p]] w (SpP false (tx) w) := by
  have e1 : (k == 1) = false := by simpa using h1
  have e2 : (k == 2) = false := by simpa using h2
  have e3 : (k == 3) = false := by simpa using h3
  have e4 : (k == 4) = false := by simpa using h4
  have e5 : (k == 5) = false := by simpa using h5
  have e6 : (k == 6) = false := by simpa using h6
  clear h1 h2 h3 h4 h5 h6
  have BX := hid_of (bel_alloc w (.cells #[.int .i64 k, .string tx, .int .i64 n, .int .i64 p] 25))
  have cs : Hid (∀ w1, Below (w.alloc (.cells #[.int .i64 k, .string tx, .int .i64 n, .int .i64 p] 25)).heap.size (w.alloc (.cells #[.int .i64 k, .string tx, .int .i64 n, .int .i64 p] 25)) w1 → w1.cell? ⟨w.heap.size, 1, none⟩ = some (.string tx) ∧ w1.cell? ⟨w.heap.size, 2, none⟩ = some (.int .i64 n)) := hid_of (fun w1 h => by
    obtain ⟨_, q1, q2, _⟩ := row4 ((h.block w.heap.size (by simp)).trans (heap_alloc_new w (.cells #[.int .i64 k, .string tx, .int .i64 n, .int .i64 p] 25)))
    exact ⟨q1, q2⟩)
  go_enter Tryd.func36, Tryd.ntmps36
  go_wp2
  go_quiet (fail)
  go_wp2
  go_ret2
  exact spp_eq rfl (fun h => (by cases h)) (by first | exact BX.out.trans ((bel_drewN (Below.refl _ _) _).mono BX.out.size) | exact BX.out.trans ((bel_drewN (bel_drewN (Below.refl _ _) _) _).mono BX.out.size))
end Go.Proofs.YtdmjlmlmdllhgaaDoor
