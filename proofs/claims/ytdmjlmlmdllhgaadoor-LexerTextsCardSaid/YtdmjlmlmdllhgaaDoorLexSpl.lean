/- The spelling of a token: of the program. Bounds on sizes alone. -/
import Derived.Test.YtdmjlmlmdllhgaaDoorLexSam
import Derived.Lib.ItoaMem
import Derived.Lib.ItoaLen
namespace Go.Proofs.YtdmjlmlmdllhgaaDoor
open Go.RowKit

/-- Whether a token is possible. -/
def okF (t : T4) : Bool :=
  if t.kind = 3 then decide (t.text = ⟨#[]⟩ ∧ 0 ≤ t.n ∧ t.n ≤ 1000000000000000)
  else (if t.kind = 1 then isName (strBytes t.text) && !kw t.text else if t.kind = 2 then kw t.text else if t.kind = 4 then isName (strBytes t.text) else if t.kind = 5 then sgn t.text else if t.kind = 6 then decide (t.text = ⟨#[]⟩) else false) && decide (t.n = 0)
/-- How a possible token is written. -/
def spell (t : T4) : ByteArray := if t.kind = 3 then ⟨(Lib.itoa t.n).toArray⟩ else if t.kind = 4 then ⟨#[39]⟩ ++ t.text ++ ⟨#[39]⟩ else t.text
/-- What spelling says. -/
def SpP (ok : Bool) (sp : ByteArray) (w : World) (e : Ending) (w' : World) : Prop := ∃ x, e = .returned (.tuple #[.string x, .bool ok]) ∧ (ok = true → x = sp) ∧ Below w.heap.size w w'
theorem spp_mk {ok : Bool} {sp x : ByteArray} {w w' : World} (h : ok = true → x = sp) (hb : Below w.heap.size w w') : SpP ok sp w (.returned (.tuple #[.string x, .bool ok])) w' := ⟨x, rfl, h, hb⟩
theorem spp_eq {ok ok2 : Bool} {sp x : ByteArray} {w w' : World} (e : ok2 = ok) (h : ok = true → x = sp) (hb : Below w.heap.size w w') : SpP ok sp w (.returned (.tuple #[.string x, .bool ok2])) w' := by subst e; exact ⟨x, rfl, h, hb⟩
theorem grow_bel (w : World) (k : Nat) (os : Array Obj) : Below w.heap.size w (Sort.grow (w.drewN k) os) :=
  ⟨rfl, rfl, rfl, by show w.heap.size ≤ (w.heap ++ os).size; rw [Array.size_append]; omega, fun j hj => by show (w.heap ++ os)[j]? = w.heap[j]?; rw [Array.getElem?_append_left hj]⟩
def FmP (n : Int) (w : World) (e : Ending) (w' : World) : Prop := e = .returned (.string ⟨(Lib.itoa n).toArray⟩) ∧ Below w.heap.size w w'
theorem fmt_any (n : Int) (h0 : -9223372036854775808 ≤ n) (h1 : n ≤ 9223372036854775807) (w : World) (hG : Glob w) : Calls Tryd.prog 49 #[.int .i64 n, .int .i64 10] w (FmP n w) :=
  (sh_strconv_FormatInt_10 n h0 h1 w hG.tab).mono fun e w' ⟨h, k, os, h2⟩ => ⟨h, by rw [h2]; exact grow_bel w k os⟩
theorem txt_ne {t : ByteArray} (h : t ≠ ⟨#[]⟩) : t.toList ≠ [] := by
  rw [ByteArray.toList_eq]
  intro h2
  apply h
  obtain ⟨⟨l⟩⟩ := t
  simp only at h2
  rw [h2]
set_option maxRecDepth 100000 in
set_option maxHeartbeats 3200000 in
theorem spell3_yes (n p : Int) (w : World) (h0 : 0 ≤ n) (h1 : n ≤ 1000000000000000) (hG : Glob w) :
    Calls Tryd.prog 36 #[.agg #[.int .i64 3, .string ⟨#[]⟩, .int .i64 n, .int .i64 p]] w (SpP true ⟨(Lib.itoa n).toArray⟩ w) := by
  have FI : Hid (∀ w1, Below w.heap.size w w1 → Calls Tryd.prog 49 #[.int .i64 n, .int .i64 10] w1 (FmP n w1)) := hid_of (fun w1 h => fmt_any n (by omega) (by omega) w1 (hG.at h))
  have d1 : decide (n ≥ 0) = true := decide_eq_true h0
  have d2 : decide (n ≤ 1000000000000000) = true := decide_eq_true h1
  have BX := hid_of (bel_alloc w (.cells #[.int .i64 3, .string ⟨#[]⟩, .int .i64 n, .int .i64 p] 25))
  have cs : Hid (∀ w1, Below (w.alloc (.cells #[.int .i64 3, .string ⟨#[]⟩, .int .i64 n, .int .i64 p] 25)).heap.size (w.alloc (.cells #[.int .i64 3, .string ⟨#[]⟩, .int .i64 n, .int .i64 p] 25)) w1 → w1.cell? ⟨w.heap.size, 1, none⟩ = some (.string ⟨#[]⟩) ∧ w1.cell? ⟨w.heap.size, 2, none⟩ = some (.int .i64 n)) := hid_of (fun w1 h => by
    obtain ⟨_, q1, q2, _⟩ := row4 ((h.block w.heap.size (by simp)).trans (heap_alloc_new w (.cells #[.int .i64 3, .string ⟨#[]⟩, .int .i64 n, .int .i64 p] 25)))
    exact ⟨q1, q2⟩)
  have cs0 := cs.out _ (bel_drew (Below.refl _ (w.alloc (.cells #[.int .i64 3, .string ⟨#[]⟩, .int .i64 n, .int .i64 p] 25))))
  clear hG
  go_enter Tryd.func36, Tryd.ntmps36
  go_wp2
  go_region_held3 (fun W => W.cell? ⟨w.heap.size, 1, none⟩ = some (.string ⟨#[]⟩) ∧ W.cell? ⟨w.heap.size, 2, none⟩ = some (.int .i64 n)) (first | exact cs0 | exact cs4) ((go_at_call 49; ((with_reducible refine (FI.out _ (bel_drew BX.out)).mono ?_); (rintro e w1 ⟨rfl, h⟩; have B1 := hid_of h; have cs4 := cs.out _ ((bel_drew (Below.refl _ _)).trans (h.mono (Nat.le_refl _)));  clear h))))
  all_goals go_wp2
  all_goals go_ret2
  all_goals exact spp_eq rfl (fun h => rfl) (BX.out.trans ((bel_drew (Below.refl _ _)).trans (B1.out.mono (Nat.le_refl _)) |>.mono BX.out.size))
set_option maxRecDepth 100000 in
set_option maxHeartbeats 3200000 in
theorem spell3_text (n p : Int) (tx : ByteArray) (w : World) (h0 : -9223372036854775808 ≤ n) (h1 : n ≤ 9223372036854775807) (ht : tx ≠ ⟨#[]⟩) (hG : Glob w) :
    Calls Tryd.prog 36 #[.agg #[.int .i64 3, .string tx, .int .i64 n, .int .i64 p]] w (SpP false ⟨#[]⟩ w) := by
  have FI : Hid (∀ w1, Below w.heap.size w w1 → Calls Tryd.prog 49 #[.int .i64 n, .int .i64 10] w1 (FmP n w1)) := hid_of (fun w1 h => fmt_any n (by omega) (by omega) w1 (hG.at h))
  have d1 : tx.toList ≠ [] := txt_ne ht
  have d2 : (tx.toList == []) = false := by simpa using d1
  clear ht
  have BX := hid_of (bel_alloc w (.cells #[.int .i64 3, .string tx, .int .i64 n, .int .i64 p] 25))
  have cs : Hid (∀ w1, Below (w.alloc (.cells #[.int .i64 3, .string tx, .int .i64 n, .int .i64 p] 25)).heap.size (w.alloc (.cells #[.int .i64 3, .string tx, .int .i64 n, .int .i64 p] 25)) w1 → w1.cell? ⟨w.heap.size, 1, none⟩ = some (.string tx) ∧ w1.cell? ⟨w.heap.size, 2, none⟩ = some (.int .i64 n)) := hid_of (fun w1 h => by
    obtain ⟨_, q1, q2, _⟩ := row4 ((h.block w.heap.size (by simp)).trans (heap_alloc_new w (.cells #[.int .i64 3, .string tx, .int .i64 n, .int .i64 p] 25)))
    exact ⟨q1, q2⟩)
  have cs0 := cs.out _ (bel_drew (Below.refl _ (w.alloc (.cells #[.int .i64 3, .string tx, .int .i64 n, .int .i64 p] 25))))
  clear hG
  go_enter Tryd.func36, Tryd.ntmps36
  go_wp2
  obtain ⟨cx, cy⟩ := cs0
  first | (go_region_with ((go_at_call 49; ((with_reducible refine (FI.out _ (bel_drew BX.out)).mono ?_); (rintro e w1 ⟨rfl, h⟩; have B1 := hid_of h; have cs4 := cs.out _ ((bel_drew (Below.refl _ _)).trans (h.mono (Nat.le_refl _))); obtain ⟨cx4, cy4⟩ := cs4; clear h))))) | skip
  all_goals go_wp2
  all_goals go_ret2
  all_goals exact spp_eq rfl (fun h => (by cases h)) (BX.out.trans ((bel_drew (Below.refl _ _)).trans (B1.out.mono (Nat.le_refl _)) |>.mono BX.out.size))
set_option maxRecDepth 100000 in
set_option maxHeartbeats 3200000 in
theorem spell3_neg (n p : Int) (w : World) (h0 : -9223372036854775808 ≤ n) (h1 : n < 0) (hG : Glob w) :
    Calls Tryd.prog 36 #[.agg #[.int .i64 3, .string ⟨#[]⟩, .int .i64 n, .int .i64 p]] w (SpP false ⟨#[]⟩ w) := by
  have FI : Hid (∀ w1, Below w.heap.size w w1 → Calls Tryd.prog 49 #[.int .i64 n, .int .i64 10] w1 (FmP n w1)) := hid_of (fun w1 h => fmt_any n (by omega) (by omega) w1 (hG.at h))
  have d1 : decide (n ≥ 0) = false := decide_eq_false (by omega)
  have BX := hid_of (bel_alloc w (.cells #[.int .i64 3, .string ⟨#[]⟩, .int .i64 n, .int .i64 p] 25))
  have cs : Hid (∀ w1, Below (w.alloc (.cells #[.int .i64 3, .string ⟨#[]⟩, .int .i64 n, .int .i64 p] 25)).heap.size (w.alloc (.cells #[.int .i64 3, .string ⟨#[]⟩, .int .i64 n, .int .i64 p] 25)) w1 → w1.cell? ⟨w.heap.size, 1, none⟩ = some (.string ⟨#[]⟩) ∧ w1.cell? ⟨w.heap.size, 2, none⟩ = some (.int .i64 n)) := hid_of (fun w1 h => by
    obtain ⟨_, q1, q2, _⟩ := row4 ((h.block w.heap.size (by simp)).trans (heap_alloc_new w (.cells #[.int .i64 3, .string ⟨#[]⟩, .int .i64 n, .int .i64 p] 25)))
    exact ⟨q1, q2⟩)
  have cs0 := cs.out _ (bel_drew (Below.refl _ (w.alloc (.cells #[.int .i64 3, .string ⟨#[]⟩, .int .i64 n, .int .i64 p] 25))))
  clear hG
  go_enter Tryd.func36, Tryd.ntmps36
  go_wp2
  obtain ⟨cx, cy⟩ := cs0
  first | (go_region_with ((go_at_call 49; ((with_reducible refine (FI.out _ (bel_drew BX.out)).mono ?_); (rintro e w1 ⟨rfl, h⟩; have B1 := hid_of h; have cs4 := cs.out _ ((bel_drew (Below.refl _ _)).trans (h.mono (Nat.le_refl _))); obtain ⟨cx4, cy4⟩ := cs4; clear h))))) | skip
  all_goals go_wp2
  all_goals go_ret2
  all_goals exact spp_eq rfl (fun h => (by cases h)) (BX.out.trans ((bel_drew (Below.refl _ _)).trans (B1.out.mono (Nat.le_refl _)) |>.mono BX.out.size))
set_option maxRecDepth 100000 in
set_option maxHeartbeats 3200000 in
theorem spell3_big (n p : Int) (w : World) (h0 : 1000000000000000 < n) (h1 : n ≤ 9223372036854775807) (hG : Glob w) :
    Calls Tryd.prog 36 #[.agg #[.int .i64 3, .string ⟨#[]⟩, .int .i64 n, .int .i64 p]] w (SpP false ⟨#[]⟩ w) := by
  have FI : Hid (∀ w1, Below w.heap.size w w1 → Calls Tryd.prog 49 #[.int .i64 n, .int .i64 10] w1 (FmP n w1)) := hid_of (fun w1 h => fmt_any n (by omega) (by omega) w1 (hG.at h))
  have d1 : decide (n ≥ 0) = true := decide_eq_true (by omega)
  have d2 : decide (n ≤ 1000000000000000) = false := decide_eq_false (by omega)
  have BX := hid_of (bel_alloc w (.cells #[.int .i64 3, .string ⟨#[]⟩, .int .i64 n, .int .i64 p] 25))
  have cs : Hid (∀ w1, Below (w.alloc (.cells #[.int .i64 3, .string ⟨#[]⟩, .int .i64 n, .int .i64 p] 25)).heap.size (w.alloc (.cells #[.int .i64 3, .string ⟨#[]⟩, .int .i64 n, .int .i64 p] 25)) w1 → w1.cell? ⟨w.heap.size, 1, none⟩ = some (.string ⟨#[]⟩) ∧ w1.cell? ⟨w.heap.size, 2, none⟩ = some (.int .i64 n)) := hid_of (fun w1 h => by
    obtain ⟨_, q1, q2, _⟩ := row4 ((h.block w.heap.size (by simp)).trans (heap_alloc_new w (.cells #[.int .i64 3, .string ⟨#[]⟩, .int .i64 n, .int .i64 p] 25)))
    exact ⟨q1, q2⟩)
  have cs0 := cs.out _ (bel_drew (Below.refl _ (w.alloc (.cells #[.int .i64 3, .string ⟨#[]⟩, .int .i64 n, .int .i64 p] 25))))
  clear hG
  go_enter Tryd.func36, Tryd.ntmps36
  go_wp2
  go_region_held3 (fun W => W.cell? ⟨w.heap.size, 1, none⟩ = some (.string ⟨#[]⟩) ∧ W.cell? ⟨w.heap.size, 2, none⟩ = some (.int .i64 n)) (first | exact cs0 | exact cs4) ((go_at_call 49; ((with_reducible refine (FI.out _ (bel_drew BX.out)).mono ?_); (rintro e w1 ⟨rfl, h⟩; have B1 := hid_of h; have cs4 := cs.out _ ((bel_drew (Below.refl _ _)).trans (h.mono (Nat.le_refl _)));  clear h))))
  all_goals go_wp2
  all_goals go_ret2
  all_goals exact spp_eq rfl (fun h => (by cases h)) (BX.out.trans ((bel_drew (Below.refl _ _)).trans (B1.out.mono (Nat.le_refl _)) |>.mono BX.out.size))
end Go.Proofs.YtdmjlmlmdllhgaaDoor
