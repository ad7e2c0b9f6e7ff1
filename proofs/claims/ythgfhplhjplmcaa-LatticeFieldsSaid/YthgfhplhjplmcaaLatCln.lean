/- slices.Clone of rows of strings, of rules, of descriptions. Bounds on sizes alone. -/
import Derived.Test.YthgfhplhjplmcaaLatCat
import Derived.Test.YthgfhplhjplmcaaLatIdx
namespace Go.Proofs.Ythgfhplhjplmcaa
open Go.RowKit

theorem rulE : Elem2 Try.prog 24 49 (.agg #[.slice none 0 0, .string ⟨#[]⟩]) 40 := ⟨Try.underlying24, by kernel_rfl, rfl⟩
theorem latE6 : Elem6 Try.prog 23 26 (.agg #[.int .i64 0, .int .i64 0, .int .i64 0, .slice none 0 0, .slice none 0 0, .slice none 0 0]) 96 := ⟨Try.underlying23, by kernel_rfl, rfl⟩
theorem osx_empty (E : TypeId) (w : World) : OSx E w.heap.size w (w.alloc (.cells #[] E)) (.slice (some ⟨w.heap.size, 0, none⟩) 0 0) [] :=
  ⟨Nat.le_refl _, bel_alloc w _, by simp [sxds], .inr ⟨w.heap.size, 0, #[], rfl, Nat.le_refl _, heap_alloc_new w _, Nat.le_refl _, by unfold maxLen; omega, rfl, rfl⟩⟩

set_option maxRecDepth 100000 in
set_option maxHeartbeats 1600000 in
theorem cloneS_any (ao : Option Addr) (n cap : Nat) (l : List Value) (w : World) (R : Rd w (.slice ao n cap) l) (h1 : ∀ u ∈ l, u.oneCell' = true) (hl : l.length ≤ 8796093022208) :
    Calls Try.prog 58 #[.slice ao n cap] w fun e w' => ∃ xo xc, e = .returned (.slice xo n xc) ∧ Ow 9 w.heap.size w w' (.slice xo n xc) l := by
  have q : ∀ (w : World) (a : Option Addr) (n c n' c' : Nat), (binOp .eql 22 (.slice a n c) (.slice none n' c')).run Try.prog w = .ok (.bool a.isNone) w := fun w a n c n' c' => Lib.run_eql_slice_nil w _ _ a n c n' c' Try.underlying22
  obtain ⟨hn, hc9⟩ : n = l.length ∧ n ≤ cap := by
    obtain ⟨a1, c1, e, h, _⟩ := R
    cases e
    exact ⟨rfl, h⟩
  have HN := hid_of hn
  have RX := hid_of R
  have H1 := hid_of h1
  have HL := hid_of hl
  clear R h1 hl hc9
  cases ao with
  | none =>
    have hl0 : l = [] := by
      obtain ⟨a1, c1, e, _, _, h⟩ := RX.out
      cases e
      cases l with
      | nil => rfl
      | cons x l => obtain ⟨g, o, e, _⟩ := h (by simp)
                    cases e
    subst hl0
    have hn0 : n = 0 := hn
    clear hn
    go_enter Try.func58, Try.ntmps58
    go_wp2
    go_ret
    subst hn0
    exact ⟨none, 0, rfl, ow_nil _ _⟩
  | some a =>
    clear hn
    go_enter Try.func58, Try.ntmps58
    go_wp2_with (at_builtin; (refine wpList_app strsE rfl _ _ rfl (v := .slice (some ⟨w.heap.size, 0, none⟩) 0 0) rfl (ow_empty _ _) (vx := .slice (some a) n cap) rfl (RX.out.at (bel_alloc _ _)) H1.out (by have := HL.out; simp; omega) (by have := HL.out; simp; omega) ?_; (intro xo xn xc w2 hxn how); (have OW := hid_of how); (have HX := hid_of hxn); clear how hxn))
    go_ret
    have e1 : xn = n := by have := HX.out; have := HN.out; simp at *; omega
    exact ⟨xo, xc, by rw [e1] <;> rfl, by have := OW.out; rw [List.nil_append, e1] at this; exact this⟩

set_option maxRecDepth 100000 in
set_option maxHeartbeats 1600000 in
theorem cloneR_any (ao : Option Addr) (n cap : Nat) (l : List PV) (w : World) (R : PRd w (.slice ao n cap) l) (h1 : ∀ u ∈ prs l, u.oneCell' = true) (hl : l.length ≤ 68719476736) :
    Calls Try.prog 60 #[.slice ao n cap] w fun e w' => ∃ xo xc, e = .returned (.slice xo n xc) ∧ OP 49 w.heap.size w w' (.slice xo n xc) l := by
  have q : ∀ (w : World) (a : Option Addr) (n c n' c' : Nat), (binOp .eql 24 (.slice a n c) (.slice none n' c')).run Try.prog w = .ok (.bool a.isNone) w := fun w a n c n' c' => Lib.run_eql_slice_nil w _ _ a n c n' c' Try.underlying24
  obtain ⟨hn, hc9⟩ : n = l.length ∧ n ≤ cap := by
    obtain ⟨a1, c1, e, h, _⟩ := R
    cases e
    exact ⟨rfl, h⟩
  have HN := hid_of hn
  have RX := hid_of R
  have H1 := hid_of h1
  have HL := hid_of hl
  clear R h1 hl hc9
  cases ao with
  | none =>
    have hl0 : l = [] := by
      obtain ⟨a1, c1, e, _, _, h⟩ := RX.out
      cases e
      cases l with
      | nil => rfl
      | cons x l => obtain ⟨g, o, e, _⟩ := h (by simp)
                    cases e
    subst hl0
    have hn0 : n = 0 := hn
    clear hn
    go_enter Try.func60, Try.ntmps60
    go_wp2
    go_ret
    subst hn0
    exact ⟨none, 0, rfl, op_nil _ _⟩
  | some a =>
    clear hn
    go_enter Try.func60, Try.ntmps60
    go_wp2_with (at_builtin; (refine wpList_pr rulE rfl _ _ rfl (v := .slice (some ⟨w.heap.size, 0, none⟩) 0 0) rfl (op_empty _ _) (vx := .slice (some a) n cap) rfl (RX.out.at (bel_alloc _ _)) H1.out (by have := HL.out; simp; omega) (by have := HL.out; simp; omega) ?_; (intro xo xn xc w2 hxn how _); (have OW := hid_of how); (have HX := hid_of hxn); clear how hxn))
    go_ret
    have e1 : xn = n := by have := HX.out; have := HN.out; simp at *; omega
    exact ⟨xo, xc, by rw [e1] <;> rfl, by have := OW.out; rw [List.nil_append, e1] at this; exact this⟩

set_option maxRecDepth 100000 in
set_option maxHeartbeats 1600000 in
theorem cloneL_any (ao : Option Addr) (n cap : Nat) (l : List SxV) (w : World) (R : SxRd w (.slice ao n cap) l) (h1 : ∀ u ∈ sxds l, u.oneCell' = true) (hl : l.length ≤ 68719476736) :
    Calls Try.prog 59 #[.slice ao n cap] w fun e w' => ∃ xo xc, e = .returned (.slice xo n xc) ∧ OSx 26 w.heap.size w w' (.slice xo n xc) l := by
  have q : ∀ (w : World) (a : Option Addr) (n c n' c' : Nat), (binOp .eql 23 (.slice a n c) (.slice none n' c')).run Try.prog w = .ok (.bool a.isNone) w := fun w a n c n' c' => Lib.run_eql_slice_nil w _ _ a n c n' c' Try.underlying23
  obtain ⟨hn, hc9⟩ : n = l.length ∧ n ≤ cap := by
    obtain ⟨a1, c1, e, h, _⟩ := R
    cases e
    exact ⟨rfl, h⟩
  have HN := hid_of hn
  have RX := hid_of R
  have H1 := hid_of h1
  have HL := hid_of hl
  clear R h1 hl hc9
  cases ao with
  | none =>
    have hl0 : l = [] := by
      obtain ⟨a1, c1, e, _, _, h⟩ := RX.out
      cases e
      cases l with
      | nil => rfl
      | cons x l => obtain ⟨g, o, e, _⟩ := h (by simp)
                    cases e
    subst hl0
    have hn0 : n = 0 := hn
    clear hn
    go_enter Try.func59, Try.ntmps59
    go_wp2
    go_ret
    subst hn0
    exact ⟨none, 0, rfl, osx_nil _ _⟩
  | some a =>
    clear hn
    go_enter Try.func59, Try.ntmps59
    go_wp2_with (at_builtin; (refine wpList_sx latE6 rfl _ _ rfl (v := .slice (some ⟨w.heap.size, 0, none⟩) 0 0) rfl (osx_empty _ _) (vx := .slice (some a) n cap) rfl (RX.out.at (bel_alloc _ _)) H1.out (by have := HL.out; simp; omega) (by have := HL.out; simp; omega) ?_; (intro xo xn xc w2 hxn how _); (have OW := hid_of how); (have HX := hid_of hxn); clear how hxn))
    go_ret
    have e1 : xn = n := by have := HX.out; have := HN.out; simp at *; omega
    exact ⟨xo, xc, by rw [e1] <;> rfl, by have := OW.out; rw [List.nil_append, e1] at this; exact this⟩

end Go.Proofs.Ythgfhplhjplmcaa
