/- The laws on Next and on Lex. Bounds on sizes alone. -/
import Derived.Test.YtdmjlmlmdllhgaaDoorLexEq
namespace Go.Proofs.YtdmjlmlmdllhgaaDoor
open Go.RowKit

/-- What Next of both sides says. -/
def N7 (k : Int) (tx : ByteArray) (n p st c q : Int) (w : World) (e : Ending) (w' : World) : Prop := e = .returned (.tuple #[.agg #[.int .i64 k, .string tx, .int .i64 n, .int .i64 p], .int .i64 st, .agg #[.int .i64 c, .int .i64 q]]) ∧ Below w.heap.size w w'
theorem n7_of {g : Got} {p : Nat} : ∃ (k : Int) (tx : ByteArray) (n p2 st c q : Int), ∀ w e w', NexP g p w e w' → N7 k tx n p2 st c q w e w' := by
  by_cases h : g.code = 0
  · exact ⟨_, _, _, _, _, _, _, fun w e w' h2 => ⟨h2.1 h, h2.2.2⟩⟩
  · exact ⟨_, _, _, _, _, _, _, fun w e w' h2 => ⟨h2.2.1 h, h2.2.2⟩⟩
theorem both_next (s : ByteArray) (a : Int) (hs : s.size ≤ 2000) : ∃ (k : Int) (tx : ByteArray) (n p st c q : Int), ∀ w, Glob w → Calls Tryd.prog 19 #[.string s, .int .i64 a] w (N7 k tx n p st c q w) ∧ Calls Tryd.prog 20 #[.string s, .int .i64 a] w (N7 k tx n p st c q w) := by
  by_cases h : a < 0
  · exact ⟨_, _, _, _, _, _, _, fun w _ => ⟨nex_neg s a w (by omega) h, qnex_neg s a w (by omega) h⟩⟩
  · by_cases h2 : (s.size : Int) < a
    · exact ⟨_, _, _, _, _, _, _, fun w _ => ⟨nex_over s a w (by omega) h2, qnex_over s a w (by omega) h2⟩⟩
    · obtain ⟨i, rfl⟩ : ∃ i : Nat, a = i := ⟨a.toNat, by omega⟩
      obtain ⟨k, tx, n, p, st, c, q, hh⟩ := n7_of (g := nextF s i) (p := sk s i)
      exact ⟨k, tx, n, p, st, c, q, fun w hG => ⟨(nex_any s i w (by omega) (by omega) hG).mono fun e w' => hh w e w', (qnex_any s i w (by omega) (by omega)).mono fun e w' => hh w e w'⟩⟩
theorem NX4 {w2 w3 : World} {k n p c q : Int} {tx : ByteArray} (h : Below ((w2.alloc (.cells #[.int .i64 k, .string tx, .int .i64 n, .int .i64 p] 25)).alloc (.cells #[.int .i64 c, .int .i64 q] 28)).heap.size ((w2.alloc (.cells #[.int .i64 k, .string tx, .int .i64 n, .int .i64 p] 25)).alloc (.cells #[.int .i64 c, .int .i64 q] 28)) w3) (o1 o2 : Obj) :
    ((w3.alloc o1).alloc o2).cell? ⟨w2.heap.size, 0, none⟩ = some (.int .i64 k) ∧ ((w3.alloc o1).alloc o2).cell? ⟨w2.heap.size, 1, none⟩ = some (.string tx) ∧ ((w3.alloc o1).alloc o2).cell? ⟨w2.heap.size, 2, none⟩ = some (.int .i64 n) ∧ ((w3.alloc o1).alloc o2).cell? ⟨w2.heap.size, 3, none⟩ = some (.int .i64 p) ∧ ((w3.alloc o1).alloc o2).cell? ⟨w2.heap.size + 1, 0, none⟩ = some (.int .i64 c) ∧ ((w3.alloc o1).alloc o2).cell? ⟨w2.heap.size + 1, 1, none⟩ = some (.int .i64 q) := by
  have z : ((w2.alloc (.cells #[.int .i64 k, .string tx, .int .i64 n, .int .i64 p] 25)).alloc (.cells #[.int .i64 c, .int .i64 q] 28)).heap.size = w2.heap.size + 2 := by simp
  have hs := h.size
  have hb := h.trans ((bel_two w3 o1 o2).mono hs)
  obtain ⟨a0, a1, a2, a3, _⟩ := row4 ((hb.block w2.heap.size (by omega)).trans (two_a w2 _ _))
  obtain ⟨b0, b1, _⟩ := row2 ((hb.block (w2.heap.size + 1) (by omega)).trans (two_b w2 _ _))
  exact ⟨a0, a1, a2, a3, b0, b1⟩
theorem LX2 {w2 w3 : World} {c q : Int} (h : Below (w2.alloc (.cells #[.int .i64 c, .int .i64 q] 28)).heap.size (w2.alloc (.cells #[.int .i64 c, .int .i64 q] 28)) w3) (o1 : Obj) :
    (w3.alloc o1).cell? ⟨w2.heap.size, 0, none⟩ = some (.int .i64 c) ∧ (w3.alloc o1).cell? ⟨w2.heap.size, 1, none⟩ = some (.int .i64 q) := by
  have z : (w2.alloc (.cells #[.int .i64 c, .int .i64 q] 28)).heap.size = w2.heap.size + 1 := by simp
  have hs := h.size
  have hb := h.trans ((bel_alloc w3 o1).mono hs)
  obtain ⟨b0, b1, _⟩ := row2 ((hb.block w2.heap.size (by omega)).trans (heap_alloc_new w2 _))
  exact ⟨b0, b1⟩
/-- What Lex of both sides says: n tokens, a code and a place. -/
def L4 (l : List T4) (n : Nat) (c q : Int) (w : World) (e : Ending) (w' : World) : Prop := ∃ xo xc, e = .returned (.tuple #[.slice xo n xc, .agg #[.int .i64 c, .int .i64 q]]) ∧ Below w.heap.size w w' ∧ QRd w' (.slice xo n xc) (qs4 l)
theorem l4_of (R : List Tok × Int × Nat) (hR : R.2.1 ≠ 0 → R.1 = []) {c q : Int} (hc : c = R.2.1) (hq : q = if R.2.1 = 0 then 0 else (R.2.2 : Int)) : ∀ w e w', LexQ R w e w' → L4 (R.1.map Tok.t4) R.1.length c q w e w' := by
  intro w e w' h
  by_cases h0 : R.2.1 = 0
  · obtain ⟨xo, xc, h1, h2⟩ := h.2 h0
    rw [if_pos h0] at hq
    refine ⟨xo, xc, by rw [h1, hc, hq, h0], h2.bel, ?_⟩
    rw [← tqs_eq]; exact h2.qrd
  · obtain ⟨h1, h2⟩ := h.1 h0
    rw [if_neg h0] at hq
    refine ⟨none, 0, by rw [h1, hc, hq, hR h0]; rfl, h2, ?_⟩
    rw [hR h0]; exact qrd_nil _
theorem both_lex (s : ByteArray) (hs : s.size ≤ 2000) : ∃ (l : List T4) (n : Nat) (c q : Int), ∀ w, Glob w → Calls Tryd.prog 21 #[.string s] w (L4 l n c q w) ∧ Calls Tryd.prog 22 #[.string s] w (L4 l n c q w) :=
  ⟨_, _, _, _, fun w hG => ⟨(lex_any s w (by omega) hG).mono fun e w' => l4_of (Lx s 0) (fun h => ((lx_ok s _ 0 rfl (Nat.zero_le _)).2.1 h).1) rfl rfl w e w', (qlex_any s w (by omega)).mono fun e w' => l4_of (Lx s 0) (fun h => ((lx_ok s _ 0 rfl (Nat.zero_le _)).2.1 h).1) rfl rfl w e w'⟩⟩
set_option maxRecDepth 100000 in
set_option maxHeartbeats 3200000 in
theorem next_law (s : ByteArray) (a : Int) (w : World) (hG : Glob w) : Calls Tryd.prog 4 #[.string s, .int .i64 a] w fun e w' => e = .returned (.bool true) ∧ Below w.heap.size w w' := by
  have AW := hid_of (awake_any w hG)
  by_cases hs : 2000 < s.size
  · have d1 : decide ((s.size : Int) > 2000) = true := decide_eq_true (by omega)
    clear hs
    go_enter Tryd.func4, Tryd.ntmps4
    go_wp2_with (go_at_call 14; ((with_reducible refine (AW.out).mono ?_); (rintro e w1 ⟨rfl, h1⟩; have B1 := hid_of h1; clear h1)))
    go_ret
    exact ⟨rfl, B1.out⟩
  · have d1 : decide ((s.size : Int) > 2000) = false := decide_eq_false (by omega)
    obtain ⟨k, tx, n, p, st, c, q, hh⟩ := both_next s a (by omega)
    have N1 : Hid (∀ w1, Below w.heap.size w w1 → Calls Tryd.prog 19 #[.string s, .int .i64 a] w1 (N7 k tx n p st c q w1)) := hid_of (fun w1 h => (hh w1 (hG.at h)).1)
    have N2 : Hid (∀ w1, Below w.heap.size w w1 → Calls Tryd.prog 20 #[.string s, .int .i64 a] w1 (N7 k tx n p st c q w1)) := hid_of (fun w1 h => (hh w1 (hG.at h)).2)
    have E1 := eq_tok k n p tx
    have E2 := eqg_tok
    have E3 := eq_flt c q
    have E4 := eqg_flt
    clear hs hh hG
    go_enter Tryd.func4, Tryd.ntmps4
    go_wp2_with (first
      | (go_at_call 14; ((with_reducible refine (AW.out).mono ?_); (rintro e w1 ⟨rfl, h1⟩; have B1 := hid_of h1; clear h1)))
      | (go_at_call 19; ((with_reducible refine (N1.out _ B1.out).mono ?_); (rintro e w2 ⟨rfl, h1⟩; have B2 := hid_of (step_al (step_al (step_b B1.out h1) (.cells #[.int .i64 k, .string tx, .int .i64 n, .int .i64 p] 25)) (.cells #[.int .i64 c, .int .i64 q] 28)); clear h1)))
      | (go_at_call 20; ((with_reducible refine (N2.out _ B2.out).mono ?_); (rintro e w3 ⟨rfl, h1⟩; have B3 := hid_of (step_al (step_al (step_b B2.out h1) (.cells #[.int .i64 k, .string tx, .int .i64 n, .int .i64 p] 25)) (.cells #[.int .i64 c, .int .i64 q] 28)); obtain ⟨t0, t1, t2, t3, u0, u1⟩ := NX4 h1 (.cells #[.int .i64 k, .string tx, .int .i64 n, .int .i64 p] 25) (.cells #[.int .i64 c, .int .i64 q] 28); clear h1))))
    go_ret
    exact ⟨rfl, B3.out⟩
set_option maxRecDepth 100000 in
set_option maxHeartbeats 3200000 in
theorem lex_law (s : ByteArray) (w : World) (hG : Glob w) : Calls Tryd.prog 5 #[.string s] w fun e w' => e = .returned (.bool true) ∧ Below w.heap.size w w' := by
  have AW := hid_of (awake_any w hG)
  by_cases hs : 2000 < s.size
  · have d1 : decide ((s.size : Int) > 2000) = true := decide_eq_true (by omega)
    clear hs
    go_enter Tryd.func5, Tryd.ntmps5
    go_wp2_with (go_at_call 14; ((with_reducible refine (AW.out).mono ?_); (rintro e w1 ⟨rfl, h1⟩; have B1 := hid_of h1; clear h1)))
    go_ret
    exact ⟨rfl, B1.out⟩
  · have d1 : decide ((s.size : Int) > 2000) = false := decide_eq_false (by omega)
    obtain ⟨l, n, c, q, hh⟩ := both_lex s (by omega)
    have N1 : Hid (∀ w1, Below w.heap.size w w1 → Calls Tryd.prog 21 #[.string s] w1 (L4 l n c q w1)) := hid_of (fun w1 h => (hh w1 (hG.at h)).1)
    have N2 : Hid (∀ w1, Below w.heap.size w w1 → Calls Tryd.prog 22 #[.string s] w1 (L4 l n c q w1)) := hid_of (fun w1 h => (hh w1 (hG.at h)).2)
    have SM : Hid (∀ ao bo xc yc w1, QRd w1 (.slice ao n xc) (qs4 l) → QRd w1 (.slice bo n yc) (qs4 l) → Calls Tryd.prog 23 #[.slice ao n xc, .slice bo n yc, .bool true] w1 (BlP true w1)) := hid_of (fun ao bo xc yc w1 h1 h2 => qsame_any true l l ao bo n n xc yc w1 h1 h2 (eqs_refl _ _))
    have E3 := eq_flt c q
    have E4 := eqg_flt
    clear hs hh hG
    go_enter Tryd.func5, Tryd.ntmps5
    go_wp2_with (first
      | (go_at_call 14; ((with_reducible refine (AW.out).mono ?_); (rintro e w1 ⟨rfl, h1⟩; have B1 := hid_of h1; clear h1)))
      | (go_at_call 21; ((with_reducible refine (N1.out _ B1.out).mono ?_); (rintro e w2 ⟨xo, xc, rfl, h1, h2⟩; have X2 := hid_of h2; have B2 := hid_of (step_al (step_b B1.out h1) (.cells #[.int .i64 c, .int .i64 q] 28)); clear h1 h2)))
      | (go_at_call 22; ((with_reducible refine (N2.out _ B2.out).mono ?_); (rintro e w3 ⟨yo, yc, rfl, h1, h2⟩; have B3 := hid_of (step_al (step_b B2.out h1) (.cells #[.int .i64 c, .int .i64 q] 28)); have Q1 := hid_of ((X2.out.at (bel_alloc w2 (.cells #[.int .i64 c, .int .i64 q] 28))).at (h1.trans ((bel_alloc w3 (.cells #[.int .i64 c, .int .i64 q] 28)).mono h1.size))); have Q2 := hid_of (h2.at (bel_alloc w3 (.cells #[.int .i64 c, .int .i64 q] 28))); obtain ⟨u0, u1⟩ := LX2 h1 (.cells #[.int .i64 c, .int .i64 q] 28); have SMX := hid_of (SM.out xo yo xc yc _ Q1.out Q2.out); clear h1 h2)))
      | (go_at_call 23; ((with_reducible refine (SMX.out).mono ?_); (rintro e w4 ⟨rfl, h1⟩; have B4 := hid_of (step_b B3.out h1); clear h1))))
    go_ret
    exact ⟨rfl, B4.out⟩
end Go.Proofs.YtdmjlmlmdllhgaaDoor
