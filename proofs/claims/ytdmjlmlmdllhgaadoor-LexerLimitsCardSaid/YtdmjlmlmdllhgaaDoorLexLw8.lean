/- The law on limits. Bounds on sizes alone. -/
import Derived.Test.YtdmjlmlmdllhgaaDoorLexBig
namespace Go.Proofs.YtdmjlmlmdllhgaaDoor
open Go.RowKit

theorem bytE : Elem Tryd.prog 42 5 (.int .u8 0) 1 := ⟨Tryd.underlying42, by kernel_rfl, rfl⟩
theorem bel_cell {B : Nat} {w w' : World} (h : Below B w w') {g i : Nat} (hg : B ≤ g) (v : Value) : Below B w (w'.setCell ⟨g, i, none⟩ v) :=
  ⟨h.os, h.tape, h.output, by simpa [World.setCell] using h.size, fun k hk => (show (w'.setCell ⟨g, i, none⟩ v).heap[k]? = w'.heap[k]? by simp only [World.setCell, Array.getElem?_modify]; rw [if_neg (show ¬ g = k by omega)]).trans (h.block k hk)⟩
/-- A row of n bytes, the first i of them blanks. -/
def Bl (w : World) (g n i : Nat) : Prop := w.rowIs g 5 n (fun j => if j < i then .int .u8 32 else .int .u8 0)
theorem bl_new (w : World) (n : Nat) : Bl (w.alloc (.cells (madeCells #[.int .u8 0] n) 5)) w.heap.size n 0 := (World.rowIs_made w (.int .u8 0) n 5).congr (fun i _ => by simp)
theorem bl_get {w : World} {g n i : Nat} (h : Bl w g n i) (hi : i < n) : w.cell? ⟨g, i, none⟩ = some (.int .u8 0) ∧ w.frozen? ⟨g, i, none⟩ = false := by
  have h1 := World.rowIs.cell h hi
  rw [if_neg (by omega)] at h1
  exact ⟨h1, World.rowIs.frozen h i⟩
theorem bl_set {w : World} {g n i : Nat} (h : Bl w g n i) : Bl (w.setCell ⟨g, i, none⟩ (.int .u8 32)) g n (i + 1) := (World.rowIs.set h i (.int .u8 32)).congr (fun j _ => by
  by_cases e : j = i
  · rw [if_pos e, if_pos (by omega)]
  · rw [if_neg e]
    by_cases e2 : j < i
    · rw [if_pos e2, if_pos (by omega)]
    · rw [if_neg e2, if_neg (by omega)])
theorem bl_conv {w : World} {g n : Nat} (h : Bl w g n n) : (convert 42 9 (.slice (some ⟨g, 0, none⟩) n n)).run Tryd.prog w = .ok (.string (spc n)) w :=
  run_convert_bytes_arg w 42 5 Tryd.underlying42 Tryd.underlying5 g 0 n n (List.replicate n 32) List.length_replicate (fun i hi => by
    have h1 := World.rowIs.cell h hi
    rw [if_pos hi] at h1
    rw [Nat.zero_add, h1, List.getD_eq_getElem?_getD, List.getElem?_replicate_of_lt hi]
    rfl) 9 Tryd.underlying9
theorem L3X {w3 w4 : World} {c q : Int} (h : Below (w3.alloc (.cells #[.int .i64 c, .int .i64 q] 28)).heap.size (w3.alloc (.cells #[.int .i64 c, .int .i64 q] 28)) w4) : w4.heap[w3.heap.size]? = some (.cells #[.int .i64 c, .int .i64 q] 28 (0, 0)) ∧ w3.heap.size < w4.heap.size := by
  have z : (w3.alloc (.cells #[.int .i64 c, .int .i64 q] 28)).heap.size = w3.heap.size + 1 := by simp
  have := h.size
  exact ⟨(h.block w3.heap.size (by omega)).trans (heap_alloc_new w3 _), by omega⟩
theorem L3Y {w w4 : World} {g : Nat} {o : Obj} (h : w.heap[g]? = some o ∧ g < w.heap.size) (hb : Below w.heap.size w w4) : w4.heap[g]? = some o ∧ g < w4.heap.size := ⟨(hb.block g h.2).trans h.1, by have := hb.size; have := h.2; omega⟩
theorem two_ab (w : World) (o o2 : Obj) : (((w.alloc o).alloc o2).heap[w.heap.size]? = some o ∧ w.heap.size < ((w.alloc o).alloc o2).heap.size) ∧ (((w.alloc o).alloc o2).heap[w.heap.size + 1]? = some o2 ∧ w.heap.size + 1 < ((w.alloc o).alloc o2).heap.size) := by
  have z : ((w.alloc o).alloc o2).heap.size = w.heap.size + 2 := by simp
  exact ⟨⟨two_a w o o2, by omega⟩, ⟨two_b w o o2, by omega⟩⟩
set_option maxRecDepth 100000 in
set_option maxHeartbeats 3200000 in
theorem limits_law (s : ByteArray) (k : Int) (w : World) (hG : Glob w) : Calls Tryd.prog 12 #[.string s, .int .i64 k] w fun e w' => e = .returned (.bool true) ∧ Below w.heap.size w w' := by
  have AW := hid_of (awake_any w hG)
  by_cases hs : 100 < s.size
  · have d1 : decide ((s.size : Int) > 100) = true := decide_eq_true (by omega)
    clear hs
    go_enter Tryd.func12, Tryd.ntmps12
    go_wp2_with (go_at_call 14; ((with_reducible refine (AW.out).mono ?_); (rintro e w1 ⟨rfl, h1⟩; have B1 := hid_of h1; clear h1)))
    go_ret
    exact ⟨rfl, B1.out⟩
  have d1 : decide ((s.size : Int) > 100) = false := decide_eq_false (by omega)
  by_cases hk1 : k < -2
  · have d2 : decide (k < -2) = true := decide_eq_true hk1
    clear hs hk1
    go_enter Tryd.func12, Tryd.ntmps12
    go_wp2_with (go_at_call 14; ((with_reducible refine (AW.out).mono ?_); (rintro e w1 ⟨rfl, h1⟩; have B1 := hid_of h1; clear h1)))
    go_ret
    exact ⟨rfl, B1.out⟩
  have d2 : decide (k < -2) = false := decide_eq_false hk1
  by_cases hk2 : 2 < k
  · have d3 : decide (k > 2) = true := decide_eq_true hk2
    clear hs hk1 hk2
    go_enter Tryd.func12, Tryd.ntmps12
    go_wp2_with (go_at_call 14; ((with_reducible refine (AW.out).mono ?_); (rintro e w1 ⟨rfl, h1⟩; have B1 := hid_of h1; clear h1)))
    go_ret
    exact ⟨rfl, B1.out⟩
  have d3 : decide (k > 2) = false := decide_eq_false hk2
  obtain ⟨N, hN⟩ : ∃ N : Nat, (65536 : Int) - (s.size : Int) + k = (N : Int) := ⟨((65536 : Int) - (s.size : Int) + k).toNat, by omega⟩
  have HN := hid_of hN
  have hmk := run_make_row' (P := Tryd.prog) 42 5 (.int .u8 0) 1 Tryd.underlying42 bytE.info rfl .i64 .i64 N (by omega) (by omega)
  rw [← hN] at hmk
  have s1 : (s.size : Int) ≤ 100 := by omega
  have s0 : (0 : Int) ≤ (s.size : Int) := by omega
  have k1 : -2 ≤ k := by omega
  have k2 : k ≤ 2 := by omega
  have w1 : IntKind.i64.wrap ((65536 : Int) - (s.size : Int)) = (65536 : Int) - (s.size : Int) := IntWalk.i64_in _ (by omega)
  have w2 : IntKind.i64.wrap ((65536 : Int) - (s.size : Int) + k) = (65536 : Int) - (s.size : Int) + k := IntWalk.i64_in _ (by omega)
  have hNN : (N : Int) ≤ 65538 := by omega
  have HGL := hid_of hG
  have hs1 : s.size ≤ 100 := by omega
  have HS1 := hid_of hs1
  clear hs hk1 hk2 hG hs1 hN
  go_enter Tryd.func12, Tryd.ntmps12
  go_wp2_with (go_at_call 14; ((with_reducible refine (AW.out).mono ?_); (rintro e w1 ⟨rfl, h1⟩; have B1 := hid_of h1; clear h1)))
  have L0 := hid_of (bl_new w1 N)
  have BZ := hid_of (bel_alloc w1 (.cells (madeCells #[.int .u8 0] N) 5))
  clear AW hmk
  generalize w1.alloc (.cells (madeCells #[.int .u8 0] N) 5) = Z at *
  go_loopw [6] (fun iv wr => ∃ (i : Nat), iv = .int .i64 i ∧ i ≤ N ∧ Hid (Bl wr w1.heap.size N i) ∧ Hid (Below w1.heap.size w1 wr)) (fun iv _ => N - (intOf iv).toNat)
  case atStart => exact ⟨0, rfl, Nat.zero_le _, L0, BZ⟩
  case round =>
    obtain ⟨i, rfl, hi, hbl, hbw⟩ := hrel
    by_cases hlt : i < N
    · have d4 : decide (i < N) = true := decide_eq_true hlt
      obtain ⟨c0, f0⟩ := bl_get hbl.out hlt
      have b0 : (0 : Int) ≤ (i : Int) := by omega
      have b1 : (i : Int) < (N : Int) := by omega
      go_wp2
      go_roundw
      case rel => exact ⟨i + 1, by go_num, by omega, hid_of (bl_set hbl.out), hid_of (bel_cell hbw.out (Nat.le_refl _) _)⟩
      case measure => simp [intOf]; omega
    · have d4 : decide (i < N) = false := decide_eq_false hlt
      obtain rfl : i = N := by omega
      have hcv := bl_conv hbl.out
      have HB2 := hid_of (step_b B1.out hbw.out)
      have A1 : ∀ W, (Op.stringOp .add (spc i) s).run Tryd.prog W = .ok (.string (spc i ++ s)) W := fun W => run_string_add_sum W _ _ (by rw [spc_size]; have := HS1.out; omega)
      have hus : (spc i ++ s).size = i + s.size := by rw [ByteArray.size_append, spc_size]
      obtain ⟨m1, m2, m3, m4⟩ := lim_lx s i
      clear hlt hi L0 BZ B1 hbl hbw
      generalize spc i ++ s = u at *
      by_cases hk : 0 < k
      · have d5 : decide (k > 0) = true := decide_eq_true hk
        have hub : 65536 < u.size := by have := HN.out; omega
        have LB : Hid (∀ w1, Calls Tryd.prog 21 #[.string u] w1 fun e w' => e = .returned (.tuple #[.slice none 0 0, .agg #[.int .i64 6, .int .i64 65536]]) ∧ Below w1.heap.size w1 w') := hid_of (fun w1 => lex_big u w1 hub)
        have NB : Hid (∀ w1, Calls Tryd.prog 19 #[.string u, .int .i64 i] w1 (NexBad 6 65536 w1)) := hid_of (fun w1 => nex_big u i w1 hub)
        have E1 := eq_tok 0 0 0 ⟨#[]⟩
        have E2 := eqg_tok
        have E3 := eq_flt 6 65536
        have E4 := eqg_flt
        clear hk hub hus m1 m2 m3 m4
        go_wp2_with (first
          | (go_at_call 21; ((with_reducible refine (LB.out _).mono ?_); (rintro e w3 ⟨rfl, h1⟩; have B3 := hid_of (step_al (step_b HB2.out h1) (.cells #[.int .i64 6, .int .i64 65536] 28)); clear h1)))
          | (go_at_call 19; ((with_reducible refine (NB.out _).mono ?_); (rintro e w4 ⟨rfl, h1⟩; have B4 := hid_of (step_al (step_al (step_b B3.out h1) (.cells #[.int .i64 0, .string ⟨#[]⟩, .int .i64 0, .int .i64 0] 25)) (.cells #[.int .i64 6, .int .i64 65536] 28)); obtain ⟨u0, u1, _⟩ := row2 (L3Y (L3X h1) (bel_two w4 (.cells #[.int .i64 0, .string ⟨#[]⟩, .int .i64 0, .int .i64 0] 25) (.cells #[.int .i64 6, .int .i64 65536] 28))).1; clear h1))))
        go_ret
        exact ⟨rfl, B4.out⟩
      · have d5 : decide (k > 0) = false := decide_eq_false hk
        have hub : u.size ≤ 65536 := by have := HN.out; omega
        have hiu : i ≤ u.size := by omega
        obtain ⟨R, hR⟩ : ∃ R, R = Lx s 0 := ⟨_, rfl⟩
        obtain ⟨Q, hQ⟩ : ∃ Q, Q = Lx u 0 := ⟨_, rfl⟩
        have hok := lx_ok s _ 0 rfl (Nat.zero_le _)
        have hokQ := lx_ok u _ 0 rfl (Nat.zero_le _)
        rw [← hR, ← hQ] at m1 m2 m3
        rw [← hR] at m4 hok
        rw [← hQ] at m4 hokQ
        by_cases h0 : R.2.1 = 0
        · have h0Q : Q.2.1 = 0 := by rw [m2]; exact h0
          obtain ⟨m5, t0, r0, m6, m7⟩ := m4 h0
          obtain ⟨n, hn⟩ : ∃ n, n = Q.1.length := ⟨_, rfl⟩
          have hnR : R.1.length = n := by rw [hn, m1, List.length_map]
          have hn0 : 0 < n := by rw [hn, m6]; simp
          have hkey : Q.1.map Tok.key = R.1.map Tok.key := by rw [m1, List.map_map]; rfl
          have LX : Hid (∀ w1, Below w.heap.size w w1 → Calls Tryd.prog 21 #[.string u] w1 (L4 (Q.1.map Tok.t4) n 0 0 w1)) := hid_of (fun w1 h => (lex_any u w1 hub (HGL.out.at h)).mono fun e w' h2 => by rw [hn]; exact l4_of Q (fun h => (hokQ.2.1 h).1) h0Q.symm (if_pos h0Q).symm w1 e w' (by rw [hQ]; exact h2))
          have LR : Hid (∀ w1, Calls Tryd.prog 22 #[.string s] w1 (L4 (R.1.map Tok.t4) n 0 0 w1)) := hid_of (fun w1 => (qlex_any s w1 (by omega)).mono fun e w' h2 => by rw [← hnR]; exact l4_of R (fun h => (hok.2.1 h).1) h0.symm (if_pos h0).symm w1 e w' (by rw [hR]; exact h2))
          obtain ⟨j, hj⟩ : ∃ j, j = sk u i := ⟨_, rfl⟩
          obtain ⟨g, hg⟩ : ∃ g, g = nextF u i := ⟨_, rfl⟩
          rw [← hj] at m7
          rw [← hg] at m5
          have NX : Hid (∀ w1, Below w.heap.size w w1 → Calls Tryd.prog 19 #[.string u, .int .i64 i] w1 fun e w' => e = .returned (.tuple #[.agg #[.int .i64 g.kind, .string g.text, .int .i64 g.n, .int .i64 j], .int .i64 g.stop, .agg #[.int .i64 0, .int .i64 0]]) ∧ Below w1.heap.size w1 w') := hid_of (fun w1 h => (nex_any u i w1 hub hiu (HGL.out.at h)).mono fun e w' h2 => by rw [← hg, ← hj] at h2; exact ⟨h2.1 m5, h2.2.2⟩)
          obtain ⟨kd, tx, nn, st, cd⟩ := g
          have SM : Hid (∀ ao bo xc yc w1, QRd w1 (.slice ao n xc) (qs4 (Q.1.map Tok.t4)) → QRd w1 (.slice bo n yc) (qs4 (R.1.map Tok.t4)) → Calls Tryd.prog 23 #[.slice ao n xc, .slice bo n yc, .bool false] w1 (BlP true w1)) := hid_of (fun ao bo xc yc w1 h1 h2 => qsame_any false _ _ ao bo n n xc yc w1 h1 h2 (keys_eqs (by rw [map_key, map_key]; exact hkey)))
          have HL : Hid (∀ xo xc w1, QRd w1 (.slice xo n xc) (qs4 (Q.1.map Tok.t4)) → ∃ g o, xo = some ⟨g, o, none⟩ ∧ w1.cell? ⟨g, o + 3, none⟩ = some (.int .i64 j)) := hid_of (fun xo xc w1 h => by
            obtain ⟨g, o, v1, _, _, _, v2⟩ := h.get (i := 0) (t := T4.q t0.t4) (by rw [m6]; rfl)
            refine ⟨g, o, v1, ?_⟩
            have v3 : w1.cell? ⟨g, o + 3, none⟩ = some (.int .i64 (t0.place : Int)) := by simpa [Tok.t4, T4.q] using v2
            rw [v3, m7])
          have n0 : (0 : Int) < (n : Int) := by omega
          have n1 : 0 < n := hn0
          have n2 : ¬ n = 0 := by omega
          clear hk hub hiu hR hQ hok hokQ m1 m2 m3 m4 m5 m6 m7 h0 h0Q hn hnR hn0 hkey hj hg hus
          go_wp2_with (first
            | (go_at_call 21; ((with_reducible refine (LX.out _ HB2.out).mono ?_); (rintro e w3 ⟨xo, xc, rfl, h1, h2⟩; have B3 := hid_of (step_al (step_b HB2.out h1) (.cells #[.int .i64 0, .int .i64 0] 28)); have X3 := hid_of (h2.at (bel_alloc w3 (.cells #[.int .i64 0, .int .i64 0] 28))); clear h1 h2)))
            | (go_at_call 19; ((with_reducible refine (NX.out _ B3.out).mono ?_); (rintro e w4 ⟨rfl, h1⟩; have B4 := hid_of (step_al (step_al (step_b B3.out h1) (.cells #[.int .i64 kd, .string tx, .int .i64 nn, .int .i64 j] 25)) (.cells #[.int .i64 0, .int .i64 0] 28)); have K4 := hid_of (L3Y (L3X h1) (bel_two w4 (.cells #[.int .i64 kd, .string tx, .int .i64 nn, .int .i64 j] 25) (.cells #[.int .i64 0, .int .i64 0] 28))); have KAB := hid_of (two_ab w4 (.cells #[.int .i64 kd, .string tx, .int .i64 nn, .int .i64 j] 25) (.cells #[.int .i64 0, .int .i64 0] 28)); have X4 := hid_of ((X3.out.at h1).at (bel_two w4 (.cells #[.int .i64 kd, .string tx, .int .i64 nn, .int .i64 j] 25) (.cells #[.int .i64 0, .int .i64 0] 28))); clear h1)))
            | (go_at_call 22; ((with_reducible refine (LR.out _).mono ?_); (rintro e w5 ⟨yo, yc, rfl, h1, h2⟩; have B5 := hid_of (step_al (step_b B4.out h1) (.cells #[.int .i64 0, .int .i64 0] 28)); have K5 := hid_of (L3Y (L3Y K4.out h1) (bel_alloc w5 (.cells #[.int .i64 0, .int .i64 0] 28))); have KA5 := hid_of (L3Y (L3Y KAB.out.1 h1) (bel_alloc w5 (.cells #[.int .i64 0, .int .i64 0] 28))); have KB5 := hid_of (L3Y (L3Y KAB.out.2 h1) (bel_alloc w5 (.cells #[.int .i64 0, .int .i64 0] 28))); have X5 := hid_of ((X4.out.at h1).at (bel_alloc w5 (.cells #[.int .i64 0, .int .i64 0] 28))); have Y5 := hid_of (h2.at (bel_alloc w5 (.cells #[.int .i64 0, .int .i64 0] 28))); clear h1 h2))))
          clear LX LR NX hcv HB2 B3 B4 K4 KAB X3 X4
          generalize w5.alloc (.cells #[.int .i64 0, .int .i64 0] 28) = W5 at *
          obtain ⟨ga, oa, rfl, _⟩ := HL.out _ _ _ X5.out
          have CS : Hid (∀ w1, Below W5.heap.size W5 w1 → w1.cell? ⟨w3.heap.size, 0, none⟩ = some (.int .i64 0) ∧ w1.cell? ⟨w4.heap.size + 1, 0, none⟩ = some (.int .i64 0) ∧ w1.cell? ⟨ga, oa + 3, none⟩ = some (.int .i64 j) ∧ w1.cell? ⟨w4.heap.size, 3, none⟩ = some (.int .i64 j)) := hid_of (fun w1 h => by
            obtain ⟨q1, _⟩ := row2 (L3Y K5.out h).1
            obtain ⟨q2, _⟩ := row2 (L3Y KB5.out h).1
            obtain ⟨_, _, _, q3, _⟩ := row4 (L3Y KA5.out h).1
            obtain ⟨g2, o2, e, q4⟩ := HL.out _ _ _ (X5.out.at h)
            cases e
            exact ⟨q1, q2, q4, q3⟩)
          have cs0 := CS.out _ (bel_drew (Below.refl _ W5))
          have SMX := hid_of (SM.out _ _ _ _ W5.drew (X5.out.at (bel_drew (Below.refl _ _))) (Y5.out.at (bel_drew (Below.refl _ _))))
          go_region_held3 (fun W => W.cell? ⟨w3.heap.size, 0, none⟩ = some (.int .i64 0) ∧ W.cell? ⟨w4.heap.size + 1, 0, none⟩ = some (.int .i64 0) ∧ W.cell? ⟨ga, oa + 3, none⟩ = some (.int .i64 j) ∧ W.cell? ⟨w4.heap.size, 3, none⟩ = some (.int .i64 j)) (first | exact cs0 | exact cs4) ((go_at_call 23; ((with_reducible refine (SMX.out).mono ?_); (rintro e w6 ⟨rfl, h⟩; have B6 := hid_of h; have cs4 := CS.out _ ((bel_drew (Below.refl _ _)).trans (h.mono (Nat.le_refl _))); clear h))))
          all_goals go_wp2
          all_goals go_ret
          all_goals exact ⟨rfl, step_b (bel_drew B5.out) B6.out⟩
        · obtain ⟨c, hc⟩ : ∃ c, c = R.2.1 := ⟨_, rfl⟩
          obtain ⟨p, hp⟩ : ∃ p : Int, p = R.2.2 := ⟨_, rfl⟩
          have h0Q : Q.2.1 ≠ 0 := by rw [m2]; exact h0
          have m5 := m3 h0
          have LX : Hid (∀ w1, Below w.heap.size w w1 → Calls Tryd.prog 21 #[.string u] w1 (L4 (Q.1.map Tok.t4) Q.1.length c (p + (i : Int)) w1)) := hid_of (fun w1 h => (lex_any u w1 hub (HGL.out.at h)).mono fun e w' h2 => l4_of Q (fun h => (hokQ.2.1 h).1) (by rw [hc, m2]) (by rw [if_neg h0Q, hp]; omega) w1 e w' (by rw [hQ]; exact h2))
          have LR : Hid (∀ w1, Calls Tryd.prog 22 #[.string s] w1 (L4 (R.1.map Tok.t4) R.1.length c p w1)) := hid_of (fun w1 => (qlex_any s w1 (by omega)).mono fun e w' h2 => l4_of R (fun h => (hok.2.1 h).1) hc (by rw [if_neg h0, hp]) w1 e w' (by rw [hR]; exact h2))
          obtain ⟨nk, ntx, nn, np, nst, nc, nq, hh⟩ := n7_of (g := nextF u i) (p := sk u i)
          have NX : Hid (∀ w1, Below w.heap.size w w1 → Calls Tryd.prog 19 #[.string u, .int .i64 i] w1 (N7 nk ntx nn np nst nc nq w1)) := hid_of (fun w1 h => (nex_any u i w1 hub hiu (HGL.out.at h)).mono fun e w' => hh w1 e w')
          have dc : (c != 0) = true := by rw [hc]; simpa using h0
          have hpl : 0 ≤ p := by omega
          have hpl2 : p ≤ 1000 := by have := (hok.2.1 h0).2.2; have := HS1.out; omega
          clear hk hub hiu hR hQ hok hokQ m1 m2 m3 m4 h0 hc hp h0Q m5 hh hus
          go_wp2_with (first
            | (go_at_call 21; ((with_reducible refine (LX.out _ HB2.out).mono ?_); (rintro e w3 ⟨xo, xc, rfl, h1, h2⟩; have B3 := hid_of (step_al (step_b HB2.out h1) (.cells #[.int .i64 c, .int .i64 (p + (i : Int))] 28)); clear h1 h2)))
            | (go_at_call 19; ((with_reducible refine (NX.out _ B3.out).mono ?_); (rintro e w4 ⟨rfl, h1⟩; have B4 := hid_of (step_al (step_al (step_b B3.out h1) (.cells #[.int .i64 nk, .string ntx, .int .i64 nn, .int .i64 np] 25)) (.cells #[.int .i64 nc, .int .i64 nq] 28)); have K4 := hid_of (L3Y (L3X h1) (bel_two w4 (.cells #[.int .i64 nk, .string ntx, .int .i64 nn, .int .i64 np] 25) (.cells #[.int .i64 nc, .int .i64 nq] 28))); clear h1)))
            | (go_at_call 22; ((with_reducible refine (LR.out _).mono ?_); (rintro e w5 ⟨yo, yc, rfl, h1, h2⟩; have B5 := hid_of (step_al (step_b B4.out h1) (.cells #[.int .i64 c, .int .i64 p] 28)); obtain ⟨u0, u1, _⟩ := row2 (L3Y (L3Y K4.out h1) (bel_alloc w5 (.cells #[.int .i64 c, .int .i64 p] 28))).1; clear h1 h2))))
          go_ret
          exact ⟨rfl, B5.out⟩
end Go.Proofs.YtdmjlmlmdllhgaaDoor
