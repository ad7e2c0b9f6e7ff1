/- The law on blanks. Bounds on sizes alone. -/
import Derived.Test.YtdmjlmlmdllhgaaDoorLexLw5
import Derived.Test.YtdmjlmlmdllhgaaDoorLexBlk
namespace Go.Proofs.YtdmjlmlmdllhgaaDoor
open Go.RowKit

theorem LZ2 {w2 w3 : World} {q : Int} (h : Below ((w2.alloc (.cells #[.int .i64 0, .int .i64 q] 28)).alloc (.cells #[.int .i64 0, .int .i64 0] 28)).drew.heap.size ((w2.alloc (.cells #[.int .i64 0, .int .i64 q] 28)).alloc (.cells #[.int .i64 0, .int .i64 0] 28)).drew w3) : w3.heap[w2.heap.size + 1]? = some (.cells #[.int .i64 0, .int .i64 0] 28 (0, 0)) := by
  have h2 : Below ((w2.alloc (.cells #[.int .i64 0, .int .i64 q] 28)).alloc (.cells #[.int .i64 0, .int .i64 0] 28)).heap.size ((w2.alloc (.cells #[.int .i64 0, .int .i64 q] 28)).alloc (.cells #[.int .i64 0, .int .i64 0] 28)) w3 := (bel_drew (Below.refl _ _)).trans h
  have h3 := (h2.block (w2.alloc (.cells #[.int .i64 0, .int .i64 q] 28)).heap.size (by simp)).trans (heap_alloc_new _ _)
  rw [show (w2.alloc (.cells #[.int .i64 0, .int .i64 q] 28)).heap.size = w2.heap.size + 1 by simp] at h3
  exact h3
/-- Two cells that are stored to what they hold. -/
theorem same2 {w : World} {g t : Nat} {fr : Nat × Nat} {a b : Value} (h : w.heap[g]? = some (.cells #[a, b] t fr)) : (w.setCell ⟨g, 0, none⟩ a).setCell ⟨g, 1, none⟩ b = w := by
  cases w
  simp only [World.setCell]
  congr 1
  refine Array.ext_getElem? fun k => ?_
  by_cases e : g = k
  · subst e
    simp only [Array.getElem?_modify, if_pos, h]
    rfl
  · simp only [Array.getElem?_modify, if_neg e]
set_option maxRecDepth 100000 in
set_option maxHeartbeats 3200000 in
theorem blanks_law (s C : ByteArray) (k : Int) (w : World) (hG : Glob w) : Calls Tryd.prog 9 #[.string s, .string C, .int .i64 k] w fun e w' => e = .returned (.bool true) ∧ Below w.heap.size w w' := by
  have AW := hid_of (awake_any w hG)
  by_cases hs : 2000 < s.size
  · have d1 : decide ((s.size : Int) > 2000) = true := decide_eq_true (by omega)
    clear hs
    go_enter Tryd.func9, Tryd.ntmps9
    go_wp2_with (go_at_call 14; ((with_reducible refine (AW.out).mono ?_); (rintro e w1 ⟨rfl, h1⟩; have B1 := hid_of h1; clear h1)))
    go_ret
    exact ⟨rfl, B1.out⟩
  have d1 : decide ((s.size : Int) > 2000) = false := decide_eq_false (by omega)
  by_cases hC : 2000 < C.size
  · have d2 : decide ((C.size : Int) > 2000) = true := decide_eq_true (by omega)
    clear hs hC
    go_enter Tryd.func9, Tryd.ntmps9
    go_wp2_with (go_at_call 14; ((with_reducible refine (AW.out).mono ?_); (rintro e w1 ⟨rfl, h1⟩; have B1 := hid_of h1; clear h1)))
    go_ret
    exact ⟨rfl, B1.out⟩
  have d2 : decide ((C.size : Int) > 2000) = false := decide_eq_false (by omega)
  have hcz : (C.size : Int) ≤ 2000 := by omega
  have HS : Hid (s.size ≤ 2000) := hid_of (by omega)
  have HCS : Hid (C.size ≤ 2000) := hid_of (by omega)
  obtain ⟨R, hR⟩ : ∃ R, R = Lx s 0 := ⟨_, rfl⟩
  have hok := lx_ok s _ 0 rfl (Nat.zero_le _)
  rw [← hR] at hok
  obtain ⟨c, hc⟩ : ∃ c, c = R.2.1 := ⟨_, rfl⟩
  obtain ⟨q, hq⟩ : ∃ q, q = if R.2.1 = 0 then (0 : Int) else (R.2.2 : Int) := ⟨_, rfl⟩
  obtain ⟨n, hn⟩ : ∃ n, n = R.1.length := ⟨_, rfl⟩
  have LX : Hid (∀ w1, Below w.heap.size w w1 → Calls Tryd.prog 21 #[.string s] w1 (L4 (R.1.map Tok.t4) n c q w1)) := hid_of (fun w1 h => (lex_any s w1 (by have := HS.out; omega) (hG.at h)).mono fun e w' h2 => by rw [hn]; exact l4_of R (fun h => (hok.2.1 h).1) hc hq w1 e w' (by rw [hR]; exact h2))
  have HK := hid_of hok
  have HR := hid_of hR
  have HN := hid_of hn
  have HC0 := hid_of hc
  have HQ0 := hid_of hq
  have HGL := hid_of hG
  have HNL : Hid (n ≤ 2001) := hid_of (by
    rw [hn]
    by_cases h0 : R.2.1 = 0
    · have := (hok.2.2 h0).2; have := HS.out; omega
    · rw [(hok.2.1 h0).1]; simp)
  clear hs hC hok hR hn hc hq hG
  go_enter Tryd.func9, Tryd.ntmps9
  go_wp2_with (go_at_call 14; ((with_reducible refine (AW.out).mono ?_); (rintro e w1 ⟨rfl, h1⟩; have B1 := hid_of h1; clear h1)))
  clear AW
  go_loop [7] (fun iv => ∃ (i : Nat), i ≤ C.size ∧ iv = .int .i64 i ∧ Hid (∀ j, j < i → gt C j ≠ 10)) (fun iv => C.size - (intOf iv).toNat)
  case atStart => exact ⟨0, Nat.zero_le _, rfl, hid_of (fun j hj => by omega)⟩
  case round =>
    obtain ⟨i, hi, rfl, hall⟩ := hrel
    by_cases hlt : i < C.size
    · have d3 : decide (i < C.size) = true := decide_eq_true hlt
      have b1 : (i : Int) < (C.size : Int) := by omega
      have b0 : (0 : Int) ≤ (i : Int) := by omega
      obtain ⟨x, hx⟩ : ∃ x : Int, x = ((C[i]).toNat : Int) := ⟨_, rfl⟩
      have HX : Hid (gt C i = x) := hid_of (by rw [gt_lt hlt, hx])
      have hxs : ((C[i]).toNat : Int) = x := hx.symm
      clear hx
      by_cases h10 : x = 10
      · have d4 : (x == 10) = true := by simp [h10]
        clear h10
        go_wp2
        go_ret
        exact ⟨rfl, B1.out⟩
      · have d4 : (x == 10) = false := by simp [h10]
        have HN10 : Hid (∀ j, j < i + 1 → gt C j ≠ 10) := hid_of (fun j hj => by
          by_cases e : j = i
          · rw [e, HX.out]; exact h10
          · exact hall.out j (by omega))
        clear h10
        go_wp2
        go_round
        case rel => exact ⟨i + 1, by omega, by go_num, HN10⟩
        case measure => simp [intOf]; omega
    · have d3 : decide (i < C.size) = false := decide_eq_false hlt
      have HALL : Hid (∀ j, j < C.size → gt C j ≠ 10) := hid_of (fun j hj => hall.out j (by omega))
      clear hall
      by_cases h0 : c = 0
      · subst h0
        have h0 : R.2.1 = 0 := HC0.out.symm
        by_cases hk0 : k < 0
        · have d4 : decide (k < 0) = true := decide_eq_true hk0
          clear h0 hk0
          go_wp2_with (go_at_call 21; ((with_reducible refine (LX.out _ B1.out).mono ?_); (rintro e w2 ⟨xo, xc, rfl, h1, h2⟩; have B2 := hid_of (step_al (step_b B1.out h1) (.cells #[.int .i64 0, .int .i64 q] 28)); clear h1 h2)))
          go_ret
          exact ⟨rfl, B2.out⟩
        · have d4 : decide (k < 0) = false := decide_eq_false hk0
          obtain ⟨y, rfl⟩ : ∃ y : Nat, k = y := ⟨k.toNat, by omega⟩
          clear hk0
          by_cases hyn : n ≤ y
          · have d5 : decide (n ≤ y) = true := decide_eq_true hyn
            clear h0 hyn
            go_wp2_with (go_at_call 21; ((with_reducible refine (LX.out _ B1.out).mono ?_); (rintro e w2 ⟨xo, xc, rfl, h1, h2⟩; have B2 := hid_of (step_al (step_b B1.out h1) (.cells #[.int .i64 0, .int .i64 q] 28)); clear h1 h2)))
            go_ret
            exact ⟨rfl, B2.out⟩
          · have d5 : decide (n ≤ y) = false := decide_eq_false hyn
            have hy1 : (0 : Int) ≤ (y : Int) := by omega
            have hy2 : (y : Int) < (n : Int) := by omega
            have hyl : y < R.1.length := by rw [← HN.out]; omega
            obtain ⟨p, hp⟩ : ∃ p, p = R.1[y].place := ⟨_, rfl⟩
            have hmem : R.1[y] ∈ (Lx s 0).1 := by rw [← HR.out]; exact List.getElem_mem hyl
            have hps : p ≤ s.size := by rw [hp]; exact (lx_place _ 0 rfl (Nat.zero_le _) _ hmem).2
            obtain ⟨A, F, e1, e2⟩ := blk_facts (u := _) hps HALL.out rfl
            have hbl := lx_blanks A F e1 e2 _ 0 rfl (Nat.zero_le _) (by rw [← HR.out]; exact h0) ⟨_, hmem, hp.symm⟩
            have hsu := F.sz
            clear A F e1 e2
            have hz1 : (s.extract 0 p).size ≤ 2000 := by have := HS.out; rw [ByteArray.size_extract]; omega
            have hz2 : (s.extract p s.size).size ≤ 2000 := by have := HS.out; rw [ByteArray.size_extract]; omega
            have hcs := HCS.out
            have hsz := HS.out
            have z3 : (⟨#[32, 9, 35]⟩ : ByteArray).size = 3 := rfl
            have z4 : (⟨#[13, 10]⟩ : ByteArray).size = 2 := rfl
            have A1 : ∀ W, (Op.stringOp .add (s.extract 0 p) ⟨#[32, 9, 35]⟩).run Tryd.prog W = .ok (.string (s.extract 0 p ++ ⟨#[32, 9, 35]⟩)) W := fun W => run_string_add_sum W _ _ (by rw [z3]; omega)
            have A2 : ∀ W, (Op.stringOp .add (s.extract 0 p ++ ⟨#[32, 9, 35]⟩) C).run Tryd.prog W = .ok (.string (s.extract 0 p ++ ⟨#[32, 9, 35]⟩ ++ C)) W := fun W => run_string_add_sum W _ _ (by rw [ByteArray.size_append, z3]; omega)
            have A3 : ∀ W, (Op.stringOp .add (s.extract 0 p ++ ⟨#[32, 9, 35]⟩ ++ C) ⟨#[13, 10]⟩).run Tryd.prog W = .ok (.string (s.extract 0 p ++ ⟨#[32, 9, 35]⟩ ++ C ++ ⟨#[13, 10]⟩)) W := fun W => run_string_add_sum W _ _ (by rw [ByteArray.size_append, ByteArray.size_append, z3, z4]; omega)
            have A4 : ∀ W, (Op.stringOp .add (s.extract 0 p ++ ⟨#[32, 9, 35]⟩ ++ C ++ ⟨#[13, 10]⟩) (s.extract p s.size)).run Tryd.prog W = .ok (.string (s.extract 0 p ++ ⟨#[32, 9, 35]⟩ ++ C ++ ⟨#[13, 10]⟩ ++ s.extract p s.size)) W := fun W => run_string_add_sum W _ _ (by rw [ByteArray.size_append, ByteArray.size_append, ByteArray.size_append, z3, z4]; omega)
            generalize s.extract 0 p ++ ⟨#[32, 9, 35]⟩ ++ C ++ ⟨#[13, 10]⟩ ++ s.extract p s.size = u at *
            obtain ⟨Q, hQ⟩ : ∃ Q, Q = Lx u 0 := ⟨_, rfl⟩
            have hokQ := lx_ok u _ 0 rfl (Nat.zero_le _)
            rw [← HR.out, ← hQ] at hbl
            rw [← hQ] at hokQ
            obtain ⟨r1, r2⟩ := hbl
            have hml : Q.1.length = n := by rw [HN.out]; simpa using (congrArg List.length r2).symm
            have LY : Hid (∀ w1, Below w.heap.size w w1 → Calls Tryd.prog 21 #[.string u] w1 (L4 (Q.1.map Tok.t4) n 0 0 w1)) := hid_of (fun w1 h => (lex_any u w1 (by omega) (HGL.out.at h)).mono fun e w' h2 => by rw [← hml]; exact l4_of Q (fun h => (hokQ.2.1 h).1) r1.symm (if_pos r1).symm w1 e w' (by rw [hQ]; exact h2))
            have SM : Hid (∀ ao bo xc yc w1, QRd w1 (.slice ao n xc) (qs4 (R.1.map Tok.t4)) → QRd w1 (.slice bo n yc) (qs4 (Q.1.map Tok.t4)) → Calls Tryd.prog 23 #[.slice ao n xc, .slice bo n yc, .bool false] w1 (BlP true w1)) := hid_of (fun ao bo xc yc w1 h1 h2 => qsame_any false _ _ ao bo n n xc yc w1 h1 h2 (keys_eqs (by rw [map_key, map_key]; exact r2)))
            have HL : Hid (∀ xo xc w1, QRd w1 (.slice xo n xc) (qs4 (R.1.map Tok.t4)) → ∃ g o, xo = some ⟨g, o, none⟩ ∧ w1.cell? ⟨g, o + y * 4 + 3, none⟩ = some (.int .i64 p)) := hid_of (fun xo xc w1 h => by
              obtain ⟨g, o, v1, _, _, _, v2⟩ := h.get (i := y) (t := T4.q (R.1[y].t4)) (by simp [qs4, List.getElem?_eq_getElem hyl])
              refine ⟨g, o, v1, ?_⟩
              rw [hp]; exact v2)
            have b1 : (p : Int) ≤ (s.size : Int) := by omega
            have b0 : (0 : Int) ≤ (p : Int) := by omega
            have d6 : decide ((p : Int) < 0) = false := decide_eq_false (by omega)
            have d7 : decide (s.size < p) = false := decide_eq_false (by omega)
            have n1 := HNL.out
            clear h0 hyn hyl hmem hps hp hsu hz1 hz2 hcs hsz z3 z4 hQ hokQ r1 r2 hml HK HR HN HC0 HQ0 HGL HNL
            go_wp2_with (go_at_call 21; ((with_reducible refine (LX.out _ B1.out).mono ?_); (rintro e w2 ⟨xo, xc, rfl, h1, h2⟩; have B2 := hid_of (step_al (step_b B1.out h1) (.cells #[.int .i64 0, .int .i64 q] 28)); have X2 := hid_of (h2.at (bel_alloc w2 (.cells #[.int .i64 0, .int .i64 q] 28))); obtain ⟨g, o, rfl, y1⟩ := HL.out _ _ _ X2.out; clear h1 h2 LX)))
            go_region_with (first
              | (go_at_call 21; ((with_reducible refine (LY.out _ (bel_drew B2.out)).mono ?_); (rintro e w3 ⟨yo, yc, rfl, h1, h2⟩; have B3 := hid_of (step_al (step_b (bel_drew B2.out) h1) (.cells #[.int .i64 0, .int .i64 0] 28)); have X3 := hid_of ((X2.out.at ((bel_drew (Below.refl _ _)).trans h1)).at (bel_alloc w3 (.cells #[.int .i64 0, .int .i64 0] 28))); have Y3 := hid_of (h2.at (bel_alloc w3 (.cells #[.int .i64 0, .int .i64 0] 28))); clear h1 h2)))
              | (go_at_call 21; ((with_reducible refine (LY.out _ (bel_drew (step_al B2.out _))).mono ?_); (rintro e w3 ⟨yo, yc, rfl, h1, h2⟩; have B3 := hid_of (step_b (bel_drew (step_al B2.out _)) h1); have X3 := hid_of ((X2.out.at (bel_alloc _ (.cells #[.int .i64 0, .int .i64 0] 28))).at ((bel_drew (Below.refl _ _)).trans h1)); have Y3 := hid_of h2; have Z3 := hid_of (LZ2 h1); obtain ⟨z0, z1, y2, y3⟩ := row2 Z3.out; clear h1 h2))))
            · skip
              have SMX := hid_of (SM.out _ _ _ _ _ X3.out Y3.out)
              go_wp2_with (go_at_call 23; ((with_reducible refine (SMX.out).mono ?_); (rintro e w4 ⟨rfl, h1⟩; have B4 := hid_of (step_b B3.out h1); clear h1)))
              go_ret
              exact ⟨rfl, B4.out⟩
            · rw [same2 Z3.out]
              have SMX := hid_of (SM.out _ _ _ _ _ X3.out Y3.out)
              go_wp2_with (go_at_call 23; ((with_reducible refine (SMX.out).mono ?_); (rintro e w4 ⟨rfl, h1⟩; have B4 := hid_of (step_b B3.out h1); clear h1)))
              go_ret
              exact ⟨rfl, B4.out⟩
      · have h0 : R.2.1 ≠ 0 := by rw [← HC0.out]; exact h0
        have dc : (c != 0) = true := by rw [HC0.out]; simpa using h0
        clear h0
        go_wp2_with (go_at_call 21; ((with_reducible refine (LX.out _ B1.out).mono ?_); (rintro e w2 ⟨xo, xc, rfl, h1, h2⟩; have B2 := hid_of (step_al (step_b B1.out h1) (.cells #[.int .i64 c, .int .i64 q] 28)); clear h1 h2)))
        go_ret
        exact ⟨rfl, B2.out⟩
end Go.Proofs.YtdmjlmlmdllhgaaDoor
