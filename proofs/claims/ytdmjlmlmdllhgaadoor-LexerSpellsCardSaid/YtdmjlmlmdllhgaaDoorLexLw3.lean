/- The law on steps. Bounds on sizes alone. -/
import Derived.Test.YtdmjlmlmdllhgaaDoorLexLw2
namespace Go.Proofs.YtdmjlmlmdllhgaaDoor
open Go.RowKit

/-- i tokens are read, and what follows begins at place a. -/
def StP (s : ByteArray) (i a : Nat) : Prop := ∃ l : List Tok, l.length = i ∧ pres l (Lx s a) = Lx s 0
theorem stp_zero (s : ByteArray) : StP s 0 0 := ⟨[], rfl, by
  have h := lx_ok s _ 0 rfl (Nat.zero_le _)
  exact pres_nil _ (fun h2 => (h.2.1 h2).1) h.1⟩
theorem StP.bad {s : ByteArray} {i a : Nat} (h : StP s i a) (hc : (nextF s a).code ≠ 0) : Lx s 0 = ([], (nextF s a).code, sk s a) := by
  obtain ⟨l, _, h2⟩ := h
  rw [← h2, lx_bad hc, pres, if_pos hc]
theorem StP.fin {s : ByteArray} {i a : Nat} (h : StP s i a) (he : sk s a = s.size) : (Lx s 0).2 = (0, 0) ∧ (Lx s 0).1.length = i + 1 ∧ (Lx s 0).1[i]? = some ⟨6, ⟨#[]⟩, 0, s.size⟩ := by
  obtain ⟨l, h1, h2⟩ := h
  rw [← h2, lx_end he]
  have e : pres l ([⟨6, ⟨#[]⟩, 0, s.size⟩], 0, 0) = (l ++ [⟨6, ⟨#[]⟩, 0, s.size⟩], 0, 0) := rfl
  rw [e]
  refine ⟨rfl, by simp [h1], ?_⟩
  simp [h1]
theorem StP.tok {s : ByteArray} {i a : Nat} (h : StP s i a) (ha : a ≤ s.size) (he : sk s a ≠ s.size) (hc : (nextF s a).code = 0) : StP s (i + 1) (nextF s a).stop ∧ ((Lx s 0).2.1 = 0 → (Lx s 0).1[i]? = some (tkOf s a)) := by
  obtain ⟨l, h1, h2⟩ := h
  rw [lx_tok ha he hc, pres_pre] at h2
  refine ⟨⟨l ++ [tkOf s a], by simp [h1], h2⟩, fun h0 => ?_⟩
  rw [← h2] at h0 ⊢
  unfold pres at h0 ⊢
  split at h0
  · rename_i h3; exact absurd h0 h3
  · rename_i h3
    rw [if_neg h3]
    show ((l ++ [tkOf s a]) ++ (Lx s (nextF s a).stop).1)[i]? = _
    rw [List.append_assoc, List.getElem?_append_right (by omega), h1, Nat.sub_self]
    rfl
set_option maxRecDepth 100000 in
set_option maxHeartbeats 3200000 in
theorem steps_law (s : ByteArray) (w : World) (hG : Glob w) : Calls Tryd.prog 6 #[.string s] w fun e w' => e = .returned (.bool true) ∧ Below w.heap.size w w' := by
  have AW := hid_of (awake_any w hG)
  by_cases hs : 2000 < s.size
  · have d1 : decide ((s.size : Int) > 2000) = true := decide_eq_true (by omega)
    clear hs
    go_enter Tryd.func6, Tryd.ntmps6
    go_wp2_with (go_at_call 14; ((with_reducible refine (AW.out).mono ?_); (rintro e w1 ⟨rfl, h1⟩; have B1 := hid_of h1; clear h1)))
    go_ret
    exact ⟨rfl, B1.out⟩
  · have d1 : decide ((s.size : Int) > 2000) = false := decide_eq_false (by omega)
    have hsz : s.size ≤ 2000 := by omega
    obtain ⟨R, hR⟩ : ∃ R, R = Lx s 0 := ⟨_, rfl⟩
    have hemp : R.2.1 ≠ 0 → R.1 = [] := by rw [hR]; exact fun h => ((lx_ok s _ 0 rfl (Nat.zero_le _)).2.1 h).1
    obtain ⟨c, hc⟩ : ∃ c, c = R.2.1 := ⟨_, rfl⟩
    obtain ⟨q, hq⟩ : ∃ q, q = if R.2.1 = 0 then (0 : Int) else (R.2.2 : Int) := ⟨_, rfl⟩
    obtain ⟨n, hn⟩ : ∃ n, n = R.1.length := ⟨_, rfl⟩
    have LX : Hid (∀ w1, Below w.heap.size w w1 → Calls Tryd.prog 21 #[.string s] w1 (L4 (R.1.map Tok.t4) n c q w1)) := hid_of (fun w1 h => (lex_any s w1 (by omega) (hG.at h)).mono fun e w' h2 => by rw [hn]; exact l4_of R hemp hc hq w1 e w' (by rw [hR]; exact h2))
    have NX : Hid (∀ w1 (a : Nat), Below w.heap.size w w1 → a ≤ s.size → Calls Tryd.prog 19 #[.string s, .int .i64 a] w1 (NexP (nextF s a) (sk s a) w1)) := hid_of (fun w1 a h h2 => nex_any s a w1 (by omega) h2 (hG.at h))
    have HN := hid_of hn
    have HC := hid_of hc
    have HQ := hid_of hq
    have HR := hid_of hR
    have HS := hid_of hsz
    have hss : (s.size : Int) ≤ 2000 := by omega
    have HNL : Hid (n ≤ 2001) := hid_of (by
      rw [hn]
      by_cases h0 : R.2.1 = 0
      · have := ((lx_ok s _ 0 rfl (Nat.zero_le _)).2.2 (by rw [← hR]; exact h0)).2; rw [← hR] at this; omega
      · rw [hemp h0]; simp)
    clear hs hsz hG hn hc hq hR hemp
    go_enter Tryd.func6, Tryd.ntmps6
    go_wp2_with (first
      | (go_at_call 14; ((with_reducible refine (AW.out).mono ?_); (rintro e w1 ⟨rfl, h1⟩; have B1 := hid_of h1; clear h1)))
      | (go_at_call 21; ((with_reducible refine (LX.out _ B1.out).mono ?_); (rintro e w2 ⟨xo, xc, rfl, h1, h2⟩; have X2 := hid_of h2; have B2 := hid_of (step_al (step_b B1.out h1) (.cells #[.int .i64 c, .int .i64 q] 28)); clear h1 h2))))
    have XR := hid_of (X2.out.at (bel_alloc w2 (.cells #[.int .i64 c, .int .i64 q] 28)))
    have ZF : Hid ((w2.alloc (.cells #[.int .i64 c, .int .i64 q] 28)).heap[w2.heap.size]? = some (.cells #[.int .i64 c, .int .i64 q] 28 (0, 0))) := hid_of (heap_alloc_new _ _)
    have ZL : Hid (w2.heap.size < (w2.alloc (.cells #[.int .i64 c, .int .i64 q] 28)).heap.size) := hid_of (by simp)
    clear AW
    generalize w2.alloc (.cells #[.int .i64 c, .int .i64 q] 28) = Z at *
    go_loopw [5, 6] (fun av iv wr => ∃ (i a : Nat), av = .int .i64 a ∧ iv = .int .i64 i ∧ i ≤ a ∧ a ≤ s.size ∧ Hid (StP s i a) ∧ Hid (Below Z.heap.size Z wr)) (fun av _ _ => s.size - (intOf av).toNat)
    case atStart => exact ⟨0, 0, rfl, rfl, Nat.le_refl _, Nat.zero_le _, hid_of (stp_zero s), hid_of (Below.refl _ _)⟩
    case round =>
      obtain ⟨i, a, rfl, rfl, hia, has, hst, hb⟩ := hrel
      have d2 : decide (i ≤ s.size) = true := decide_eq_true (by omega)
      have HIA := hid_of hia
      have HAS := hid_of has
      have hBZ := hid_of (step_b B2.out hb.out)
      obtain ⟨g, hg⟩ : ∃ g, g = nextF s a := ⟨_, rfl⟩
      obtain ⟨j, hj⟩ : ∃ j, j = sk s a := ⟨_, rfl⟩
      have N1 := hid_of (NX.out wr a hBZ.out has)
      rw [← hg, ← hj] at N1
      have HF : Hid (∀ w1, Below wr.heap.size wr w1 → w1.cell? ⟨w2.heap.size, 0, none⟩ = some (.int .i64 c) ∧ w1.cell? ⟨w2.heap.size, 1, none⟩ = some (.int .i64 q)) := hid_of (fun w1 h => by
        obtain ⟨b0, b1, _⟩ := row2 (((step_b hb.out h).block w2.heap.size ZL.out).trans ZF.out)
        exact ⟨b0, b1⟩)
      by_cases hgc : g.code = 0
      · have N2 : Hid (Calls Tryd.prog 19 #[.string s, .int .i64 a] wr fun e w1 => e = _ ∧ Below wr.heap.size wr w1) := hid_of (N1.out.mono fun e w1 h => ⟨h.1 hgc, h.2.2⟩)
        have hgc' : (nextF s a).code = 0 := by rw [← hg]; exact hgc
        have HK : Hid (g.kind = 6 ↔ j = s.size) := hid_of (by rw [hg, hj]; exact next_six has hgc')
        have HE : Hid (j = s.size → (Lx s 0).2 = (0, 0) ∧ (Lx s 0).1.length = i + 1 ∧ (Lx s 0).1[i]? = some ⟨6, ⟨#[]⟩, 0, s.size⟩) := hid_of (fun h => hst.out.fin (by rw [← hj]; exact h))
        have HT : Hid (j ≠ s.size → (StP s (i + 1) g.stop ∧ ((Lx s 0).2.1 = 0 → (Lx s 0).1[i]? = some ⟨g.kind, g.text, g.n, j⟩)) ∧ a < g.stop ∧ g.stop ≤ s.size) := hid_of (fun h => by
          have h2 : sk s a ≠ s.size := by rw [← hj]; exact h
          have h3 := next_stop has h2 hgc'
          rw [hg, hj]
          exact ⟨hst.out.tok has h2 hgc', h3.1, h3.2.2.1⟩)
        have HG6 : Hid (j = s.size → g = ⟨6, ⟨#[]⟩, 0, s.size, 0⟩) := hid_of (fun h => by rw [hg]; exact next_end (by rw [← hj]; exact h))
        clear N1 hgc' hg hj
        obtain ⟨kd, tx, nn, st, cd⟩ := g
        dsimp only at hgc N2 HK HE HT HG6
        subst hgc
        by_cases hje : j = s.size
        · obtain ⟨e1, e2, e3⟩ := HE.out hje
          have e4 := HG6.out hje
          simp only [Got.mk.injEq] at e4
          obtain ⟨rfl, rfl, rfl, rfl, _⟩ := e4
          subst hje
          rw [← HR.out] at e1 e2 e3
          have hc0 : c = 0 := by rw [HC.out, e1]
          have hni : n = i + 1 := by rw [HN.out, e2]
          subst hc0
          have d3 : decide (n ≤ i) = false := decide_eq_false (by omega)
          have dl : ((n : Int) == (i : Int) + 1) = true := by simp; omega
          have dl2 : (i : Int) < (n : Int) := by omega
          clear hni
          have HL : Hid (∀ w1, Below wr.heap.size wr w1 → ∃ g2 o2, xo = some ⟨g2, o2, none⟩ ∧ w1.cell? ⟨g2, o2 + i * 4, none⟩ = some (.int .i64 6) ∧ w1.cell? ⟨g2, o2 + i * 4 + 1, none⟩ = some (.string ⟨#[]⟩) ∧ w1.cell? ⟨g2, o2 + i * 4 + 2, none⟩ = some (.int .i64 0) ∧ w1.cell? ⟨g2, o2 + i * 4 + 3, none⟩ = some (.int .i64 s.size)) := hid_of (fun w1 h => by
            have := (XR.out.at (step_b hb.out h)).get (i := i) (t := T4.q ⟨6, ⟨#[]⟩, 0, s.size⟩) (by simp [qs4, e3]; rfl)
            exact this)
          clear e1 e2 e3 HE HT HG6 HK hst HR
          have d4 : (a : Int) ≤ (s.size : Int) := by omega
          have d5 : decide (s.size < a) = false := decide_eq_false (by omega)
          have E1 := neq_tok 6 0 s.size ⟨#[]⟩
          have E2 := neqg_tok
          have i1 : (i : Int) ≤ 2000 := by omega
          go_wp2_with (go_at_call 19; ((with_reducible refine (N2.out).mono ?_); (rintro e w3 ⟨rfl, h1⟩; have B3 := hid_of (h1.trans ((bel_two w3 (.cells #[.int .i64 6, .string ⟨#[]⟩, .int .i64 0, .int .i64 s.size] 25) (.cells #[.int .i64 0, .int .i64 0] 28)).mono h1.size)); have T3 := hid_of (two_a w3 (.cells #[.int .i64 6, .string ⟨#[]⟩, .int .i64 0, .int .i64 s.size] 25) (.cells #[.int .i64 0, .int .i64 0] 28)); clear h1)))
          obtain ⟨g2, o2, rfl, l0, l1, l2, l3⟩ := HL.out _ B3.out
          obtain ⟨f0, f1⟩ := HF.out _ B3.out
          obtain ⟨t0, t1, t2, t3, _⟩ := row4 T3.out
          generalize (w3.alloc (.cells #[.int .i64 6, .string ⟨#[]⟩, .int .i64 0, .int .i64 s.size] 25)).alloc (.cells #[.int .i64 0, .int .i64 0] 28) = w4 at *
          go_quiet (fail)
          go_wp2
          go_ret
          exact ⟨rfl, bel_drewN (step_b hBZ.out B3.out) _⟩
        · obtain ⟨⟨h1, h2⟩, h3, h4⟩ := HT.out hje
          have HST := hid_of h1
          have HI3 := hid_of h3
          have HI4 := hid_of h4
          have dk : (kd == 6) = false := by
            have : kd ≠ 6 := fun h => hje (HK.out.1 h)
            simpa using this
          rw [← HR.out] at h2
          have d5 : decide (st < a) = false := decide_eq_false (by omega)
          have d6 : decide (s.size < st) = false := decide_eq_false (by omega)
          have E1 := neq_tok kd nn j tx
          have E2 := neqg_tok
          have i1 : (i : Int) ≤ 2000 := by omega
          by_cases hc0 : c = 0
          · subst hc0
            have e3 := h2 HC.out.symm
            have hni : i < n := by rw [HN.out]; exact (List.getElem?_eq_some_iff.1 e3).1
            have HL : Hid (∀ w1, Below wr.heap.size wr w1 → ∃ g2 o2, xo = some ⟨g2, o2, none⟩ ∧ w1.cell? ⟨g2, o2 + i * 4, none⟩ = some (.int .i64 kd) ∧ w1.cell? ⟨g2, o2 + i * 4 + 1, none⟩ = some (.string tx) ∧ w1.cell? ⟨g2, o2 + i * 4 + 2, none⟩ = some (.int .i64 nn) ∧ w1.cell? ⟨g2, o2 + i * 4 + 3, none⟩ = some (.int .i64 j)) := hid_of (fun w1 h => by
              have := (XR.out.at (step_b hb.out h)).get (i := i) (t := T4.q ⟨kd, tx, nn, j⟩) (by simp [qs4, e3]; rfl)
              exact this)
            have d3 : decide (n ≤ i) = false := decide_eq_false (by omega)
            have hni2 : (i : Int) < (n : Int) := by omega
            clear e3 HE HT HG6 HK hst h1 h2 h3 h4
            go_wp2_with (go_at_call 19; ((with_reducible refine (N2.out).mono ?_); (rintro e w3 ⟨rfl, h1⟩; have B3 := hid_of (h1.trans ((bel_two w3 (.cells #[.int .i64 kd, .string tx, .int .i64 nn, .int .i64 j] 25) (.cells #[.int .i64 0, .int .i64 0] 28)).mono h1.size)); have T3 := hid_of (two_a w3 (.cells #[.int .i64 kd, .string tx, .int .i64 nn, .int .i64 j] 25) (.cells #[.int .i64 0, .int .i64 0] 28)); clear h1)))
            obtain ⟨g2, o2, rfl, l0, l1, l2, l3⟩ := HL.out _ B3.out
            obtain ⟨f0, f1⟩ := HF.out _ B3.out
            obtain ⟨t0, t1, t2, t3, _⟩ := row4 T3.out
            generalize (w3.alloc (.cells #[.int .i64 kd, .string tx, .int .i64 nn, .int .i64 j] 25)).alloc (.cells #[.int .i64 0, .int .i64 0] 28) = w4 at *
            go_quiet (fail)
            go_wp2
            go_roundw
            case rel => exact ⟨i + 1, st, rfl, by go_num, by have := HIA.out; have := HI3.out; omega, HI4.out, HST, hid_of (bel_drewN (step_b hb.out B3.out) _)⟩
            case measure => have := HI3.out; have := HI4.out; simp [intOf]; omega
          · have dc : (c == 0) = false := by simpa using hc0
            clear HE HT HG6 HK hst h1 h2 h3 h4 hc0
            go_wp2_with (go_at_call 19; ((with_reducible refine (N2.out).mono ?_); (rintro e w3 ⟨rfl, h1⟩; have B3 := hid_of (h1.trans ((bel_two w3 (.cells #[.int .i64 kd, .string tx, .int .i64 nn, .int .i64 j] 25) (.cells #[.int .i64 0, .int .i64 0] 28)).mono h1.size)); have T3 := hid_of (two_a w3 (.cells #[.int .i64 kd, .string tx, .int .i64 nn, .int .i64 j] 25) (.cells #[.int .i64 0, .int .i64 0] 28)); clear h1)))
            obtain ⟨f0, f1⟩ := HF.out _ B3.out
            obtain ⟨t0, t1, t2, t3, _⟩ := row4 T3.out
            generalize (w3.alloc (.cells #[.int .i64 kd, .string tx, .int .i64 nn, .int .i64 j] 25)).alloc (.cells #[.int .i64 0, .int .i64 0] 28) = w4 at *
            go_quiet (fail)
            go_wp2
            go_roundw
            case rel => exact ⟨i + 1, st, rfl, by go_num, by have := HIA.out; have := HI3.out; omega, HI4.out, HST, hid_of (bel_drewN (step_b hb.out B3.out) _)⟩
            case measure => have := HI3.out; have := HI4.out; simp [intOf]; omega
      · have N2 : Hid (Calls Tryd.prog 19 #[.string s, .int .i64 a] wr fun e w1 => e = _ ∧ Below wr.heap.size wr w1) := hid_of (N1.out.mono fun e w1 h => ⟨h.2.1 hgc, h.2.2⟩)
        have hbad := hst.out.bad (by rw [← hg]; exact hgc)
        rw [← HR.out, ← hg, ← hj] at hbad
        obtain ⟨kd, tx, nn, st, cd⟩ := g
        dsimp only at hgc N2 hbad
        have e1 : c = cd := by rw [HC.out, hbad]
        have e2 : q = j := by rw [HQ.out, hbad]; exact if_neg hgc
        have e3 : n = 0 := by rw [HN.out, hbad]; rfl
        subst e1 e2 e3
        have dc : (c != 0) = true := by simpa using hgc
        have E3 := eq_flt c j
        have E4 := eqg_flt
        clear N1 hbad hgc hg hj hst
        go_wp2_with (go_at_call 19; ((with_reducible refine (N2.out).mono ?_); (rintro e w3 ⟨rfl, h1⟩; have B3 := hid_of (h1.trans ((bel_two w3 (.cells #[.int .i64 0, .string ⟨#[]⟩, .int .i64 0, .int .i64 0] 25) (.cells #[.int .i64 c, .int .i64 j] 28)).mono h1.size)); obtain ⟨f0, f1⟩ := HF.out _ B3.out; clear h1)))
        go_ret
        exact ⟨rfl, step_b hBZ.out B3.out⟩
end Go.Proofs.YtdmjlmlmdllhgaaDoor
