/- The law on spellings. Bounds on sizes alone. -/
import Derived.Test.YtdmjlmlmdllhgaaDoorLexLw3
import Derived.Test.YtdmjlmlmdllhgaaDoorLexQsp
namespace Go.Proofs.YtdmjlmlmdllhgaaDoor
open Go.RowKit

theorem StP.more {s : ByteArray} {i a : Nat} (h : StP s (i + 1) a) (ha : a ≤ s.size) (h0 : (Lx s 0).2.1 = 0) : i + 2 ≤ (Lx s 0).1.length := by
  obtain ⟨l, h1, h2⟩ := h
  rw [← h2] at h0 ⊢
  unfold pres at h0 ⊢
  split at h0
  · rename_i h3; exact absurd h0 h3
  · rename_i h3
    rw [if_neg h3]
    have h4 := ((lx_ok s _ a rfl ha).2.2 (Decidable.not_not.1 h3)).1
    have h5 := List.length_pos_iff.2 h4
    show _ ≤ (l ++ (Lx s a).1).length
    rw [List.length_append]
    omega
set_option maxRecDepth 100000 in
set_option maxHeartbeats 3200000 in
theorem spells_law (s : ByteArray) (w : World) (hG : Glob w) : Calls Tryd.prog 10 #[.string s] w fun e w' => e = .returned (.bool true) ∧ Below w.heap.size w w' := by
  have AW := hid_of (awake_any w hG)
  by_cases hs : 2000 < s.size
  · have d1 : decide ((s.size : Int) > 2000) = true := decide_eq_true (by omega)
    clear hs
    go_enter Tryd.func10, Tryd.ntmps10
    go_wp2_with (go_at_call 14; ((with_reducible refine (AW.out).mono ?_); (rintro e w1 ⟨rfl, h1⟩; have B1 := hid_of h1; clear h1)))
    go_ret
    exact ⟨rfl, B1.out⟩
  have d1 : decide ((s.size : Int) > 2000) = false := decide_eq_false (by omega)
  have hsz : s.size ≤ 2000 := by omega
  obtain ⟨R, hR⟩ : ∃ R, R = Lx s 0 := ⟨_, rfl⟩
  have hok := lx_ok s _ 0 rfl (Nat.zero_le _)
  rw [← hR] at hok
  obtain ⟨c, hc⟩ : ∃ c, c = R.2.1 := ⟨_, rfl⟩
  have hss : (s.size : Int) ≤ 2000 := by omega
  by_cases h0 : R.2.1 = 0
  · obtain ⟨n, hn⟩ : ∃ n, n = R.1.length := ⟨_, rfl⟩
    have LX : Hid (∀ w1, Below w.heap.size w w1 → Calls Tryd.prog 21 #[.string s] w1 (L4 (R.1.map Tok.t4) n 0 0 w1)) := hid_of (fun w1 h => (lex_any s w1 (by omega) (hG.at h)).mono fun e w' h2 => by rw [hn]; exact l4_of R (fun h => (hok.2.1 h).1) h0.symm (if_pos h0).symm w1 e w' (by rw [hR]; exact h2))
    obtain ⟨hn1, hn2⟩ := hok.2.2 h0
    have hn3 : 0 < n := by rw [hn]; exact List.length_pos_iff.2 hn1
    obtain ⟨m, hm⟩ : ∃ m : Nat, n = m + 1 := ⟨n - 1, by omega⟩
    have HN := hid_of hn
    have HR := hid_of hR
    have H0 := hid_of h0
    have HM := hid_of hm
    have hm2 : (m : Int) ≤ 2000 := by omega
    have a6 : IntKind.i64.wrap ((n : Int) - 1) = (m : Int) := by rw [IntWalk.i64_in _ (by omega)]; omega
    have a7 : (m : Int) < (n : Int) := by omega
    have a8 : (0 : Int) ≤ (m : Int) := by omega
    have d0 : decide (0 < n) = true := decide_eq_true hn3
    clear hs hsz hG hc hR hok h0 hn hn1 hn2 hn3 hm
    go_enter Tryd.func10, Tryd.ntmps10
    go_wp2_with (first
      | (go_at_call 14; ((with_reducible refine (AW.out).mono ?_); (rintro e w1 ⟨rfl, h1⟩; have B1 := hid_of h1; clear h1)))
      | (go_at_call 21; ((with_reducible refine (LX.out _ B1.out).mono ?_); (rintro e w2 ⟨xo, xc, rfl, h1, h2⟩; have X2 := hid_of h2; have B2 := hid_of (step_al (step_b B1.out h1) (.cells #[.int .i64 0, .int .i64 0] 28)); clear h1 h2))))
    have XR := hid_of (X2.out.at (bel_alloc w2 (.cells #[.int .i64 0, .int .i64 0] 28)))
    clear AW X2 LX
    generalize w2.alloc (.cells #[.int .i64 0, .int .i64 0] 28) = Z at *
    go_loopw [5, 6] (fun av iv wr => ∃ (i a : Nat), av = .int .i64 a ∧ iv = .int .i64 i ∧ a ≤ s.size ∧ i ≤ m ∧ Hid (StP s i a) ∧ Hid (Below Z.heap.size Z wr)) (fun _ iv _ => m - (intOf iv).toNat)
    case atStart => exact ⟨0, 0, rfl, rfl, Nat.zero_le _, Nat.zero_le _, hid_of (stp_zero s), hid_of (Below.refl _ _)⟩
    case round =>
      obtain ⟨i, a, rfl, rfl, has, him, hst, hb⟩ := hrel
      have hBZ := hid_of (step_b B2.out hb.out)
      have h0' : (Lx s 0).2.1 = 0 := by rw [← HR.out]; exact H0.out
      have hc0 : (nextF s a).code = 0 := Decidable.not_not.1 (fun h => by have := hst.out.bad h; rw [this] at h0'; exact h h0')
      by_cases he : sk s a = s.size
      · obtain ⟨e1, e2, e3⟩ := hst.out.fin he
        rw [← HR.out] at e1 e2 e3
        have hmi : m = i := by have h1 := HN.out; have h2 := HM.out; omega
        subst hmi
        have HL : Hid (∀ w1, Below wr.heap.size wr w1 → ∃ g2 o2, xo = some ⟨g2, o2, none⟩ ∧ w1.cell? ⟨g2, o2 + m * 4, none⟩ = some (.int .i64 6) ∧ w1.cell? ⟨g2, o2 + m * 4 + 1, none⟩ = some (.string ⟨#[]⟩) ∧ w1.cell? ⟨g2, o2 + m * 4 + 2, none⟩ = some (.int .i64 0) ∧ w1.cell? ⟨g2, o2 + m * 4 + 3, none⟩ = some (.int .i64 s.size)) := hid_of (fun w1 h => by
          have := (XR.out.at (step_b hb.out h)).get (i := m) (t := T4.q ⟨6, ⟨#[]⟩, 0, s.size⟩) (by simp [qs4, e3]; rfl)
          exact this)
        obtain ⟨g2, o2, rfl, l0, l1, l2, l3⟩ := HL.out _ (Below.refl _ wr)
        have d2 : decide (m < m) = false := decide_eq_false (by omega)
        have d3 : decide (a ≤ s.size) = true := decide_eq_true has
        have E1 := eq_tok 6 0 s.size ⟨#[]⟩
        have E2 := eqg_tok
        have has2 : (a : Int) ≤ (s.size : Int) := by omega
        clear e1 e2 e3 h0' hc0 he hst HN HR H0 HM
        go_wp2
        go_ret
        exact ⟨rfl, hBZ.out⟩
      · have h3 := next_stop has he hc0
        obtain ⟨t1, t2⟩ := hst.out.tok has he hc0
        have hmore := t1.more h3.2.2.1 h0'
        have e3 := t2 h0'
        have hts := tok_spell (sk_lt has he) (by rw [← next_tok he]; exact hc0) ((sk s a : Nat) : Int)
        rw [← next_tok he] at hts
        rw [← HR.out] at hmore e3
        have hsk := (sk_spec s a).1
        have hsl := sk_lt has he
        obtain ⟨g, hg⟩ : ∃ g, g = nextF s a := ⟨_, rfl⟩
        obtain ⟨j, hj⟩ : ∃ j, j = sk s a := ⟨_, rfl⟩
        have hk6 : g.kind ≠ 6 := by rw [hg]; omega
        obtain ⟨h3a, h3b, h3c, _, _⟩ := h3
        unfold tkOf at e3
        rw [← hg, ← hj] at hts e3
        rw [← hg] at t1 h3a h3b h3c
        rw [← hj] at h3b hsk hsl
        clear hc0 t2 hg hj
        obtain ⟨kd, tx, nn, st, cd⟩ := g
        dsimp only at hts e3 hk6 t1 h3a h3b h3c
        obtain ⟨x, hx⟩ : ∃ x, x = spell ⟨kd, tx, nn, (j : Int)⟩ := ⟨_, rfl⟩
        have hxe : s.extract j st = x := by rw [hx]; exact hts.2.symm
        have hxz : j + x.size = st := by rw [← hxe, ByteArray.size_extract]; omega
        have SP : Hid (∀ w1, Calls Tryd.prog 26 #[.agg #[.int .i64 kd, .string tx, .int .i64 nn, .int .i64 j]] w1 fun e w2 => e = .returned (.tuple #[.string x, .bool true]) ∧ Below w1.heap.size w1 w2) := hid_of (fun w1 => (qsp_any ⟨kd, tx, nn, (j : Int)⟩ (sm_ok hts.1) w1).mono fun e w2 h => by
          obtain ⟨y, q1, q2, q3⟩ := h
          have hq : okQ ⟨kd, tx, nn, (j : Int)⟩ = true := by
            unfold okQ
            rw [hts.1, decide_eq_false hk6]; rfl
          rw [hq] at q1 q2
          rw [q2 rfl, ← hx] at q1
          exact ⟨q1, q3⟩)
        have him2 : i < m := by have h1 := HN.out; have h2 := HM.out; omega
        have HL : Hid (∀ w1, Below wr.heap.size wr w1 → ∃ g2 o2, xo = some ⟨g2, o2, none⟩ ∧ w1.cell? ⟨g2, o2 + i * 4, none⟩ = some (.int .i64 kd) ∧ w1.cell? ⟨g2, o2 + i * 4 + 1, none⟩ = some (.string tx) ∧ w1.cell? ⟨g2, o2 + i * 4 + 2, none⟩ = some (.int .i64 nn) ∧ w1.cell? ⟨g2, o2 + i * 4 + 3, none⟩ = some (.int .i64 j)) := hid_of (fun w1 h => by
          have := (XR.out.at (step_b hb.out h)).get (i := i) (t := T4.q ⟨kd, tx, nn, j⟩) (by simp [qs4, e3]; rfl)
          exact this)
        obtain ⟨g2, o2, rfl, l0, l1, l2, l3⟩ := HL.out _ (Below.refl _ wr)
        have HST := hid_of t1
        have HXZ := hid_of hxz
        have HSS := hid_of h3c
        have hxe2 : s.extract j (j + x.size) = x := by rw [hxz]; exact hxe
        have d2 : decide (i < m) = true := decide_eq_true him2
        have d3 : decide (j < a) = false := decide_eq_false (by omega)
        have d4 : decide ((j : Int) > (s.size : Int) - (x.size : Int)) = false := decide_eq_false (by omega)
        have d5 : decide ((s.size : Int) - (x.size : Int) < (j : Int)) = false := decide_eq_false (by omega)
        have b0 : (0 : Int) ≤ (j : Int) := by omega
        have b1 : (j : Int) ≤ (j : Int) + (x.size : Int) := by omega
        have b2 : (j : Int) + (x.size : Int) ≤ (s.size : Int) := by omega
        have b3 : ((j : Int) + (x.size : Int)).toNat = j + x.size := by omega
        have b4 : (x.size : Int) ≤ 2000 := by omega
        have b5 : (j : Int) ≤ 2000 := by omega
        have i1 : (i : Int) ≤ 2000 := by omega
        have i2 : (i : Int) < (n : Int) := by omega
        have HIM := hid_of him2
        clear hts e3 hk6 t1 h3a h3b h3c hsk hsl hx hxe hxz hmore h0' he hst HN HR H0 HM him2
        go_wp2_with (go_at_call 26; ((with_reducible refine (SP.out _).mono ?_); (rintro e w3 ⟨rfl, h1⟩; have B3 := hid_of h1; obtain ⟨g3, o3, hgo, l0', l1', l2', l3'⟩ := HL.out _ h1; cases hgo; clear h1)))
        go_quiet (fail)
        go_wp2
        go_roundw
        case rel => exact ⟨i + 1, st, by have := HXZ.out; congr 1; omega, by go_num, HSS.out, by have := HIM.out; omega, HST, hid_of (bel_drewN (step_b hb.out B3.out) _)⟩
        case measure => have := HIM.out; simp [intOf]; omega
  · obtain ⟨p, hp⟩ : ∃ p, p = R.2.2 := ⟨_, rfl⟩
    have LX : Hid (∀ w1, Below w.heap.size w w1 → Calls Tryd.prog 21 #[.string s] w1 (L4 (R.1.map Tok.t4) 0 c p w1)) := hid_of (fun w1 h => (lex_any s w1 (by omega) (hG.at h)).mono fun e w' h2 => by have := l4_of R (fun h => (hok.2.1 h).1) (c := c) (q := (p : Int)) hc (by rw [if_neg h0, hp]) w1 e w' (by rw [hR]; exact h2); rwa [show R.1.length = 0 by rw [(hok.2.1 h0).1]; rfl] at this)
    have dc : (c != 0) = true := by rw [hc]; simpa using h0
    have hps := (hok.2.1 h0).2.2
    rw [← hp] at hps
    have d2 : decide ((p : Int) ≥ 0) = true := decide_eq_true (by omega)
    have d2' : decide ((0 : Int) ≤ (p : Int)) = true := decide_eq_true (by omega)
    have d3 : decide (p ≤ s.size) = true := decide_eq_true (by omega)
    clear hs hsz hG hc hR hok h0 hp hps
    go_enter Tryd.func10, Tryd.ntmps10
    go_wp2_with (first
      | (go_at_call 14; ((with_reducible refine (AW.out).mono ?_); (rintro e w1 ⟨rfl, h1⟩; have B1 := hid_of h1; clear h1)))
      | (go_at_call 21; ((with_reducible refine (LX.out _ B1.out).mono ?_); (rintro e w2 ⟨xo, xc, rfl, h1, h2⟩; have B2 := hid_of (step_al (step_b B1.out h1) (.cells #[.int .i64 c, .int .i64 p] 28)); clear h1 h2))))
    go_ret
    exact ⟨rfl, B2.out⟩
end Go.Proofs.YtdmjlmlmdllhgaaDoor
