/- The law on faults. Bounds on sizes alone. -/
import Derived.Test.YtdmjlmlmdllhgaaDoorLexLw2
import Derived.Test.YtdmjlmlmdllhgaaDoorLexAgr
namespace Go.Proofs.YtdmjlmlmdllhgaaDoor
open Go.RowKit

set_option maxRecDepth 100000 in
set_option maxHeartbeats 3200000 in
theorem faults_law (s : ByteArray) (w : World) (hG : Glob w) : Calls Tryd.prog 11 #[.string s] w fun e w' => e = .returned (.bool true) ∧ Below w.heap.size w w' := by
  have AW := hid_of (awake_any w hG)
  by_cases hs : 2000 < s.size
  · have d1 : decide ((s.size : Int) > 2000) = true := decide_eq_true (by omega)
    clear hs
    go_enter Tryd.func11, Tryd.ntmps11
    go_wp2_with (go_at_call 14; ((with_reducible refine (AW.out).mono ?_); (rintro e w1 ⟨rfl, h1⟩; have B1 := hid_of h1; clear h1)))
    go_ret
    exact ⟨rfl, B1.out⟩
  · have d1 : decide ((s.size : Int) > 2000) = false := decide_eq_false (by omega)
    have hsz : s.size ≤ 2000 := by omega
    obtain ⟨R, hR⟩ : ∃ R, R = Lx s 0 := ⟨_, rfl⟩
    have hok := lx_ok s _ 0 rfl (Nat.zero_le _)
    rw [← hR] at hok
    obtain ⟨c, hc⟩ : ∃ c, c = R.2.1 := ⟨_, rfl⟩
    have hss : (s.size : Int) ≤ 2000 := by omega
    by_cases h0 : R.2.1 = 0
    · have LX : Hid (∀ w1, Below w.heap.size w w1 → Calls Tryd.prog 21 #[.string s] w1 (L4 (R.1.map Tok.t4) R.1.length 0 0 w1)) := hid_of (fun w1 h => (lex_any s w1 (by omega) (hG.at h)).mono fun e w' h2 => l4_of R (fun h => (hok.2.1 h).1) h0.symm (if_pos h0).symm w1 e w' (by rw [hR]; exact h2))
      obtain ⟨n, hn⟩ : ∃ n, n = R.1.length := ⟨_, rfl⟩
      rw [← hn] at LX
      clear hs hsz hG hn hc hR hok h0
      go_enter Tryd.func11, Tryd.ntmps11
      go_wp2_with (first
        | (go_at_call 14; ((with_reducible refine (AW.out).mono ?_); (rintro e w1 ⟨rfl, h1⟩; have B1 := hid_of h1; clear h1)))
        | (go_at_call 21; ((with_reducible refine (LX.out _ B1.out).mono ?_); (rintro e w2 ⟨xo, xc, rfl, h1, h2⟩; have B2 := hid_of (step_al (step_b B1.out h1) (.cells #[.int .i64 0, .int .i64 0] 28)); clear h1 h2))))
      go_ret
      exact ⟨rfl, B2.out⟩
    · obtain ⟨p, hp⟩ : ∃ p, p = R.2.2 := ⟨_, rfl⟩
      have hps : p < s.size := by rw [hp]; exact (hok.2.1 h0).2.2
      have LX : Hid (∀ w1, Below w.heap.size w w1 → Calls Tryd.prog 21 #[.string s] w1 (L4 (R.1.map Tok.t4) R.1.length c p w1)) := hid_of (fun w1 h => (lex_any s w1 (by omega) (hG.at h)).mono fun e w' h2 => l4_of R (fun h => (hok.2.1 h).1) hc (by rw [if_neg h0, hp]) w1 e w' (by rw [hR]; exact h2))
      obtain ⟨n, hn⟩ : ∃ n, n = R.1.length := ⟨_, rfl⟩
      rw [← hn] at LX
      obtain ⟨t, ht⟩ : ∃ t, t = s.extract 0 p := ⟨_, rfl⟩
      have hts : t.size ≤ 2000 := by rw [ht, ByteArray.size_extract]; omega
      obtain ⟨l, hl⟩ := lx_prefix (Nat.le_of_lt hps) _ 0 rfl (Nat.zero_le _) (by rw [← hR]; exact h0) (by rw [← hR, hp])
      rw [← ht] at hl
      have hlen : l.length ≤ 2001 := by
        have := ((lx_ok t _ 0 rfl (Nat.zero_le _)).2.2 (by rw [hl])).2
        rw [hl] at this
        simp at this
        omega
      obtain ⟨m, hm⟩ : ∃ m, m = l.length := ⟨_, rfl⟩
      obtain ⟨k, hk⟩ : ∃ k, k = m + 1 := ⟨_, rfl⟩
      have LY : Hid (∀ w1, Below w.heap.size w w1 → Calls Tryd.prog 21 #[.string t] w1 (L4 ((l ++ [(⟨6, ⟨#[]⟩, 0, p⟩ : Tok)]).map Tok.t4) k 0 0 w1)) := hid_of (fun w1 h => (lex_any t w1 (by omega) (hG.at h)).mono fun e w' h2 => by
        unfold LexP at h2
        rw [hl] at h2
        have h3 := l4_of _ (fun h => absurd rfl h) rfl rfl w1 e w' h2
        rw [show k = (l ++ [(⟨6, ⟨#[]⟩, 0, p⟩ : Tok)]).length by rw [List.length_append, hk, hm]; rfl]
        exact h3)
      have HQ : Hid (∀ yo yc w1, QRd w1 (.slice yo k yc) (qs4 ((l ++ [(⟨6, ⟨#[]⟩, 0, p⟩ : Tok)]).map Tok.t4)) → ∃ g o, yo = some ⟨g, o, none⟩ ∧ w1.cell? ⟨g, o + m * 4 + 3, none⟩ = some (.int .i64 p)) := hid_of (fun yo yc w1 h => by
        obtain ⟨g, o, r1, _, _, _, r2⟩ := h.get (i := m) (t := T4.q ⟨6, ⟨#[]⟩, 0, p⟩) (by simp [qs4, hm]; rfl)
        exact ⟨g, o, r1, r2⟩)
      have HT := hid_of ht
      have b1 : (p : Int) ≤ (s.size : Int) := by omega
      have b0 : (0 : Int) ≤ (p : Int) := by omega
      have b2 : (0 : Int) < (k : Int) := by omega
      have d2 : decide ((p : Int) < 0) = false := decide_eq_false (by omega)
      have d3 : decide (s.size ≤ p) = false := decide_eq_false (by omega)
      have d4 : decide (0 < k) = true := decide_eq_true (by omega)
      have dc : (c == 0) = false := by rw [hc]; simpa using h0
      have a6 : IntKind.i64.wrap ((k : Int) - 1) = (m : Int) := by rw [IntWalk.i64_in _ (by omega)]; omega
      have a7 : (m : Int) < (k : Int) := by omega
      have a8 : (0 : Int) ≤ (m : Int) := by omega
      clear hs hsz hG hn hc hR hok h0 hp hps ht hts hl hlen hm hk
      go_enter Tryd.func11, Tryd.ntmps11
      go_wp2_with fail
      go_wp2_with (first
        | (go_at_call 14; ((with_reducible refine (AW.out).mono ?_); (rintro e w1 ⟨rfl, h1⟩; have B1 := hid_of h1; clear h1)))
        | (go_at_call 21; ((with_reducible refine (LX.out _ B1.out).mono ?_); (rintro e w2 ⟨xo, xc, rfl, h1, h2⟩; have B2 := hid_of (step_al (step_b B1.out h1) (.cells #[.int .i64 c, .int .i64 p] 28)); clear h1 h2 LX))))
      rw [← HT.out]
      go_wp2_with ((go_at_call 21; ((with_reducible refine (LY.out _ B2.out).mono ?_); (rintro e w3 ⟨yo, yc, rfl, h1, h2⟩; have B3 := hid_of (step_al (step_b B2.out h1) (.cells #[.int .i64 0, .int .i64 0] 28)); obtain ⟨u0, u1⟩ := LX2 h1 (.cells #[.int .i64 0, .int .i64 0] 28); obtain ⟨g, o, rfl, y1⟩ := HQ.out yo yc _ (h2.at (bel_alloc w3 (.cells #[.int .i64 0, .int .i64 0] 28))); clear h1 h2))))
      go_quiet (fail)
      go_wp2
      go_ret
      exact ⟨rfl, bel_drewN B3.out _⟩
end Go.Proofs.YtdmjlmlmdllhgaaDoor
