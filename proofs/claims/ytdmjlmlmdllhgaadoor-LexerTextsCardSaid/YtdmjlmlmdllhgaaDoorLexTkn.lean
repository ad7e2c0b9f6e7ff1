/- The scanner: the token at a place. Bounds on sizes alone. -/
import Derived.Test.YtdmjlmlmdllhgaaDoorLexSgn
namespace Go.Proofs.YtdmjlmlmdllhgaaDoor
open Go.RowKit

/-- The token at a place, or the end. -/
def tknF (s : ByteArray) (j : Nat) : Got := if j = s.size then ⟨6, ⟨#[]⟩, 0, s.size, 0⟩ else tokF s j
theorem tkn_next (s : ByteArray) (i : Nat) : tknF s (sk s i) = nextF s i := rfl
/-- What the four readers of tokens say, with the token's parts named. -/
def TokN (b : Nat) (s : ByteArray) (kd : Int) (tx : ByteArray) (nn : Int) (st : Nat) (cd : Int) (w0 : World) (e : Ending) (w' : World) : Prop := e = .returned (.tuple #[.agg #[.int .i64 kd, .string tx, .int .i64 nn, .int .i64 0], .int .i64 cd]) ∧ (cd = 0 → Pst w' b s st) ∧ KB b w0 w'
theorem tokN_of {b : Nat} {s : ByteArray} {g : Got} {w0 w e w'} (h0 : KB b w0 w) (h : TokP b s g w e w') : TokN b s g.kind g.text g.n g.stop g.code w0 e w' := ⟨h.1, h.2.1, h0.trans h.2.2⟩

set_option maxRecDepth 100000 in
set_option maxHeartbeats 1600000 in
theorem ltoken_any (b : Nat) (s : ByteArray) (j : Nat) (w : World) (hs : s.size ≤ 1000000) (hj : j ≤ s.size) (hb : 8 ≤ b) (hG : Glob w) (H : Pst w b s j) :
    Calls Tryd.prog 43 #[.pointer (some ⟨b, 0, none⟩)] w (TokP b s (tknF s j) w) := by
  have HBW := hid_of H.lt
  have HN : Hid (b ≠ w.heap.size) := hid_of (by have := H.lt; omega)
  have HEND : Hid (∀ w1 cs i (c : Int), (c = 0 → Pst w1 b s i) → KB b (w.alloc zTok) w1 → (c = 0 → Pst (w1.setRow w.heap.size cs) b s i) ∧ KB b w (w1.setRow w.heap.size cs)) := hid_of (fun w1 cs i c h1 h2 => ⟨fun h => (h1 h).row HN.out cs, kept_row (KB.al _ h2) (Nat.le_refl _) cs⟩)
  have HIT := hid_of infoTok
  have HROW : Hid (∀ w1, KB b (w.alloc zTok) w1 → w1.heap[w.heap.size]? = some (.cells #[.int .i64 0, .string ⟨#[]⟩, .int .i64 0, .int .i64 0] 25 (0, 0))) := hid_of (fun w1 h => row_kept h HBW.out)
  have HGL : Hid (∀ w1, KB b (w.alloc zTok) w1 → Glob w1) := hid_of (fun w1 h => (hG.at (bel_alloc w zTok)).kept h hb)
  have c0 := (H.al zTok).src
  have c1 := (H.al zTok).pos
  have P0 := hid_of (H.al zTok)
  have HS := hid_of hs
  have HB := hid_of hb
  have b1 : (j : Int) ≤ (s.size : Int) := by omega
  have b2 : (s.size : Int) ≤ 1000000 := by omega
  have b3 : (0 : Int) ≤ (j : Int) := by omega
  by_cases he : j = s.size
  · have GE : Hid (tknF s j = ⟨6, ⟨#[]⟩, 0, s.size, 0⟩) := hid_of (if_pos he)
    have PE : Hid (∀ w1, Pst w1 b s j → Pst w1 b s s.size) := hid_of (fun w1 h => by rw [← he]; exact h)
    have d0 : ((j : Int) == (s.size : Int)) = true := by rw [he]; simp
    have dm : decide (j = s.size) = true := decide_eq_true he
    clear H hG hb hs hj he
    rw [show zTok = .cells #[.int .i64 0, .string ⟨#[]⟩, .int .i64 0, .int .i64 0] 25 from rfl] at HEND HROW HGL c0 c1 P0
    go_enter Tryd.func43, Tryd.ntmps43
    go_wp2
    go_quiet (fail)
    have K2 : Hid (KB b (w.alloc (.cells #[.int .i64 0, .string ⟨#[]⟩, .int .i64 0, .int .i64 0] 25)) ((w.alloc (.cells #[.int .i64 0, .string ⟨#[]⟩, .int .i64 0, .int .i64 0] 25)).drewN nq)) := hid_of ((Kept.refl _ _).drewN _)
    have W2 := hid_of (HROW.out _ K2.out)
    have P2 := hid_of (PE.out _ (P0.out.drewN nq))
    clear c0 c1
    obtain ⟨c0, c1, c2, c3, f0, f1, f2, f3⟩ := row4 W2.out
    go_wp2
    have hz := HEND.out _ #[.int .i64 6, .string ⟨#[]⟩, .int .i64 0, .int .i64 0] _ 0 (fun _ => P2.out) K2.out
    rw [set4 W2.out]
    refine bodyPost_ret (res_ct (cs := #[.int .i64 6, .string ⟨#[]⟩, .int .i64 0, .int .i64 0]) rfl w.heap.size rfl (setRow_heap _ _ _ _ _ _ W2.out) Tryd.underlying25 rfl HIT.out) rfl ⟨by rw [GE.out] <;> rfl, fun h => ?_, hz.2⟩
    rw [GE.out]; exact hz.1 rfl
  · have hlt : j < s.size := by omega
    have d0 : ((j : Int) == (s.size : Int)) = false := by simp; omega
    have dm : decide (j = s.size) = false := decide_eq_false he
    have bl : (j : Int) < (s.size : Int) := by omega
    obtain ⟨x, hx⟩ : ∃ x : Int, x = ((s[j]).toNat : Int) := ⟨_, rfl⟩
    have hxs : ((s[j]).toNat : Int) = x := hx.symm
    have HX : gt s j = x := by rw [gt_lt hlt, hx]
    have GT : tknF s j = if isl x = true then wordF s j else if dig x = true then intF s j else if x = 39 then quoF s j else sigF s j := by rw [tknF, if_neg he, tokF, HX]
    have HWD : Hid (∀ w1, KB b (w.alloc zTok) w1 → Pst w1 b s j → Calls Tryd.prog 64 #[.pointer (some ⟨b, 0, none⟩)] w1 (TokP b s (wordF s j) w1)) := hid_of (fun w1 h1 h2 => lword_any b s j w1 hs hj hb (HGL.out w1 h1) h2)
    have HIN : Hid (dig x = true → ∀ w1, KB b (w.alloc zTok) w1 → Pst w1 b s j → Calls Tryd.prog 66 #[.pointer (some ⟨b, 0, none⟩)] w1 (TokP b s (intF s j) w1)) := hid_of (fun h w1 h1 h2 => linteger_any b s j w1 hs hlt (by rw [HX]; exact h) hb (HGL.out w1 h1) h2)
    have HQU : Hid (∀ w1, KB b (w.alloc zTok) w1 → Pst w1 b s j → Calls Tryd.prog 67 #[.pointer (some ⟨b, 0, none⟩)] w1 (TokP b s (quoF s j) w1)) := hid_of (fun w1 h1 h2 => lquoted_any b s j w1 hs hlt hb h2)
    have HSI : Hid (∀ w1, KB b (w.alloc zTok) w1 → Pst w1 b s j → Calls Tryd.prog 68 #[.pointer (some ⟨b, 0, none⟩)] w1 (TokP b s (sigF s j) w1)) := hid_of (fun w1 h1 h2 => lsign_any b s j w1 hs hlt hb (HGL.out w1 h1) h2)
    obtain ⟨q1, h1⟩ : ∃ q, q = isl x := ⟨_, rfl⟩
    obtain ⟨q2, h2⟩ : ∃ q, q = dig x := ⟨_, rfl⟩
    have L1 : Hid (∀ w1, Calls Tryd.prog 63 #[.int .u8 x] w1 fun e w2 => e = .returned (.bool q1) ∧ w1 = w2) := hid_of (fun w1 => by rw [h1]; exact (lisLetter_any x w1).mono fun _ _ h => ⟨h.1, h.2.symm⟩)
    have L2 : Hid (∀ w1, Calls Tryd.prog 65 #[.int .u8 x] w1 fun e w2 => e = .returned (.bool q2) ∧ w1 = w2) := hid_of (fun w1 => by rw [h2]; exact (lisDigit_any x w1).mono fun _ _ h => ⟨h.1, h.2.symm⟩)
    rw [← h1, ← h2] at GT
    rw [← h2] at HIN
    have GT := hid_of GT
    have HKD : Hid (∀ n, KB b (w.alloc zTok) ((w.alloc zTok).drewN n)) := hid_of (fun n => (Kept.refl _ _).drewN n)
    clear H hG hb hs hj he hx HX h1 h2
    rw [show zTok = .cells #[.int .i64 0, .string ⟨#[]⟩, .int .i64 0, .int .i64 0] 25 from rfl] at HEND HROW HGL c0 c1 P0 HWD HIN HQU HSI HKD
    cases q1
    · cases q2
      · by_cases h39 : x = 39
        · have d3 : (x == 39) = true := by rw [h39]; rfl
          obtain ⟨g, hg⟩ : ∃ g, g = quoF s j := ⟨_, rfl⟩
          have GE : Hid (tknF s j = g) := hid_of (by rw [hg, GT.out]; simp [h39])
          obtain ⟨kd, tx, nn, st, cd⟩ := g
          have FN : Hid (∀ n, Calls Tryd.prog 67 #[.pointer (some ⟨b, 0, none⟩)] ((w.alloc (.cells #[.int .i64 0, .string ⟨#[]⟩, .int .i64 0, .int .i64 0] 25)).drewN n) (TokN b s kd tx nn st cd (w.alloc (.cells #[.int .i64 0, .string ⟨#[]⟩, .int .i64 0, .int .i64 0] 25)))) := hid_of (fun n => (HQU.out _ (HKD.out n) (P0.out.drewN n)).mono fun e w2 h => by rw [← hg] at h; exact tokN_of (HKD.out n) h)
          clear hg h39
          go_enter Tryd.func43, Tryd.ntmps43
          go_wp2
          go_quiet (fail)
          go_wp2
          go_quiet (fail)
          clear c0 c1
          go_wp2_with (first
            | (go_at_call 63; ((with_reducible refine (L1.out _).mono ?_); (rintro e w' ⟨rfl, rfl⟩)))
            | (go_at_call 65; ((with_reducible refine (L2.out _).mono ?_); (rintro e w' ⟨rfl, rfl⟩)))
            | (go_at_call 67; ((with_reducible refine (FN.out _).mono ?_); (rintro e w2 ⟨rfl, h1, h2⟩; have P2 := hid_of h1; have K2 := hid_of h2; have W2 := hid_of (HROW.out w2 h2); obtain ⟨c0, c1, c2, c3, f0, f1, f2, f3⟩ := row4 W2.out; clear h1 h2))))
          have hz := HEND.out w2 #[.int .i64 kd, .string tx, .int .i64 nn, .int .i64 0] st cd P2.out K2.out
          rw [set4 W2.out]
          refine bodyPost_ret (res_ct (cs := #[.int .i64 kd, .string tx, .int .i64 nn, .int .i64 0]) rfl w.heap.size rfl (setRow_heap _ _ _ _ _ _ W2.out) Tryd.underlying25 rfl HIT.out) rfl ⟨by rw [GE.out] <;> rfl, fun h => ?_, hz.2⟩
          rw [GE.out] at h ⊢; exact hz.1 h
        · have d3 : (x == 39) = false := by simpa using h39
          obtain ⟨g, hg⟩ : ∃ g, g = sigF s j := ⟨_, rfl⟩
          have GE : Hid (tknF s j = g) := hid_of (by rw [hg, GT.out]; simp [h39])
          obtain ⟨kd, tx, nn, st, cd⟩ := g
          have FN : Hid (∀ n, Calls Tryd.prog 68 #[.pointer (some ⟨b, 0, none⟩)] ((w.alloc (.cells #[.int .i64 0, .string ⟨#[]⟩, .int .i64 0, .int .i64 0] 25)).drewN n) (TokN b s kd tx nn st cd (w.alloc (.cells #[.int .i64 0, .string ⟨#[]⟩, .int .i64 0, .int .i64 0] 25)))) := hid_of (fun n => (HSI.out _ (HKD.out n) (P0.out.drewN n)).mono fun e w2 h => by rw [← hg] at h; exact tokN_of (HKD.out n) h)
          clear hg h39
          go_enter Tryd.func43, Tryd.ntmps43
          go_wp2
          go_quiet (fail)
          go_wp2
          go_quiet (fail)
          clear c0 c1
          go_wp2_with (first
            | (go_at_call 63; ((with_reducible refine (L1.out _).mono ?_); (rintro e w' ⟨rfl, rfl⟩)))
            | (go_at_call 65; ((with_reducible refine (L2.out _).mono ?_); (rintro e w' ⟨rfl, rfl⟩)))
            | (go_at_call 68; ((with_reducible refine (FN.out _).mono ?_); (rintro e w2 ⟨rfl, h1, h2⟩; have P2 := hid_of h1; have K2 := hid_of h2; have W2 := hid_of (HROW.out w2 h2); obtain ⟨c0, c1, c2, c3, f0, f1, f2, f3⟩ := row4 W2.out; clear h1 h2))))
          have hz := HEND.out w2 #[.int .i64 kd, .string tx, .int .i64 nn, .int .i64 0] st cd P2.out K2.out
          rw [set4 W2.out]
          refine bodyPost_ret (res_ct (cs := #[.int .i64 kd, .string tx, .int .i64 nn, .int .i64 0]) rfl w.heap.size rfl (setRow_heap _ _ _ _ _ _ W2.out) Tryd.underlying25 rfl HIT.out) rfl ⟨by rw [GE.out] <;> rfl, fun h => ?_, hz.2⟩
          rw [GE.out] at h ⊢; exact hz.1 h
      · skip
        obtain ⟨g, hg⟩ : ∃ g, g = intF s j := ⟨_, rfl⟩
        have GE : Hid (tknF s j = g) := hid_of (by rw [hg, GT.out]; simp)
        obtain ⟨kd, tx, nn, st, cd⟩ := g
        have FN : Hid (∀ n, Calls Tryd.prog 66 #[.pointer (some ⟨b, 0, none⟩)] ((w.alloc (.cells #[.int .i64 0, .string ⟨#[]⟩, .int .i64 0, .int .i64 0] 25)).drewN n) (TokN b s kd tx nn st cd (w.alloc (.cells #[.int .i64 0, .string ⟨#[]⟩, .int .i64 0, .int .i64 0] 25)))) := hid_of (fun n => (HIN.out rfl _ (HKD.out n) (P0.out.drewN n)).mono fun e w2 h => by rw [← hg] at h; exact tokN_of (HKD.out n) h)
        clear hg
        go_enter Tryd.func43, Tryd.ntmps43
        go_wp2
        go_quiet (fail)
        go_wp2
        go_quiet (fail)
        clear c0 c1
        go_wp2_with (first
          | (go_at_call 63; ((with_reducible refine (L1.out _).mono ?_); (rintro e w' ⟨rfl, rfl⟩)))
          | (go_at_call 65; ((with_reducible refine (L2.out _).mono ?_); (rintro e w' ⟨rfl, rfl⟩)))
          | (go_at_call 66; ((with_reducible refine (FN.out _).mono ?_); (rintro e w2 ⟨rfl, h1, h2⟩; have P2 := hid_of h1; have K2 := hid_of h2; have W2 := hid_of (HROW.out w2 h2); obtain ⟨c0, c1, c2, c3, f0, f1, f2, f3⟩ := row4 W2.out; clear h1 h2))))
        have hz := HEND.out w2 #[.int .i64 kd, .string tx, .int .i64 nn, .int .i64 0] st cd P2.out K2.out
        rw [set4 W2.out]
        refine bodyPost_ret (res_ct (cs := #[.int .i64 kd, .string tx, .int .i64 nn, .int .i64 0]) rfl w.heap.size rfl (setRow_heap _ _ _ _ _ _ W2.out) Tryd.underlying25 rfl HIT.out) rfl ⟨by rw [GE.out] <;> rfl, fun h => ?_, hz.2⟩
        rw [GE.out] at h ⊢; exact hz.1 h
    · skip
      obtain ⟨g, hg⟩ : ∃ g, g = wordF s j := ⟨_, rfl⟩
      have GE : Hid (tknF s j = g) := hid_of (by rw [hg, GT.out]; simp)
      obtain ⟨kd, tx, nn, st, cd⟩ := g
      have FN : Hid (∀ n, Calls Tryd.prog 64 #[.pointer (some ⟨b, 0, none⟩)] ((w.alloc (.cells #[.int .i64 0, .string ⟨#[]⟩, .int .i64 0, .int .i64 0] 25)).drewN n) (TokN b s kd tx nn st cd (w.alloc (.cells #[.int .i64 0, .string ⟨#[]⟩, .int .i64 0, .int .i64 0] 25)))) := hid_of (fun n => (HWD.out _ (HKD.out n) (P0.out.drewN n)).mono fun e w2 h => by rw [← hg] at h; exact tokN_of (HKD.out n) h)
      clear hg
      go_enter Tryd.func43, Tryd.ntmps43
      go_wp2
      go_quiet (fail)
      go_wp2
      go_quiet (fail)
      clear c0 c1
      go_wp2_with (first
        | (go_at_call 63; ((with_reducible refine (L1.out _).mono ?_); (rintro e w' ⟨rfl, rfl⟩)))
        | (go_at_call 65; ((with_reducible refine (L2.out _).mono ?_); (rintro e w' ⟨rfl, rfl⟩)))
        | (go_at_call 64; ((with_reducible refine (FN.out _).mono ?_); (rintro e w2 ⟨rfl, h1, h2⟩; have P2 := hid_of h1; have K2 := hid_of h2; have W2 := hid_of (HROW.out w2 h2); obtain ⟨c0, c1, c2, c3, f0, f1, f2, f3⟩ := row4 W2.out; clear h1 h2))))
      have hz := HEND.out w2 #[.int .i64 kd, .string tx, .int .i64 nn, .int .i64 0] st cd P2.out K2.out
      rw [set4 W2.out]
      refine bodyPost_ret (res_ct (cs := #[.int .i64 kd, .string tx, .int .i64 nn, .int .i64 0]) rfl w.heap.size rfl (setRow_heap _ _ _ _ _ _ W2.out) Tryd.underlying25 rfl HIT.out) rfl ⟨by rw [GE.out] <;> rfl, fun h => ?_, hz.2⟩
      rw [GE.out] at h ⊢; exact hz.1 h
end Go.Proofs.YtdmjlmlmdllhgaaDoor
