/- The scanner: words. Bounds on sizes alone. -/
import Derived.Test.YtdmjlmlmdllhgaaDoorLexRes
namespace Go.Proofs.YtdmjlmlmdllhgaaDoor
open Go.RowKit

set_option maxRecDepth 100000 in
set_option maxHeartbeats 800000 in
theorem lword_any (b : Nat) (s : ByteArray) (j : Nat) (w : World) (hs : s.size ≤ 1000000) (hj : j ≤ s.size) (hb : 8 ≤ b) (hG : Glob w) (H : Pst w b s j) :
    Calls Tryd.prog 64 #[.pointer (some ⟨b, 0, none⟩)] w (TokP b s (wordF s j) w) := by
  obtain ⟨k, hk⟩ : ∃ k, k = we s j := ⟨_, rfl⟩
  have R1 := hid_of (lrun_any _ inw en_word linWord_any b s j (w.alloc zTok) hs hj (H.al zTok))
  have R2 : runF inw s j = k := hk.symm
  rw [R2] at R1
  clear R2
  have hjk : j ≤ k := by rw [hk]; exact run_ge _ _ _
  have hks : k ≤ s.size := by rw [hk]; exact run_le hj
  obtain ⟨t, ht⟩ : ∃ t, t = s.extract j k := ⟨_, rfl⟩
  have hsz : t.size = k - j := by rw [ht, ByteArray.size_extract]; omega
  rw [← ht] at R1
  obtain ⟨g, hg⟩ : ∃ g, g = wordF s j := ⟨_, rfl⟩
  rw [← hg]
  have HG : Hid (g = if 16 < k - j then bad 3 else if kw t = true then ⟨2, t, 0, k, 0⟩ else ⟨1, t, 0, k, 0⟩) := hid_of (by rw [hg, wordF, ← hk, ht])
  have HBW := hid_of H.lt
  have KWC : Hid (∀ w2, KB b (w.alloc zTok) w2 → Calls Tryd.prog 15 #[.string t] w2 fun e w3 => e = .returned (.bool (kw t)) ∧ w2 = w3) := hid_of (fun w2 h2 => (keyword_any t w2 ((hG.at (bel_alloc w zTok)).kept h2 hb)).mono fun _ _ h => ⟨h.1, h.2.symm⟩)
  have HN : Hid (b ≠ w.heap.size) := hid_of (by have := H.lt; omega)
  have HEND : Hid (∀ w1 cs, Pst w1 b s k → KB b (w.alloc zTok) w1 → Pst (w1.setRow w.heap.size cs) b s k ∧ KB b w (w1.setRow w.heap.size cs)) := hid_of (fun w1 cs h1 h2 => ⟨h1.row HN.out cs, kept_row (KB.al _ h2) (Nat.le_refl _) cs⟩)
  have HIT := hid_of infoTok
  have HROW : Hid (∀ w1, KB b (w.alloc zTok) w1 → w1.heap[w.heap.size]? = some (.cells #[.int .i64 0, .string ⟨#[]⟩, .int .i64 0, .int .i64 0] 25 (0, 0))) := hid_of (fun w1 h => row_kept h HBW.out)
  clear hk hj hg ht hG H hjk hks hs hb
  rw [show zTok = .cells #[.int .i64 0, .string ⟨#[]⟩, .int .i64 0, .int .i64 0] 25 from rfl] at R1 KWC HEND HROW
  by_cases h16 : 16 < k - j
  · have d1 : decide ((t.size : Int) > 16) = true := decide_eq_true (by omega)
    have GE : Hid (g = bad 3) := hid_of (by rw [HG.out, if_pos h16])
    clear hsz h16
    go_enter Tryd.func64, Tryd.ntmps64
    go_wp2_with (first
      | (go_at_call 59; ((with_reducible refine (R1.out).mono ?_); (rintro e w1 ⟨rfl, h1, h2⟩; have P1 := hid_of h1; have K1 := hid_of h2; have W1 := hid_of (HROW.out w1 h2); obtain ⟨c0, c1, c2, c3, f0, f1, f2, f3⟩ := row4 W1.out; clear h1 h2))))
    have hz := HEND.out w1 #[.int .i64 0, .string ⟨#[]⟩, .int .i64 0, .int .i64 0] P1.out K1.out
    rw [set4 W1.out]
    refine bodyPost_ret (res_ct (cs := #[.int .i64 0, .string ⟨#[]⟩, .int .i64 0, .int .i64 0]) rfl w.heap.size rfl (setRow_heap _ _ _ _ _ _ W1.out) Tryd.underlying25 rfl HIT.out) rfl ⟨by rw [GE.out] <;> rfl, fun h => ?_, hz.2⟩
    rw [GE.out] at h; cases h
  · have d1 : decide ((t.size : Int) > 16) = false := decide_eq_false (by omega)
    obtain ⟨q, hq⟩ : ∃ q, q = kw t := ⟨_, rfl⟩
    have HG2 : Hid (g = if q = true then ⟨2, t, 0, k, 0⟩ else ⟨1, t, 0, k, 0⟩) := hid_of (by rw [HG.out, if_neg h16, hq])
    rw [← hq] at KWC
    clear hsz h16 hq
    cases q
    · have GE : Hid (g = ⟨1, t, 0, k, 0⟩) := hid_of (by rw [HG2.out] <;> rfl)
      go_enter Tryd.func64, Tryd.ntmps64
      go_wp2_with (first
        | (go_at_call 59; ((with_reducible refine (R1.out).mono ?_); (rintro e w1 ⟨rfl, h1, h2⟩; have P1 := hid_of h1; have K1 := hid_of h2; have W1 := hid_of (HROW.out w1 h2); obtain ⟨c0, c1, c2, c3, f0, f1, f2, f3⟩ := row4 W1.out; have KW1 := hid_of (KWC.out w1 h2); clear h1 h2)))
        | (go_at_call 15; ((with_reducible refine (KW1.out).mono ?_); (rintro e w2 ⟨rfl, rfl⟩))))
      have hz := HEND.out w1 #[.int .i64 1, .string t, .int .i64 0, .int .i64 0] P1.out K1.out
      rw [set4 W1.out]
      refine bodyPost_ret (res_ct (cs := #[.int .i64 1, .string t, .int .i64 0, .int .i64 0]) rfl w.heap.size rfl (setRow_heap _ _ _ _ _ _ W1.out) Tryd.underlying25 rfl HIT.out) rfl ⟨by rw [GE.out] <;> rfl, fun h => ?_, hz.2⟩
      rw [GE.out]; exact hz.1
    · have GE : Hid (g = ⟨2, t, 0, k, 0⟩) := hid_of (by rw [HG2.out] <;> rfl)
      go_enter Tryd.func64, Tryd.ntmps64
      go_wp2_with (first
        | (go_at_call 59; ((with_reducible refine (R1.out).mono ?_); (rintro e w1 ⟨rfl, h1, h2⟩; have P1 := hid_of h1; have K1 := hid_of h2; have W1 := hid_of (HROW.out w1 h2); obtain ⟨c0, c1, c2, c3, f0, f1, f2, f3⟩ := row4 W1.out; have KW1 := hid_of (KWC.out w1 h2); clear h1 h2)))
        | (go_at_call 15; ((with_reducible refine (KW1.out).mono ?_); (rintro e w2 ⟨rfl, rfl⟩))))
      have hz := HEND.out w1 #[.int .i64 2, .string t, .int .i64 0, .int .i64 0] P1.out K1.out
      rw [set4 W1.out]
      refine bodyPost_ret (res_ct (cs := #[.int .i64 2, .string t, .int .i64 0, .int .i64 0]) rfl w.heap.size rfl (setRow_heap _ _ _ _ _ _ W1.out) Tryd.underlying25 rfl HIT.out) rfl ⟨by rw [GE.out] <;> rfl, fun h => ?_, hz.2⟩
      rw [GE.out]; exact hz.1
end Go.Proofs.YtdmjlmlmdllhgaaDoor
