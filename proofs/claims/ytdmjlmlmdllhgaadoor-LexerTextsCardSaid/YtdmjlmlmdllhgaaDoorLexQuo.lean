/- The scanner: quoted names. Bounds on sizes alone. -/
import Derived.Test.YtdmjlmlmdllhgaaDoorLexInt
namespace Go.Proofs.YtdmjlmlmdllhgaaDoor
open Go.RowKit

theorem hmax {n : Nat} (h : n ≤ 1000000) : n ≤ maxLen := by unfold maxLen; omega
set_option maxRecDepth 100000 in
set_option maxHeartbeats 1600000 in
theorem lquoted_any (b : Nat) (s : ByteArray) (j : Nat) (w : World) (hs : s.size ≤ 1000000) (hj : j < s.size) (_ : 8 ≤ b) (H : Pst w b s j) :
    Calls Tryd.prog 67 #[.pointer (some ⟨b, 0, none⟩)] w (TokP b s (quoF s j) w) := by
  obtain ⟨k, hk⟩ : ∃ k, k = we s (j + 1) := ⟨_, rfl⟩
  have R1 := hid_of (lrun_any _ inw en_word linWord_any b s (j + 1) ((w.alloc zTok).setCell ⟨b, 1, none⟩ (.int .i64 ((j + 1 : Nat) : Int))) hs (by omega) ((H.al zTok).set (j + 1)))
  have R2 : runF inw s (j + 1) = k := hk.symm
  rw [R2] at R1
  clear R2
  have hjk : j + 1 ≤ k := by rw [hk]; exact run_ge _ _ _
  have hks : k ≤ s.size := by rw [hk]; exact run_le (by omega)
  obtain ⟨t, ht⟩ : ∃ t, t = s.extract (j + 1) k := ⟨_, rfl⟩
  have hsz : t.size ≤ 1000000 := by rw [ht, ByteArray.size_extract]; omega
  rw [← ht] at R1
  obtain ⟨g, hg⟩ : ∃ g, g = quoF s j := ⟨_, rfl⟩
  rw [← hg]
  have HG : Hid (g = if gt s k ≠ 39 then bad 2 else if isName (strBytes t) = false then bad 3 else ⟨4, t, 0, k + 1, 0⟩) := hid_of (by rw [hg, quoF, ← hk, ht])
  have HBW := hid_of H.lt
  have HN : Hid (b ≠ w.heap.size) := hid_of (by have := H.lt; omega)
  have HEND : Hid (∀ w1 cs i, Pst w1 b s i → KB b (w.alloc zTok) w1 → Pst (w1.setRow w.heap.size cs) b s i ∧ KB b w (w1.setRow w.heap.size cs)) := hid_of (fun w1 cs i h1 h2 => ⟨h1.row HN.out cs, kept_row (KB.al _ h2) (Nat.le_refl _) cs⟩)
  have HIT := hid_of infoTok
  have HROW : Hid (∀ w1, KB b (w.alloc zTok) w1 → w1.heap[w.heap.size]? = some (.cells #[.int .i64 0, .string ⟨#[]⟩, .int .i64 0, .int .i64 0] 25 (0, 0))) := hid_of (fun w1 h => row_kept h HBW.out)
  have HK0 : Hid (KB b (w.alloc zTok) ((w.alloc zTok).setCell ⟨b, 1, none⟩ (.int .i64 ((j + 1 : Nat) : Int)))) := hid_of (Kept.set _ _ _ _)
  have c1z := (H.al zTok).pos
  have f1z := (H.al zTok).free
  obtain ⟨q, hq⟩ : ∃ q, q = decide (gt s k = 39) := ⟨_, rfl⟩
  have HSEE : Hid (∀ w1, Pst w1 b s k → Calls Tryd.prog 61 #[.pointer (some ⟨b, 0, none⟩), .int .u8 39] w1 fun e w2 => e = .returned (.bool q) ∧ Pst w2 b s k ∧ KB b w1 w2) := hid_of (fun w1 h1 => by rw [hq]; exact lsees_any b s k 39 w1 hs hks (by decide) h1)
  obtain ⟨v, hv⟩ : ∃ v, v = isName (strBytes t) := ⟨_, rfl⟩
  have HVAL : Hid (∀ w1, Pst w1 b s (k + 1) → KB b (w.alloc zTok) w1 → Calls Tryd.prog 50 #[.string t] w1 fun e w2 => e = .returned (.bool v) ∧ Pst w2 b s (k + 1) ∧ KB b (w.alloc zTok) w2) := hid_of (fun w1 h1 h2 => by
    rw [hv]
    exact (valid_any t w1 (hmax hsz)).mono fun e w2 ⟨h3, h4⟩ => by subst h4; exact ⟨h3, h1, h2⟩)
  have HSET : Hid (∀ w1, Pst w1 b s k → Pst (w1.setCell ⟨b, 1, none⟩ (.int .i64 ((k : Int) + 1))) b s (k + 1)) := hid_of (fun w1 h1 => h1.set (k + 1))
  have HKST : Hid (∀ w1, KB b (w.alloc zTok) w1 → KB b (w.alloc zTok) (w1.setCell ⟨b, 1, none⟩ (.int .i64 ((k : Int) + 1)))) := hid_of (fun w1 h1 => h1.trans (Kept.set _ _ _ _))
  rw [← hv] at HG
  have b1 : (k : Int) ≤ 1000000 := by omega
  have b2 : (j : Int) ≤ 1000000 := by omega
  have GQ : Hid (q = false → g = bad 2) := hid_of (fun h => by rw [h] at hq; rw [HG.out, if_pos (of_decide_eq_false hq.symm)])
  have GV : Hid (q = true → v = false → g = bad 3) := hid_of (fun h h2 => by rw [h] at hq; rw [HG.out, if_neg (by have := of_decide_eq_true hq.symm; simpa using this), if_pos h2])
  have GO : Hid (q = true → v = true → g = ⟨4, t, 0, k + 1, 0⟩) := hid_of (fun h h2 => by rw [h] at hq; rw [HG.out, if_neg (by have := of_decide_eq_true hq.symm; simpa using this), if_neg (by rw [h2]; decide)])
  clear hk hg ht H hjk hks hs hsz hj hq hv
  rw [show ((j + 1 : Nat) : Int) = (j : Int) + 1 by omega] at R1 HK0
  rw [show zTok = .cells #[.int .i64 0, .string ⟨#[]⟩, .int .i64 0, .int .i64 0] 25 from rfl] at R1 HEND HROW HVAL HKST HK0 c1z f1z
  cases q
  · have GE : Hid (g = bad 2) := hid_of (GQ.out rfl)
    clear GQ GV GO
    go_enter Tryd.func67, Tryd.ntmps67
    go_wp2_with (first
      | (go_at_call 59; ((with_reducible refine (R1.out).mono ?_); (rintro e w1 ⟨rfl, h1, h2⟩; have K1 := hid_of (HK0.out.trans h2); have S1 := hid_of (HSEE.out w1 h1); clear h1 h2)))
      | (go_at_call 61; ((with_reducible refine (S1.out).mono ?_); (rintro e w2 ⟨rfl, h1, h2⟩; have P2 := hid_of h1; have K2 := hid_of (K1.out.trans h2); have W2 := hid_of (HROW.out w2 K2.out); obtain ⟨c0, c1, c2, c3, f0, f1, f2, f3⟩ := row4 W2.out; clear h1 h2))))
    have hz := HEND.out w2 #[.int .i64 0, .string ⟨#[]⟩, .int .i64 0, .int .i64 0] k P2.out K2.out
    rw [set4 W2.out]
    refine bodyPost_ret (res_ct (cs := #[.int .i64 0, .string ⟨#[]⟩, .int .i64 0, .int .i64 0]) rfl w.heap.size rfl (setRow_heap _ _ _ _ _ _ W2.out) Tryd.underlying25 rfl HIT.out) rfl ⟨by rw [GE.out] <;> rfl, fun h => ?_, hz.2⟩
    rw [GE.out] at h; cases h
  · cases v
    · have GE : Hid (g = bad 3) := hid_of (GV.out rfl rfl)
      clear GQ GV GO
      go_enter Tryd.func67, Tryd.ntmps67
      go_wp2_with (first
        | (go_at_call 59; ((with_reducible refine (R1.out).mono ?_); (rintro e w1 ⟨rfl, h1, h2⟩; have K1 := hid_of (HK0.out.trans h2); have S1 := hid_of (HSEE.out w1 h1); clear h1 h2)))
        | (go_at_call 61; ((with_reducible refine (S1.out).mono ?_); (rintro e w2 ⟨rfl, h1, h2⟩; have c1y := h1.pos; have f1y := h1.free; have V2 := hid_of (HVAL.out _ (HSET.out w2 h1) (HKST.out w2 (K1.out.trans h2))); clear h1 h2)))
        | (go_at_call 50; ((with_reducible refine (V2.out).mono ?_); (rintro e w3 ⟨rfl, h1, h2⟩; have P3 := hid_of h1; have K3 := hid_of h2; have W3 := hid_of (HROW.out w3 K3.out); obtain ⟨c0, c1, c2, c3, f0, f1, f2, f3⟩ := row4 W3.out; clear h1 h2))))
      have hz := HEND.out w3 #[.int .i64 0, .string ⟨#[]⟩, .int .i64 0, .int .i64 0] (k + 1) P3.out K3.out
      rw [set4 W3.out]
      refine bodyPost_ret (res_ct (cs := #[.int .i64 0, .string ⟨#[]⟩, .int .i64 0, .int .i64 0]) rfl w.heap.size rfl (setRow_heap _ _ _ _ _ _ W3.out) Tryd.underlying25 rfl HIT.out) rfl ⟨by rw [GE.out] <;> rfl, fun h => ?_, hz.2⟩
      rw [GE.out] at h; cases h
    · have GE : Hid (g = ⟨4, t, 0, k + 1, 0⟩) := hid_of (GO.out rfl rfl)
      clear GQ GV GO
      go_enter Tryd.func67, Tryd.ntmps67
      go_wp2_with (first
        | (go_at_call 59; ((with_reducible refine (R1.out).mono ?_); (rintro e w1 ⟨rfl, h1, h2⟩; have K1 := hid_of (HK0.out.trans h2); have S1 := hid_of (HSEE.out w1 h1); clear h1 h2)))
        | (go_at_call 61; ((with_reducible refine (S1.out).mono ?_); (rintro e w2 ⟨rfl, h1, h2⟩; have c1y := h1.pos; have f1y := h1.free; have V2 := hid_of (HVAL.out _ (HSET.out w2 h1) (HKST.out w2 (K1.out.trans h2))); clear h1 h2)))
        | (go_at_call 50; ((with_reducible refine (V2.out).mono ?_); (rintro e w3 ⟨rfl, h1, h2⟩; have P3 := hid_of h1; have K3 := hid_of h2; have W3 := hid_of (HROW.out w3 K3.out); obtain ⟨c0, c1, c2, c3, f0, f1, f2, f3⟩ := row4 W3.out; clear h1 h2))))
      have hz := HEND.out w3 #[.int .i64 4, .string t, .int .i64 0, .int .i64 0] (k + 1) P3.out K3.out
      rw [set4 W3.out]
      refine bodyPost_ret (res_ct (cs := #[.int .i64 4, .string t, .int .i64 0, .int .i64 0]) rfl w.heap.size rfl (setRow_heap _ _ _ _ _ _ W3.out) Tryd.underlying25 rfl HIT.out) rfl ⟨by rw [GE.out] <;> rfl, fun h => ?_, hz.2⟩
      rw [GE.out]; exact hz.1
end Go.Proofs.YtdmjlmlmdllhgaaDoor
