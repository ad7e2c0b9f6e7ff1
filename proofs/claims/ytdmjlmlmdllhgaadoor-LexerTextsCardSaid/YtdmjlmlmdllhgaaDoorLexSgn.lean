/- The scanner: signs. Bounds on sizes alone. -/
import Derived.Test.YtdmjlmlmdllhgaaDoorLexQuo
namespace Go.Proofs.YtdmjlmlmdllhgaaDoor
open Go.RowKit

def SgR (s : ByteArray) (j n : Nat) : Prop := (n = 2 ∧ 2 ≤ s.size - j) ∨ (n = 1 ∧ ¬ (2 ≤ s.size - j ∧ sgn (s.extract j (j + 2)) = true)) ∨ (n = 0 ∧ ¬ (2 ≤ s.size - j ∧ sgn (s.extract j (j + 2)) = true) ∧ sgn (s.extract j (j + 1)) = false)
theorem SgR.le {s : ByteArray} {j n : Nat} (h : SgR s j n) (hj : j < s.size) : n ≤ 2 ∧ j + n ≤ s.size := by
  rcases h with ⟨h, h2⟩ | ⟨h, _⟩ | ⟨h, _⟩ <;> omega
theorem SgR.start {s : ByteArray} {j n : Nat} (hj : j < s.size) (h : n = min 2 (s.size - j)) : SgR s j n := by
  by_cases h2 : 2 ≤ s.size - j
  · exact .inl ⟨by omega, h2⟩
  · exact .inr (.inl ⟨by omega, fun h3 => h2 h3.1⟩)
theorem SgR.zero {s : ByteArray} {j : Nat} (h : SgR s j 0) : sigF s j = bad 2 := by
  rcases h with ⟨h, h2⟩ | ⟨h, _⟩ | ⟨_, h2, h3⟩
  · omega
  · omega
  · rw [sigF, if_neg h2, if_neg (by rw [h3]; decide)]
theorem SgR.hit {s : ByteArray} {j n : Nat} (h : SgR s j n) (h0 : 0 < n) (hg : sgn (s.extract j (j + n)) = true) : sigF s j = ⟨5, s.extract j (j + n), 0, j + n, 0⟩ := by
  rcases h with ⟨rfl, h2⟩ | ⟨rfl, h2⟩ | ⟨h, _⟩
  · rw [sigF, if_pos ⟨h2, hg⟩]
  · rw [sigF, if_neg h2, if_pos hg]
  · omega
theorem SgR.miss {s : ByteArray} {j n : Nat} (h : SgR s j n) (h0 : 0 < n) (hg : sgn (s.extract j (j + n)) = false) : SgR s j (n - 1) := by
  rcases h with ⟨rfl, h2⟩ | ⟨rfl, h2⟩ | ⟨h, _⟩
  · exact .inr (.inl ⟨rfl, fun h3 => by rw [h3.2] at hg; cases hg⟩)
  · exact .inr (.inr ⟨rfl, h2, hg⟩)
  · omega

set_option maxRecDepth 100000 in
set_option maxHeartbeats 1600000 in
theorem lsign_any (b : Nat) (s : ByteArray) (j : Nat) (w : World) (hs : s.size ≤ 1000000) (hj : j < s.size) (hb : 8 ≤ b) (hG : Glob w) (H : Pst w b s j) :
    Calls Tryd.prog 68 #[.pointer (some ⟨b, 0, none⟩)] w (TokP b s (sigF s j) w) := by
  have HBW := hid_of H.lt
  have HN : Hid (b ≠ w.heap.size) := hid_of (by have := H.lt; omega)
  have HEND : Hid (∀ w1 cs i, Pst w1 b s i → KB b (w.alloc zTok) w1 → Pst (w1.setRow w.heap.size cs) b s i ∧ KB b w (w1.setRow w.heap.size cs)) := hid_of (fun w1 cs i h1 h2 => ⟨h1.row HN.out cs, kept_row (KB.al _ h2) (Nat.le_refl _) cs⟩)
  have HIT := hid_of infoTok
  have HROW : Hid (∀ w1, KB b (w.alloc zTok) w1 → w1.heap[w.heap.size]? = some (.cells #[.int .i64 0, .string ⟨#[]⟩, .int .i64 0, .int .i64 0] 25 (0, 0))) := hid_of (fun w1 h => row_kept h HBW.out)
  have HGL : Hid (∀ w1, KB b (w.alloc zTok) w1 → Glob w1) := hid_of (fun w1 h => (hG.at (bel_alloc w zTok)).kept h hb)
  have HSG : Hid (∀ t w1, KB b (w.alloc zTok) w1 → Pst w1 b s j → Calls Tryd.prog 17 #[.string t] w1 fun e w2 => e = .returned (.bool (sgn t)) ∧ KB b (w.alloc zTok) w2 ∧ Pst w2 b s j) := hid_of (fun t w1 h h2 => (sign_any t w1 (HGL.out w1 h)).mono fun e w2 ⟨h3, h4⟩ => by subst h4; exact ⟨h3, h, h2⟩)
  have c0z := (H.al zTok).src
  have c1z := (H.al zTok).pos
  have P0 := hid_of (H.al zTok)
  obtain ⟨n, hn⟩ : ∃ n, n = min 2 (s.size - j) := ⟨_, rfl⟩
  have HR := hid_of (SgR.start hj hn)
  have HJ := hid_of hj
  have HS := hid_of hs
  have HMIN : Hid (min (2 : Int) (wrap64 ((s.size : Int) - (j : Int))) = (n : Int)) := hid_of (by
    rw [IntWalk.wrap64_in _ ⟨by omega, by omega⟩]; omega)
  have HSET : Hid (∀ w1 k, Pst w1 b s j → Pst (w1.setCell ⟨b, 1, none⟩ (.int .i64 ((j : Int) + (k : Nat)))) b s (j + k)) := hid_of (fun w1 k h1 => by rw [show (j : Int) + (k : Nat) = ((j + k : Nat) : Int) by omega]; exact h1.set (j + k))
  have HKST : Hid (∀ w1 (k : Nat), KB b (w.alloc zTok) w1 → KB b (w.alloc zTok) (w1.setCell ⟨b, 1, none⟩ (.int .i64 ((j : Int) + (k : Nat))))) := hid_of (fun w1 k h1 => h1.trans (Kept.set _ _ _ _))
  clear H hG hb hn hj hs
  rw [show zTok = .cells #[.int .i64 0, .string ⟨#[]⟩, .int .i64 0, .int .i64 0] 25 from rfl] at HEND HROW HSG HGL c0z c1z P0 HKST
  go_enter Tryd.func68, Tryd.ntmps68
  go_wp2
  go_quiet (fail)
  go_wp2
  rw [HMIN.out]
  clear HMIN
  go_loopw [4, 5] (fun xv yv wr => ∃ (m : Nat) (y : Value), xv = .int .i64 m ∧ yv = y ∧ Hid (SgR s j m) ∧ Hid (Pst wr b s j) ∧ Hid (KB b (w.alloc (.cells #[.int .i64 0, .string ⟨#[]⟩, .int .i64 0, .int .i64 0] 25)) wr)) (fun xv _ _ => (intOf xv).toNat)
  case atStart => exact ⟨n, _, rfl, rfl, HR, hid_of (P0.out.drewN _), hid_of ((Kept.refl _ _).drewN _)⟩
  case round =>
    clear c0z c1z
    obtain ⟨m, y, rfl, rfl, hsg, hp, hk⟩ := hrel
    have HLE := hid_of (hsg.out.le HJ.out)
    have W1 := hid_of (HROW.out wr hk.out)
    by_cases h0 : 0 < m
    · have d0 : decide (0 < m) = true := decide_eq_true h0
      have l1 := HJ.out
      have l2 := HS.out
      have l3 := HLE.out
      have a1 : (j : Int) ≤ (j : Int) + (m : Int) := by omega
      have a2 : (j : Int) + (m : Int) ≤ (s.size : Int) := by omega
      have a3 : (0 : Int) ≤ (j : Int) + (m : Int) := by omega
      have a4 : (s.size : Int) ≤ 1000000 := by omega
      have a5 : (0 : Int) ≤ (j : Int) := by omega
      have a6 : IntKind.i64.wrap ((j : Int) + (m : Int)) = (j : Int) + (m : Int) := IntWalk.i64_in _ (by omega)
      have a7 : ((j : Int) + (m : Int)).toNat = j + m := by omega
      have H0 := hid_of h0
      obtain ⟨t, ht⟩ : ∃ t, t = s.extract j (j + m) := ⟨_, rfl⟩
      have HT := hid_of ht
      have SC := hid_of (fun n => HSG.out t (wr.drewN n) (hk.out.drewN n) (hp.out.drewN n))
      have c0 := hp.out.src
      have c1 := hp.out.pos
      obtain ⟨q, hq⟩ : ∃ q, q = sgn t := ⟨_, rfl⟩
      rw [← hq] at SC
      have HQ := hid_of hq
      clear l1 l2 l3 h0 ht hq
      go_wp2
      go_quiet (fail)
      rw [← HT.out]
      clear a6 a7
      cases q
      · have NX := hid_of (hsg.out.miss H0.out (by rw [← HT.out]; exact HQ.out.symm))
        have HM : Hid (((m - 1 : Nat) : Int) = (m : Int) - 1) := hid_of (by have := H0.out; omega)
        go_wp2_with (go_at_call 17; ((with_reducible refine (SC.out nq).mono ?_); (rintro e w2 ⟨rfl, h1, h2⟩; have K2 := hid_of h1; have P2 := hid_of h2; clear h1 h2)))
        go_roundw
        case rel => exact ⟨m - 1, _, by rw [HM.out], rfl, NX, P2, K2⟩
        case measure => have := H0.out; simp [intOf]; omega
      · have GE : Hid (sigF s j = ⟨5, t, 0, j + m, 0⟩) := hid_of (by rw [HT.out]; exact hsg.out.hit H0.out (by rw [← HT.out]; exact HQ.out.symm))
        go_wp2_with (go_at_call 17; ((with_reducible refine (SC.out nq).mono ?_); (rintro e w2 ⟨rfl, h1, h2⟩; have K3 := hid_of (HKST.out w2 m h1); have P3 := hid_of (HSET.out w2 m h2); have W2 := hid_of (HROW.out _ K3.out); have c0y := h2.src; have c1y := h2.pos; have f1y := h2.free; obtain ⟨c0, c1, c2, c3, f0, f1, f2, f3⟩ := row4 W2.out; clear h1 h2)))
        have hz := HEND.out _ #[.int .i64 5, .string t, .int .i64 0, .int .i64 0] _ P3.out K3.out
        rw [set4 W2.out]
        refine bodyPost_ret (res_ct (cs := #[.int .i64 5, .string t, .int .i64 0, .int .i64 0]) rfl w.heap.size rfl (setRow_heap _ _ _ _ _ _ W2.out) Tryd.underlying25 rfl HIT.out) rfl ⟨by rw [GE.out] <;> rfl, fun h => ?_, hz.2⟩
        rw [GE.out]; exact hz.1
    · have d0 : decide (0 < m) = false := decide_eq_false h0
      have GE : Hid (sigF s j = bad 2) := hid_of (SgR.zero (by have h1 := hsg.out; rwa [show m = 0 by omega] at h1))
      have W2 := W1
      obtain ⟨c0, c1, c2, c3, f0, f1, f2, f3⟩ := row4 W2.out
      clear h0
      go_wp2
      have hz := HEND.out _ #[.int .i64 0, .string ⟨#[]⟩, .int .i64 0, .int .i64 0] _ hp.out hk.out
      rw [set4 W2.out]
      refine bodyPost_ret (res_ct (cs := #[.int .i64 0, .string ⟨#[]⟩, .int .i64 0, .int .i64 0]) rfl w.heap.size rfl (setRow_heap _ _ _ _ _ _ W2.out) Tryd.underlying25 rfl HIT.out) rfl ⟨by rw [GE.out] <;> rfl, fun h => ?_, hz.2⟩
      rw [GE.out] at h; cases h
end Go.Proofs.YtdmjlmlmdllhgaaDoor
