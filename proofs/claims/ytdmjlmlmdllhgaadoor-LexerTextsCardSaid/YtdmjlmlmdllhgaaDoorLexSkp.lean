/- The scanner: blanks and comments, words. Bounds on sizes alone. -/
import Derived.Test.YtdmjlmlmdllhgaaDoorLexGlb
namespace Go.Proofs.YtdmjlmlmdllhgaaDoor
open Go.RowKit

theorem en_blank : ∀ args w, (callFunc 60 args).run Tryd.prog w = .ok (.enter 60 args) w := enters_of Tryd.func60 (by kernel_rfl) rfl
theorem en_ncm : ∀ args w, (callFunc 62 args).run Tryd.prog w = .ok (.enter 62 args) w := enters_of Tryd.func62 (by kernel_rfl) rfl
theorem en_word : ∀ args w, (callFunc 76 args).run Tryd.prog w = .ok (.enter 76 args) w := enters_of Tryd.func76 (by kernel_rfl) rfl
theorem en_dig : ∀ args w, (callFunc 65 args).run Tryd.prog w = .ok (.enter 65 args) w := enters_of Tryd.func65 (by kernel_rfl) rfl

/-- What run says. -/
def RunP (b : Nat) (s : ByteArray) (i k : Nat) (w : World) (e : Ending) (w' : World) : Prop := e = .returned (.string (s.extract i k)) ∧ Pst w' b s k ∧ KB b w w'

set_option maxRecDepth 100000 in
set_option maxHeartbeats 800000 in
theorem lskip_any (b : Nat) (s : ByteArray) (i : Nat) (w : World) (hs : s.size ≤ 1000000) (hi : i ≤ s.size) (H : Pst w b s i) :
    Calls Tryd.prog 42 #[.pointer (some ⟨b, 0, none⟩)] w fun e w' => e = .returned (.tuple #[]) ∧ Pst w' b s (sk s i) ∧ KB b w w' := by
  have RB : Hid (∀ i w, i ≤ s.size → Pst w b s i → Calls Tryd.prog 59 #[.pointer (some ⟨b, 0, none⟩), .func (.func 60) #[] #[]] w (RunP b s i (runF blk s i) w)) := hid_of (fun i w h1 h2 => lrun_any _ blk en_blank lisBlank_any b s i w hs h1 h2)
  have RC : Hid (∀ i w, i ≤ s.size → Pst w b s i → Calls Tryd.prog 59 #[.pointer (some ⟨b, 0, none⟩), .func (.func 62) #[] #[]] w (RunP b s i (runF ncm s i) w)) := hid_of (fun i w h1 h2 => lrun_any _ ncm en_ncm lncm_any b s i w hs h1 h2)
  obtain ⟨r, hr⟩ : ∃ r, r = sk s i := ⟨_, rfl⟩
  rw [← hr]
  have HR := hid_of hr
  have HS : Hid (∀ j w, j ≤ s.size → Pst w b s j → Calls Tryd.prog 61 #[.pointer (some ⟨b, 0, none⟩), .int .u8 35] w fun e w' => e = .returned (.bool (decide (gt s j = 35))) ∧ Pst w' b s j ∧ KB b w w') := hid_of (fun j w h1 h2 => lsees_any b s j 35 w hs h1 (by decide) h2)
  have R1 := hid_of (RB.out i w hi H)
  have LE := hid_of (run_le (p := blk) hi)
  have E1 : Hid (sk s (runF blk s i) = r) := hid_of (by rw [sk_run s _ _ rfl, HR.out])
  have NB : Hid (runF blk s i < s.size → blk (gt s (runF blk s i)) = false) := hid_of (runF_spec s _ i rfl).1
  obtain ⟨k, hk⟩ : ∃ k, k = runF blk s i := ⟨_, rfl⟩
  rw [← hk] at R1 LE E1 NB
  clear hr hi H hk
  go_enter Tryd.func42, Tryd.ntmps42
  go_wp2_with (go_at_call 59; ((with_reducible refine (R1.out).mono ?_); (rintro e w1 ⟨rfl, h1, h2⟩; have P1 := hid_of h1; have K1 := hid_of h2; clear h1 h2)))
  go_loopw [4, 5, 6, 7, 8, 9] (fun v4 v5 v6 v7 v8 v9 wr => ∃ (j : Nat) (x4 x5 x6 x7 x8 x9 : Value), v4 = x4 ∧ v5 = x5 ∧ v6 = x6 ∧ v7 = x7 ∧ v8 = x8 ∧ v9 = x9 ∧ j ≤ s.size ∧ Hid (sk s j = r) ∧ Hid (j < s.size → blk (gt s j) = false) ∧ Hid (Pst wr b s j) ∧ Hid (KB b w wr)) (fun _ _ _ _ _ _ wr => s.size - pAt b wr)
  case atStart => exact ⟨k, _, _, _, _, _, _, rfl, rfl, rfl, rfl, rfl, rfl, LE.out, E1, NB, P1, K1⟩
  case round =>
    obtain ⟨j, x4, x5, x6, x7, x8, x9, rfl, rfl, rfl, rfl, rfl, rfl, hj, hsk, hnb, hp, hkk⟩ := hrel
    have S1 := hid_of (HS.out j wr hj hp.out)
    have HJ := hid_of hj
    obtain ⟨q, hq⟩ : ∃ q, q = decide (gt s j = 35) := ⟨_, rfl⟩
    rw [← hq] at S1
    cases q
    · have hne : gt s j ≠ 35 := of_decide_eq_false hq.symm
      have ER : Hid (j = r) := hid_of (by
        rw [← hsk.out]
        by_cases hlt : j < s.size
        · exact (sk_stop (hnb.out hlt) hne).symm
        · exact (sk_end hlt).symm)
      clear hq hne hj
      go_wp2_with (go_at_call 61; ((with_reducible refine (S1.out).mono ?_); (rintro e w2 ⟨rfl, h1, h2⟩; have P2 := hid_of h1; have K2 := hid_of h2; clear h1 h2)))
      go_end0
      exact ⟨rfl, by rw [← ER.out]; exact P2.out, hkk.out.trans K2.out⟩
    · have he : gt s j = 35 := of_decide_eq_true hq.symm
      have hlt := gt_in (s := s) (i := j) (by omega)
      obtain ⟨m, hm⟩ : ∃ m, m = runF ncm s j := ⟨_, rfl⟩
      have g1 : j < m := by rw [hm]; exact run_gt (by rw [he]; rfl) hlt
      have g2 : m ≤ s.size := by rw [hm]; exact run_le (Nat.le_of_lt hlt)
      obtain ⟨n, hn⟩ : ∃ n, n = runF blk s m := ⟨_, rfl⟩
      have g3 : m ≤ n := by rw [hn]; exact run_ge _ _ _
      have g4 : n ≤ s.size := by rw [hn]; exact run_le g2
      have STEP : Hid (sk s n = r ∧ (n < s.size → blk (gt s n) = false) ∧ j < n ∧ n ≤ s.size) := hid_of ⟨by rw [hn, hm, sk_step he]; exact hsk.out, by rw [hn]; exact (runF_spec s _ m rfl).1, by omega, g4⟩
      have RR1 : Hid (∀ w, Pst w b s j → Calls Tryd.prog 59 #[.pointer (some ⟨b, 0, none⟩), .func (.func 62) #[] #[]] w (RunP b s j m w)) := hid_of (fun w h => by rw [hm]; exact RC.out j w hj h)
      have RR2 : Hid (∀ w, Pst w b s m → Calls Tryd.prog 59 #[.pointer (some ⟨b, 0, none⟩), .func (.func 60) #[] #[]] w (RunP b s m n w)) := hid_of (fun w h => by rw [hn]; exact RB.out m w g2 h)
      clear hq he hlt hm hn g1 g2 g3 g4 hj
      go_wp2_with (first
        | (go_at_call 61; ((with_reducible refine (S1.out).mono ?_); (rintro e w2 ⟨rfl, h1, h2⟩; have P2 := hid_of h1; have K2 := hid_of h2; have T2 := hid_of (RR1.out w2 h1); clear h1 h2)))
        | (go_at_call 59; (first
          | ((with_reducible refine (T2.out).mono ?_); (rintro e w3 ⟨rfl, h1, h2⟩; have K3 := hid_of h2; have T3 := hid_of (RR2.out w3 h1); clear h1 h2))
          | ((with_reducible refine (T3.out).mono ?_); (rintro e w4 ⟨rfl, h1, h2⟩; have P4 := hid_of h1; have K4 := hid_of h2; clear h1 h2)))))
      go_roundw
      case rel => exact ⟨n, _, _, _, _, _, _, rfl, rfl, rfl, rfl, rfl, rfl, STEP.out.2.2.2, hid_of STEP.out.1, hid_of STEP.out.2.1, P4, hid_of (((hkk.out.trans K2.out).trans K3.out).trans K4.out)⟩
      case measure => rw [hp.out.at_, P4.out.at_]; have := STEP.out; omega
end Go.Proofs.YtdmjlmlmdllhgaaDoor
