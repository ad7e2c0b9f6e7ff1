/- The laws of Text and of Parse. Bounds on sizes alone. -/
import Derived.Test.YtkpblmmgaglhoaaNamMth
import Derived.Test.YtkpblmmgaglhoaaNamLSub
import Derived.Test.YtkpblmmgaglhoaaNamRpa
namespace Go.Proofs.Ytkpblmmgaglhoaa
open Go.RowKit

theorem rtext_no (ao : Option Addr) (n cap : Nat) (l : List Str) (w : World) (R : Rd w (.slice ao n cap) (ss l)) (hl : l.length ≤ 1000) (hsm : ∀ x ∈ l, x.length ≤ 1000) (h : allOk l = false) :
    Calls Try.prog 33 #[.slice ao n cap] w fun e w' => e = .returned (.tuple #[.string ⟨#[]⟩, .int .i64 3]) ∧ Below w.heap.size w w' :=
  (rtext_any ao n cap l w R hl hsm).mono fun e w' ⟨hb, hc⟩ => ⟨hc.elim (fun h2 => by rw [h] at h2; cases h2.1) (fun h2 => h2.2), hb⟩
theorem rtext_yes (ao : Option Addr) (n cap : Nat) (l : List Str) (w : World) (R : Rd w (.slice ao n cap) (ss l)) (hl : l.length ≤ 1000) (hsm : ∀ x ∈ l, x.length ≤ 1000) (h : allOk l = true) :
    Calls Try.prog 33 #[.slice ao n cap] w fun e w' => e = .returned (.tuple #[.string (ba (txt l)), .int .i64 0]) ∧ Below w.heap.size w w' :=
  (rtext_any ao n cap l w R hl hsm).mono fun e w' ⟨hb, hc⟩ => ⟨hc.elim (fun h2 => h2.2) (fun h2 => by rw [h] at h2; cases h2.1), hb⟩
theorem txt_size {l : List Str} (h : allOk l = true) (hl : l.length ≤ 1000) : (ba (txt l)).size ≤ 20000 := by
  have h1 := jn_len (m := 16) (setOf l) (fun x hx => nameOk_len (allOk_iff.1 h x ((setOf_mem l x).1 hx)))
  have h2 := setOf_le l
  rw [ba_len]; unfold txt
  simp only [List.length_append, List.length_cons, List.length_nil]
  omega

set_option maxRecDepth 100000 in
set_option maxHeartbeats 1600000 in
theorem text_law (a0 : Option Addr) (len0 cap0 : Nat) (l0 : List Str) (w : World) (RX0 : Rd w (.slice a0 len0 cap0) (ss l0)) :
    Calls Try.prog 9 #[.slice a0 len0 cap0] w fun e w' => e = .returned (.bool true) ∧ Below w.heap.size w w' := by
  obtain ⟨s0, hs0⟩ : ∃ s, s = smallB l0 := ⟨_, rfl⟩
  have HS0 : Hid (Calls Try.prog 15 #[.slice a0 len0 cap0] w fun e w' => e = .returned (.bool s0) ∧ w = w') := hid_of (by rw [hs0]; exact small_any a0 len0 cap0 l0 w RX0)
  have RI0 := hid_of RX0
  have HSM0 := hid_of hs0
  clear hs0 RX0
  cases s0
  · go_enter Try.func9, Try.ntmps9
    go_wp2_with (first
      | (go_at_call 15; ((with_reducible refine (HS0.out).mono ?_); (rintro ee w' ⟨rfl, rfl⟩)))
      | (go_at_call 12; ((with_reducible refine (awake_any w).mono ?_); (rintro ee w1 ⟨rfl, h1⟩; have B1 := hid_of h1; clear h1))))
    go_ret
    exact ⟨rfl, B1.out⟩
  · have SM := hid_of (smallB_iff.1 HSM0.out.symm)
    have HLL : Hid (l0.length ≤ 1000 ∧ ∀ x ∈ l0, x.length ≤ 1000) := hid_of ⟨by have := SM.out.1; omega, fun x hx => by have := SM.out.2 x hx; omega⟩
    cases hok : allOk l0
    · have T1 := hid_of (text_bad a0 len0 cap0 l0 w RI0.out HLL.out.1 HLL.out.2 hok)
      have T2 := hid_of (rtext_no a0 len0 cap0 l0 w RI0.out HLL.out.1 HLL.out.2 hok)
      clear hok
      go_enter Try.func9, Try.ntmps9
      go_wp2_with (first
        | (go_at_call 15; ((with_reducible refine (HS0.out).mono ?_); (rintro ee w' ⟨rfl, rfl⟩)))
        | (go_at_call 32; ((with_reducible refine (T1.out).mono ?_); (rintro ee w' ⟨rfl, rfl⟩)))
        | (go_at_call 33; ((with_reducible refine (T2.out).mono ?_); (rintro ee w1 ⟨rfl, h1⟩; have B1 := hid_of h1; clear h1)))
        | (go_at_call 12; ((with_reducible refine (awake_any w1).mono ?_); (rintro ee w2 ⟨rfl, h1⟩; have B2 := hid_of (step_b B1.out h1 B1.out.size); clear h1))))
      go_ret
      exact ⟨rfl, B2.out⟩
    · have T1 := hid_of (text_ok a0 len0 cap0 l0 w RI0.out HLL.out.1 (allOk_iff.1 hok))
      have T2 := hid_of (fun w1 (h : Below w.heap.size w w1) => rtext_yes a0 len0 cap0 l0 w1 (RI0.out.at h) HLL.out.1 HLL.out.2 hok)
      have PT := hid_of (fun w1 => parse_lit (ba (txt l0)) (setOf l0) 0 0 (parse_text hok) (by have := txt_size hok HLL.out.1; omega) w1)
      have OF := hid_of (fun w1 (h : Below w.heap.size w w1) => of_any a0 len0 cap0 l0 w1 (RI0.out.at h) (by have := HLL.out.1; unfold big; omega))
      obtain ⟨T, hT⟩ : ∃ T, T = ba (txt l0) := ⟨_, rfl⟩
      rw [← hT] at T1 T2 PT
      obtain ⟨L, hL⟩ : ∃ L, L = setOf l0 := ⟨_, rfl⟩
      rw [← hL] at PT OF
      have HLB : Hid (L.length ≤ 1000) := hid_of (by rw [hL]; exact Nat.le_trans (setOf_le _) HLL.out.1)
      obtain ⟨m, hm⟩ : ∃ m, m = L.length := ⟨_, rfl⟩
      rw [← hm] at PT OF
      have PT2 : Hid (∀ w1, Calls Try.prog 34 #[.string T] w1 fun e w' => ∃ xo xc, e = .returned (.tuple #[.slice xo m xc, .int .i64 0, .int .i64 0]) ∧ Ow 9 w1.heap.size w1 w' (.slice xo m xc) (ss L)) := hid_of PT.out
      have t1 : (T.toList == T.toList) = true := by simp
      have SA : Hid (∀ w xo xc yo yc, Rd w (.slice xo m xc) (ss L) → Rd w (.slice yo m yc) (ss L) → Calls Try.prog 25 #[.slice xo m xc, .slice yo m yc] w fun e w' => e = .returned (.bool true) ∧ Below w.heap.size w w') := hid_of (fun w xo xc yo yc R1 R2 => rsame_q true xo m xc yo m yc L L w R1 R2 (by simp))
      clear hok hT hL hm PT
      go_enter Try.func9, Try.ntmps9
      go_wp2_with (first
        | (go_at_call 15; ((with_reducible refine (HS0.out).mono ?_); (rintro ee w' ⟨rfl, rfl⟩)))
        | (go_at_call 32; ((with_reducible refine (T1.out).mono ?_); (rintro ee w1 ⟨rfl, h1⟩; have B1 := hid_of h1; clear h1)))
        | (go_at_call 33; ((with_reducible refine (T2.out w1 B1.out).mono ?_); (rintro ee w2 ⟨rfl, h1⟩; have B2 := hid_of (step_b B1.out h1 B1.out.size); clear h1)))
        | (go_at_call 34; ((with_reducible refine (PT2.out w2).mono ?_); (rintro ee w3 ⟨xo3, xc3, rfl, h1⟩; have R3 := hid_of (h1.rd (by rw [ss_length]; have := HLB.out; omega)); have B3 := hid_of (step_b B2.out h1.bel B2.out.size); clear h1)))
        | (go_at_call 12; ((with_reducible refine (awake_any w3).mono ?_); (rintro ee w4 ⟨rfl, h1⟩; replace R3 := hid_of (R3.out.at h1); have B4 := hid_of (step_b B3.out h1 B3.out.size); clear h1)))
        | (go_at_call 17; ((with_reducible refine (OF.out w4 B4.out).mono ?_); (rintro ee w5 ⟨xo5, xc5, rfl, h1⟩; replace R3 := hid_of (R3.out.at h1.bel); have R5 := hid_of (h1.rd (by rw [ss_length]; have := HLB.out; omega)); have B5 := hid_of (step_b B4.out h1.bel B4.out.size); clear h1)))
        | (go_at_call 25; ((with_reducible refine (SA.out w5 xo3 xc3 xo5 xc5 R3.out R5.out).mono ?_); (rintro ee w6 ⟨rfl, h1⟩; have B6 := hid_of (step_b B5.out h1 B5.out.size); clear h1))))
      go_ret
      exact ⟨rfl, B6.out⟩

set_option maxRecDepth 100000 in
set_option maxHeartbeats 1600000 in
theorem parse_law (s : ByteArray) (w : World) (hsm : s.size ≤ maxLen) :
    Calls Try.prog 10 #[.string s] w fun e w' => e = .returned (.bool true) ∧ Below w.heap.size w w' := by
  unfold maxLen at hsm
  by_cases h300 : 300 < s.size
  · have d0 : decide ((300 : Int) < (s.size : Int)) = true := by simp; omega
    have d1 : decide (300 < s.size) = true := by simp; omega
    clear h300
    go_enter Try.func10, Try.ntmps10
    go_wp2_with (go_at_call 12; ((with_reducible refine (awake_any w).mono ?_); (rintro ee w1 ⟨rfl, h1⟩; have B1 := hid_of h1; clear h1)))
    go_ret
    exact ⟨rfl, B1.out⟩
  · have d0 : decide ((300 : Int) < (s.size : Int)) = false := by simp; omega
    have d1 : decide (300 < s.size) = false := by simp; omega
    have P1 := hid_of (parse_any s w (by omega))
    have P2 := hid_of (fun w1 => rparse_any s w1 (by omega))
    have HG := parse_good s
    obtain ⟨G, hG⟩ : ∃ G, G = parseF s := ⟨_, rfl⟩
    rw [← hG] at P1 P2 HG
    clear hG
    obtain ⟨L, p, c⟩ := G
    rcases HG with ⟨hc, hL⟩ | ⟨acc, hacc, hnd, hok, htot⟩
    · have hc2 : c ≠ 0 := hc
      have hL2 : L = [] := hL
      subst hL2
      have t1 : (c != 0) = true := bne_iff_ne.2 hc2
      have t2 : (c != c) = false := by simp
      have t3 : (p != p) = false := by simp
      have t3' : ((p : Int) != (p : Int)) = false := by simp
      have P1' : Hid (Calls Try.prog 34 #[.string s] w fun e w' => ∃ xo xc, e = .returned (.tuple #[.slice xo 0 xc, .int .i64 p, .int .i64 c]) ∧ Ow 9 w.heap.size w w' (.slice xo 0 xc) (ss [])) := hid_of P1.out
      have P2' : Hid (∀ w, Calls Try.prog 35 #[.string s] w fun e w' => ∃ xo xc, e = .returned (.tuple #[.slice xo 0 xc, .int .i64 p, .int .i64 c]) ∧ Ow 9 w.heap.size w w' (.slice xo 0 xc) (ss [])) := hid_of P2.out
      have SA : Hid (∀ w xo xc yo yc, Rd w (.slice xo 0 xc) (ss []) → Rd w (.slice yo 0 yc) (ss []) → Calls Try.prog 25 #[.slice xo 0 xc, .slice yo 0 yc] w fun e w' => e = .returned (.bool true) ∧ Below w.heap.size w w') := hid_of (fun w xo xc yo yc R1 R2 => rsame_q true xo 0 xc yo 0 yc [] [] w R1 R2 (by simp))
      clear hc hc2 hL P1 P2 h300
      go_enter Try.func10, Try.ntmps10
      go_wp2_with (first
        | (go_at_call 34; ((with_reducible refine (P1'.out).mono ?_); (rintro ee w1 ⟨xo1, xc1, rfl, h1⟩; have R1 := hid_of (h1.rd (by simp [ss])); have B1 := hid_of h1.bel; clear h1)))
        | (go_at_call 35; ((with_reducible refine (P2'.out w1).mono ?_); (rintro ee w2 ⟨xo2, xc2, rfl, h1⟩; replace R1 := hid_of (R1.out.at h1.bel); have R2 := hid_of (h1.rd (by simp [ss])); have B2 := hid_of (step_b B1.out h1.bel B1.out.size); clear h1)))
        | (go_at_call 25; ((with_reducible refine (SA.out w2 xo1 xc1 xo2 xc2 R1.out R2.out).mono ?_); (rintro ee w3 ⟨rfl, h1⟩; have B3 := hid_of (step_b B2.out h1 B2.out.size); clear h1)))
        | (go_at_call 12; ((with_reducible refine (awake_any w3).mono ?_); (rintro ee w4 ⟨rfl, h1⟩; have B4 := hid_of (step_b B3.out h1 B3.out.size); clear h1))))
      go_ret
      exact ⟨rfl, B4.out⟩
    · simp only [Got.mk.injEq] at hacc
      obtain ⟨rfl, rfl, rfl⟩ := hacc
      have HOK : allOk (setOf acc) = true := by rw [allOk_set]; exact hok
      have hts : (txt (setOf acc)).length ≤ s.size := by
        unfold txt; rw [setOf_idem]
        have := txt_tot acc hnd; unfold txt at this; omega
      have hacc9 : acc.length ≤ 300 := by have : tot acc + 1 ≤ s.size := by omega
                                          unfold tot at this; omega
      have hL9 : (setOf acc).length ≤ 300 := Nat.le_trans (setOf_le _) hacc9
      have PT := hid_of (fun w1 => parse_lit (ba (txt (setOf acc))) (setOf acc) 0 0 (by rw [parse_text HOK, setOf_idem]) (by rw [ba_len]; omega) w1)
      have TX := hid_of (fun ao cap w1 (R : Rd w1 (.slice ao (setOf acc).length cap) (ss (setOf acc))) => text_ok ao (setOf acc).length cap (setOf acc) w1 R (by omega) (allOk_iff.1 HOK))
      have hTs : (ba (txt (setOf acc))).size ≤ s.size := by rw [ba_len]; exact hts
      obtain ⟨T, hT⟩ : ∃ T, T = ba (txt (setOf acc)) := ⟨_, rfl⟩
      rw [← hT] at PT TX hTs
      obtain ⟨L, hL⟩ : ∃ L, L = setOf acc := ⟨_, rfl⟩
      rw [← hL] at PT TX P1 P2 hL9
      obtain ⟨m, hm⟩ : ∃ m, m = L.length := ⟨_, rfl⟩
      have HLB : Hid (L.length ≤ 1000) := hid_of (by omega)
      have P1' : Hid (Calls Try.prog 34 #[.string s] w fun e w' => ∃ xo xc, e = .returned (.tuple #[.slice xo m xc, .int .i64 0, .int .i64 0]) ∧ Ow 9 w.heap.size w w' (.slice xo m xc) (ss L)) := hid_of (by rw [hm]; exact P1.out)
      have P2' : Hid (∀ w, Calls Try.prog 35 #[.string s] w fun e w' => ∃ xo xc, e = .returned (.tuple #[.slice xo m xc, .int .i64 0, .int .i64 0]) ∧ Ow 9 w.heap.size w w' (.slice xo m xc) (ss L)) := hid_of (by rw [hm]; exact P2.out)
      have PT' : Hid (∀ w, Calls Try.prog 34 #[.string T] w fun e w' => ∃ xo xc, e = .returned (.tuple #[.slice xo m xc, .int .i64 0, .int .i64 0]) ∧ Ow 9 w.heap.size w w' (.slice xo m xc) (ss L)) := hid_of (by rw [hm]; exact PT.out)
      have TX' : Hid (∀ ao cap w1, Rd w1 (.slice ao m cap) (ss L) → Calls Try.prog 32 #[.slice ao m cap] w1 fun e w' => e = .returned (.tuple #[.string T, .int .i64 0]) ∧ Below w1.heap.size w1 w') := hid_of (by rw [hm]; exact TX.out)
      have SA : Hid (∀ w xo xc yo yc, Rd w (.slice xo m xc) (ss L) → Rd w (.slice yo m yc) (ss L) → Calls Try.prog 25 #[.slice xo m xc, .slice yo m yc] w fun e w' => e = .returned (.bool true) ∧ Below w.heap.size w w') := hid_of (fun w xo xc yo yc R1 R2 => rsame_q true xo m xc yo m yc L L w R1 R2 (by simp))
      have t4 : decide ((T.size : Int) ≤ (s.size : Int)) = true := by simp; omega
      have t5 : decide (T.size ≤ s.size) = true := by simp; omega
      clear hT hL hm PT TX P1 P2 HOK hok hnd htot hts hacc9 hL9 h300 hTs
      go_enter Try.func10, Try.ntmps10
      go_wp2_with (first
        | (go_at_call 34; (first
          | ((with_reducible refine (P1'.out).mono ?_); (rintro ee w1 ⟨xo1, xc1, rfl, h1⟩; have R1 := hid_of (h1.rd (by rw [ss_length]; have := HLB.out; omega)); have B1 := hid_of h1.bel; clear h1))
          | ((with_reducible refine (PT'.out w4).mono ?_); (rintro ee w5 ⟨xo5, xc5, rfl, h1⟩; replace R1 := hid_of (R1.out.at h1.bel); have R5 := hid_of (h1.rd (by rw [ss_length]; have := HLB.out; omega)); have B5 := hid_of (step_b B4.out h1.bel B4.out.size); clear h1))))
        | (go_at_call 35; ((with_reducible refine (P2'.out w1).mono ?_); (rintro ee w2 ⟨xo2, xc2, rfl, h1⟩; replace R1 := hid_of (R1.out.at h1.bel); have R2 := hid_of (h1.rd (by rw [ss_length]; have := HLB.out; omega)); have B2 := hid_of (step_b B1.out h1.bel B1.out.size); clear h1)))
        | (go_at_call 25; (first
          | ((with_reducible refine (SA.out w2 xo1 xc1 xo2 xc2 R1.out R2.out).mono ?_); (rintro ee w3 ⟨rfl, h1⟩; replace R1 := hid_of (R1.out.at h1); have B3 := hid_of (step_b B2.out h1 B2.out.size); clear h1))
          | ((with_reducible refine (SA.out w6 xo5 xc5 xo1 xc1 R5.out R1.out).mono ?_); (rintro ee w7 ⟨rfl, h1⟩; have B7 := hid_of (step_b B6.out h1 B6.out.size); clear h1))))
        | (go_at_call 32; ((with_reducible refine (TX'.out xo1 xc1 w3 R1.out).mono ?_); (rintro ee w4 ⟨rfl, h1⟩; replace R1 := hid_of (R1.out.at h1); have B4 := hid_of (step_b B3.out h1 B3.out.size); clear h1)))
        | (go_at_call 12; ((with_reducible refine (awake_any w5).mono ?_); (rintro ee w6 ⟨rfl, h1⟩; replace R1 := hid_of (R1.out.at h1); replace R5 := hid_of (R5.out.at h1); have B6 := hid_of (step_b B5.out h1 B5.out.size); clear h1))))
      go_ret
      exact ⟨rfl, B7.out⟩
end Go.Proofs.Ytkpblmmgaglhoaa
