/- The law of the ranks of increasing lists. No condition. -/
import Derived.Test.YtpmajdgabpmooaaRanRefD
import Derived.Test.YtpmajdgabpmooaaRanChooseLaw
namespace Go.Proofs.Ytpmajdgabpmooaa
open Go.RowKit

theorem unrankSub_bad (z k : Int) (r : Nat) (w : World) (hk : -9223372036854775808 ≤ k) (hk2 : k ≤ 9223372036854775807) (h : z < 0 ∨ 60 < z ∨ ∃ n : Nat, z = n ∧ n ≤ 60 ∧ chI n k ≤ r) :
    Calls Try.prog 36 #[.int .i64 z, .int .i64 k, .int .u64 (r : Int)] w fun e w' => e = .returned (.tuple #[.slice none 0 0, .int .i64 1]) ∧ w = w' := by
  by_cases hb : z < 0 ∨ 60 < z
  · have HB := hid_of hb
    clear hb h hk hk2
    go_enter Try.func36, Try.ntmps36
    go_wp2_with (go_at_call 27; ((with_reducible refine (Choose_bad z k w HB.out).mono ?_); (rintro e w' ⟨rfl, rfl⟩)))
    go_ret2
    exact ⟨rfl, rfl⟩
  · obtain ⟨n, rfl, hn, hc⟩ : ∃ n : Nat, z = n ∧ n ≤ 60 ∧ chI n k ≤ r := by
      rcases h with h | h | h
      · exact absurd (.inl h) hb
      · exact absurd (.inr h) hb
      · exact h
    have HCH : Hid (Calls Try.prog 27 #[.int .i64 (n : Int), .int .i64 k] w fun e w' => e = .returned (.tuple #[.int .u64 ((chI n k : Nat) : Int), .int .i64 0]) ∧ w = w') := hid_of (Choose_any n n k w rfl hn hk hk2)
    obtain ⟨c, hcc⟩ : ∃ c, c = chI n k := ⟨_, rfl⟩
    rw [← hcc] at HCH hc
    have hd : decide (c ≤ r) = true := by simp; omega
    clear hcc h hb hk hk2 hc
    go_enter Try.func36, Try.ntmps36
    go_wp2_with (go_at_call 27; ((with_reducible refine (HCH.out).mono ?_); (rintro e w' ⟨rfl, rfl⟩)))
    go_ret2
    exact ⟨rfl, rfl⟩
theorem rankS_val (n : Nat) (z : Int) (ao : Option Addr) (m cap : Nat) (l : List Int) (x : Nat) (w : World) (hz : z = n) (hn : n ≤ 60) (R : Rd w (.slice ao m cap) (is l)) (hp : incTo (n : Int) l l.length) (hx : x = rsI n l m) :
    Calls Try.prog 34 #[.int .i64 z, .slice ao m cap] w fun e w' => e = .returned (.tuple #[.int .u64 (x : Int), .int .i64 0]) ∧ w = w' := by
  subst hx; exact rankSub_ok n z ao m cap l w hz hn R hp
theorem refSub_val (n : Nat) (z : Int) (ao : Option Addr) (m cap : Nat) (l : List Int) (x : Nat) (w : World) (hz : z = n) (hn : n ≤ 60) (R : Rd w (.slice ao m cap) (is l)) (hm9 : m ≤ 10000) (hp : incTo (n : Int) l l.length) (hx : x = rsI n l m) :
    Calls Try.prog 35 #[.int .i64 z, .slice ao m cap] w fun e w' => e = .returned (.tuple #[.int .u64 (x : Int), .int .i64 0]) ∧ Below w.heap.size w w' :=
  (refSub_any n z ao m cap l w hz hn R hm9).mono fun e w' ⟨h, hb⟩ => ⟨(h.elim (fun h => by rw [h.2, hx]) (fun h => by have := h.1; rw [incB_yes hp] at this; cases this)), hb⟩
theorem refSub_no (n : Nat) (z : Int) (ao : Option Addr) (m cap : Nat) (l : List Int) (w : World) (hz : z = n) (hn : n ≤ 60) (R : Rd w (.slice ao m cap) (is l)) (hm9 : m ≤ 10000) (hp : ¬ incTo (n : Int) l l.length) :
    Calls Try.prog 35 #[.int .i64 z, .slice ao m cap] w fun e w' => e = .returned (.tuple #[.int .u64 0, .int .i64 1]) ∧ Below w.heap.size w w' :=
  (refSub_any n z ao m cap l w hz hn R hm9).mono fun e w' ⟨h, hb⟩ => ⟨(h.elim (fun h => by have := h.1; rw [incB_no hp] at this; cases this) (fun h => h.2)), hb⟩

set_option maxRecDepth 100000 in
set_option maxHeartbeats 1600000 in
theorem sub_bad (z k : Int) (a2 : Option Addr) (len2 cap2 : Nat) (l : List Int) (r : Nat) (w : World) (hk : -9223372036854775808 ≤ k) (hk2 : k ≤ 9223372036854775807) (R : Rd w (.slice a2 len2 cap2) (is l)) (hm : len2 ≤ 100) (hz : z < 0 ∨ 60 < z) :
    Calls Try.prog 12 #[.int .i64 z, .int .i64 k, .slice a2 len2 cap2, .int .u64 (r : Int)] w fun e w' => e = .returned (.bool true) ∧ Below w.heap.size w w' := by
  have d1 : decide ((100 : Int) < (len2 : Int)) = false := by simp; omega
  have HR := hid_of R
  have HZ := hid_of hz
  have HK := hid_of (And.intro hk hk2)
  have HW : Hid (w.heap.size ≤ w.heap.size) := hid_of (Nat.le_refl _)
  have HZ3 : Hid (z < 0 ∨ 60 < z ∨ ¬ incTo z l l.length) := hid_of (hz.elim .inl (fun h => .inr (.inl h)))
  have HZ4 : Hid (z < 0 ∨ 60 < z ∨ ∃ n : Nat, z = n ∧ n ≤ 60 ∧ chI n k ≤ r) := hid_of (hz.elim .inl (fun h => .inr (.inl h)))
  clear R hk hk2
  rcases hz with hz | hz
  · have e1 : decide (z < 0) = true := by simp; omega
    clear hz
    go_enter Try.func12, Try.ntmps12
    go_wp2_with (first
      | (go_at_call 34; ((with_reducible refine (rankSub_bad z a2 len2 cap2 l w HR.out HZ3.out).mono ?_); (rintro e w' ⟨rfl, rfl⟩)))
      | (go_at_call 35; ((with_reducible refine (refSub_bad z a2 len2 cap2 w HZ.out).mono ?_); (rintro e w1 ⟨rfl, h1⟩; have B1 := hid_of h1; clear h1)))
      | (go_at_call 36; ((with_reducible refine (unrankSub_bad z k r w1 HK.out.1 HK.out.2 HZ4.out).mono ?_); (rintro e w' ⟨rfl, rfl⟩)))
      | (go_at_call 16; ((with_reducible refine (awake_any w1).mono ?_); (rintro e w2 ⟨rfl, h2⟩; have B2 := hid_of (step_b B1.out h2 HW.out); clear h2))))
    go_ret
    exact ⟨rfl, B2.out⟩
  · have e1 : decide (z < 0) = false := by simp; omega
    have e2 : decide (60 < z) = true := by simp; omega
    clear hz
    go_enter Try.func12, Try.ntmps12
    go_wp2_with (first
      | (go_at_call 34; ((with_reducible refine (rankSub_bad z a2 len2 cap2 l w HR.out HZ3.out).mono ?_); (rintro e w' ⟨rfl, rfl⟩)))
      | (go_at_call 35; ((with_reducible refine (refSub_bad z a2 len2 cap2 w HZ.out).mono ?_); (rintro e w1 ⟨rfl, h1⟩; have B1 := hid_of h1; clear h1)))
      | (go_at_call 36; ((with_reducible refine (unrankSub_bad z k r w1 HK.out.1 HK.out.2 HZ4.out).mono ?_); (rintro e w' ⟨rfl, rfl⟩)))
      | (go_at_call 16; ((with_reducible refine (awake_any w1).mono ?_); (rintro e w2 ⟨rfl, h2⟩; have B2 := hid_of (step_b B1.out h2 HW.out); clear h2))))
    go_ret
    exact ⟨rfl, B2.out⟩
theorem sub_big (z k : Int) (a2 : Option Addr) (len2 cap2 : Nat) (r : Nat) (w : World) (hm : 100 < len2) :
    Calls Try.prog 12 #[.int .i64 z, .int .i64 k, .slice a2 len2 cap2, .int .u64 (r : Int)] w fun e w' => e = .returned (.bool true) ∧ Below w.heap.size w w' := by
  have d1 : decide ((100 : Int) < (len2 : Int)) = true := by simp; omega
  go_enter Try.func12, Try.ntmps12
  go_wp2_with (go_at_call 16; ((with_reducible refine (awake_any w).mono ?_); (rintro e w2 ⟨rfl, h2⟩; have B2 := hid_of h2; clear h2)))
  go_ret
  exact ⟨rfl, B2.out⟩

set_option maxRecDepth 100000 in
set_option maxHeartbeats 16000000 in
theorem sub_good (n : Nat) (k : Int) (a2 : Option Addr) (len2 cap2 : Nat) (l : List Int) (r : Nat) (w : World) (hk : -9223372036854775808 ≤ k) (hk2 : k ≤ 9223372036854775807) (R : Rd w (.slice a2 len2 cap2) (is l)) (hm : len2 ≤ 100) (hn : n ≤ 60) (hr : r < 18446744073709551616) :
    Calls Try.prog 12 #[.int .i64 (n : Int), .int .i64 k, .slice a2 len2 cap2, .int .u64 (r : Int)] w fun e w' => e = .returned (.bool true) ∧ Below w.heap.size w w' := by
  have d1 : decide ((100 : Int) < (len2 : Int)) = false := by simp; omega
  have e1 : decide ((n : Int) < 0) = false := by simp
  have e2 : decide ((60 : Int) < (n : Int)) = false := by simp; omega
  have HR := hid_of R
  have HN := hid_of hn
  have HM := hid_of hm
  have hlen : len2 = l.length := (rd_open R).1
  have HK := hid_of (And.intro hk hk2)
  have HW : Hid (w.heap.size ≤ w.heap.size) := hid_of (Nat.le_refl _)
  have HRC : Hid (Calls Try.prog 34 #[.int .i64 (n : Int), .slice a2 len2 cap2] w (fun e w' => e = .returned (.tuple #[.int .u64 0, .int .i64 1]) ∧ w = w') ∧ (∀ w', Below w.heap.size w w' → Calls Try.prog 35 #[.int .i64 (n : Int), .slice a2 len2 cap2] w' (fun e w'' => e = .returned (.tuple #[.int .u64 0, .int .i64 1]) ∧ Below w'.heap.size w' w'')) ∨
    ∃ (x c : Nat) (p : List Nat), l = nI p ∧ x < c ∧ Calls Try.prog 34 #[.int .i64 (n : Int), .slice a2 len2 cap2] w (fun e w' => e = .returned (.tuple #[.int .u64 (x : Int), .int .i64 0]) ∧ w = w') ∧ (∀ w', Below w.heap.size w w' → Calls Try.prog 35 #[.int .i64 (n : Int), .slice a2 len2 cap2] w' (fun e w'' => e = .returned (.tuple #[.int .u64 (x : Int), .int .i64 0]) ∧ Below w'.heap.size w' w'')) ∧
      (∀ w, Calls Try.prog 36 #[.int .i64 (n : Int), .int .i64 (len2 : Int), .int .u64 (x : Int)] w fun e w' => ∃ xo xc, e = .returned (.tuple #[.slice xo len2 xc, .int .i64 0]) ∧ Ow 3 w.heap.size w w' (.slice xo len2 xc) (is l)) ∧
      (∀ w, Calls Try.prog 28 #[.int .i64 (n : Int), .int .i64 (len2 : Int)] w fun e w' => e = .returned (.int .u64 (c : Int)) ∧ Below w.heap.size w w')) := hid_of (by
    by_cases hi : incTo (n : Int) l l.length
    · obtain ⟨p, hp, hp2⟩ := incTo_open hi
      have e3 : rsI n l len2 = rs n 0 p := by rw [hp, hlen, hp, nI_length]; exact rsI_all n p hn hp2
      have e4 : len2 = p.length := by rw [hlen, hp, nI_length]
      have e5 := rs_lt64 hn hp2
      have e6 : unS n n 0 len2 (rs n 0 p) = p := by rw [e4]; exact unS_rs n n 0 p (by omega) hp2
      refine .inr ⟨rs n 0 p, chN n len2, p, hp, by rw [e4]; exact e5, rankS_val n n a2 len2 cap2 l _ w rfl hn R hi e3.symm, fun w' hb => refSub_val n n a2 len2 cap2 l _ w' rfl hn (R.at hb) (by omega) hi e3.symm, fun w => ?_, fun w => rch_val n n len2 _ w rfl hn (by omega) (by omega) (chI_nat _ _).symm⟩
      have := unrankSub_ok n len2 (rs n 0 p) n len2 w rfl rfl hn (by rw [e4]; exact e5)
      rw [e6, ← hp] at this
      exact this
    · exact .inl ⟨rankSub_bad n a2 len2 cap2 l w R (.inr (.inr hi)), fun w' hb => refSub_no n n a2 len2 cap2 l w' rfl hn (R.at hb) (by omega) hi⟩)
  have HKC : Hid ((∀ w, Calls Try.prog 36 #[.int .i64 (n : Int), .int .i64 k, .int .u64 (r : Int)] w fun e w' => e = .returned (.tuple #[.slice none 0 0, .int .i64 1]) ∧ w = w') ∧ (k < 0 ∨ ∃ y : Nat, k = y ∧ (n < y ∨ y ≤ n ∧ ∃ c : Nat, c ≤ r ∧ (∀ w, Calls Try.prog 28 #[.int .i64 (n : Int), .int .i64 (y : Int)] w fun e w' => e = .returned (.int .u64 (c : Int)) ∧ Below w.heap.size w w'))) ∨
    ∃ (y c : Nat) (q : List Int), k = y ∧ y ≤ n ∧ r < c ∧ q.length = y ∧ (∀ w, Calls Try.prog 28 #[.int .i64 (n : Int), .int .i64 (y : Int)] w fun e w' => e = .returned (.int .u64 (c : Int)) ∧ Below w.heap.size w w') ∧
      (∀ w, Calls Try.prog 36 #[.int .i64 (n : Int), .int .i64 (y : Int), .int .u64 (r : Int)] w fun e w' => ∃ xo xc, e = .returned (.tuple #[.slice xo y xc, .int .i64 0]) ∧ Ow 3 w.heap.size w w' (.slice xo y xc) (is q)) ∧
      (∀ ao cap w, Rd w (.slice ao y cap) (is q) → Calls Try.prog 34 #[.int .i64 (n : Int), .slice ao y cap] w fun e w' => e = .returned (.tuple #[.int .u64 (r : Int), .int .i64 0]) ∧ w = w')) := hid_of (by
    by_cases h0 : k < 0
    · exact .inl ⟨fun w => unrankSub_bad n k r w hk hk2 (.inr (.inr ⟨n, rfl, hn, by unfold chI; rw [if_pos h0]; omega⟩)), .inl h0⟩
    · obtain ⟨y, rfl⟩ := Int.eq_ofNat_of_zero_le (show 0 ≤ k by omega)
      by_cases h1 : n < y
      · exact .inl ⟨fun w => unrankSub_bad n y r w hk hk2 (.inr (.inr ⟨n, rfl, hn, by rw [chI_nat, chN_gt _ _ h1]; omega⟩)), .inr ⟨y, rfl, .inl h1⟩⟩
      · have hch := fun w => rch_val n n y (chN n y) w rfl hn (by omega) (by omega) (chI_nat _ _).symm
        by_cases h2 : r < chN n y
        · obtain ⟨i1, i2, i3⟩ := rs_unS n n 0 y r (by omega) (by rw [Nat.sub_zero]; exact h2)
          refine .inr ⟨y, chN n y, nI (unS n n 0 y r), rfl, by omega, h2, by rw [nI_length]; exact i2, hch, fun w => unrankSub_ok n y r n y w rfl rfl hn h2, fun ao cap w R => rankS_val n n ao y cap _ r w rfl hn R (incTo_mk i1) ?_⟩
          have := rsI_all n _ hn i1
          rw [i2, i3] at this
          exact this.symm
        · exact .inl ⟨fun w => unrankSub_bad n y r w hk hk2 (.inr (.inr ⟨n, rfl, hn, by rw [chI_nat]; omega⟩)), .inr ⟨y, rfl, .inr ⟨by omega, chN n y, by omega, hch⟩⟩⟩)
  have HLL : Hid (l.length ≤ 140737488355328) := hid_of (by omega)
  have hrc := HRC.out
  have hkc := HKC.out
  clear HRC HKC R hk hk2 hlen hr
  rcases hrc with ⟨rc1, rc2⟩ | ⟨x, c, p, hlp, hxc, rc1, rc2, rc3, rc4⟩ <;>
    rcases hkc with ⟨kc1, hk0 | ⟨y, rfl, hny | ⟨hyn, d, hdr, kc2⟩⟩⟩ | ⟨y, d, q, rfl, hyn, hrd, hql, kc2, kc1, kc3⟩
  all_goals
    have RC1 := hid_of rc1
    have RC2 := hid_of rc2
    have KC1 := hid_of kc1
    clear rc1 rc2 kc1
    (try (have KC2 := hid_of kc2; clear kc2))
    (try (have KC3 := hid_of kc3; have HQL := hid_of hql; clear kc3 hql))
    (try (have RC3 := hid_of rc3; have RC4 := hid_of rc4; clear rc3 rc4))
    (try (have g1 : decide (c ≤ x) = false := (by simp; omega); clear hxc hlp))
    (try (have g2 : decide (k < 0) = true := (by simp; omega); clear hk0))
    (try (have g3 : decide ((y : Int) < 0) = false := (by simp)))
    (try (have g4 : decide (n < y) = true := (by simp; omega); clear hny))
    (try (have HYN := hid_of hyn))
    (try (have g5 : decide (n < y) = false := (by simp; omega); clear hyn))
    (try (have g6 : decide (d ≤ r) = true := (by simp; omega); clear hdr))
    (try (have g7 : decide (d ≤ r) = false := (by simp; omega); clear hrd))
    go_enter Try.func12, Try.ntmps12
    go_wp2_with (first
      | (go_at_call 34; (first
        | ((with_reducible refine (RC1.out).mono ?_); (rintro e w' ⟨rfl, rfl⟩))
        | ((with_reducible refine (KC3.out xo6 xc6 w7 ((X6.out.rd (by rw [is_length, HQL.out]; have := HN.out; have := HYN.out; omega)).at h7k.out)).mono ?_); (rintro e w' ⟨rfl, rfl⟩))))
      | (go_at_call 35; ((with_reducible refine (RC2.out w (Below.refl _ _)).mono ?_); (rintro e w1 ⟨rfl, h1⟩; have B1 := hid_of h1; clear h1)))
      | (go_at_call 36; (first
        | ((with_reducible refine (RC3.out w1).mono ?_); (rintro e w2 ⟨xo2, xc2, rfl, h2⟩; have X2 := hid_of h2; have B2 := hid_of (step_b B1.out h2.bel HW.out); clear h2))
        | ((with_reducible refine (KC1.out w4).mono ?_); (first | (rintro e w' ⟨rfl, rfl⟩) | (rintro e w6 ⟨xo6, xc6, rfl, h6⟩; have X6 := hid_of h6; have B6 := hid_of (step_b B4.out h6.bel HW.out); clear h6)))
        | ((with_reducible refine (KC1.out w1).mono ?_); (first | (rintro e w' ⟨rfl, rfl⟩) | (rintro e w6 ⟨xo6, xc6, rfl, h6⟩; have X6 := hid_of h6; have B6 := hid_of (step_b B1.out h6.bel HW.out); clear h6)))))
      | (go_at_call 24; ((with_reducible refine (same_yes xo2 a2 len2 xc2 cap2 l w2 (X2.out.rd (by rw [is_length]; exact HLL.out)) (HR.out.at B2.out)).mono ?_); (rintro e w3 ⟨rfl, h3⟩; have B3 := hid_of (step_b B2.out h3 HW.out); clear h3)))
      | (go_at_call 28; (first
        | ((with_reducible refine (RC4.out w3).mono ?_); (rintro e w4 ⟨rfl, h4⟩; have B4 := hid_of (step_b B3.out h4 HW.out); clear h4))
        | ((with_reducible refine (KC2.out w6).mono ?_); (rintro e w7 ⟨rfl, h7⟩; have h7k := hid_of h7; have B7 := hid_of (step_b B6.out h7 HW.out); clear h7))
        | ((with_reducible refine (KC2.out w4).mono ?_); (rintro e w7 ⟨rfl, h7⟩; have B7 := hid_of (step_b B4.out h7 HW.out); clear h7))
        | ((with_reducible refine (KC2.out w1).mono ?_); (rintro e w7 ⟨rfl, h7⟩; have B7 := hid_of (step_b B1.out h7 HW.out); clear h7))))
      | (go_at_call 16; ((refine (awake_any _).mono ?_); (rintro e w8 ⟨rfl, h8⟩; have B8 := hid_of (show Below w.heap.size w w8 from (by first | exact step_b B7.out h8 HW.out | exact step_b B6.out h8 HW.out | exact step_b B5.out h8 HW.out | exact step_b B4.out h8 HW.out | exact step_b B3.out h8 HW.out | exact step_b B2.out h8 HW.out | exact step_b B1.out h8 HW.out)); clear h8))))
    go_ret
    exact ⟨rfl, B8.out⟩

theorem sub_law (a0 a1 : Int) (a2 : Option Addr) (len2 cap2 : Nat) (a3 : Int) (z2 : List Int) (w : World) (w0 : (Lit.int .i64 a0).wf = true) (w1 : (Lit.int .i64 a1).wf = true) (w2 : IsRow .i64 w a2 len2 cap2 z2) (w3 : (Lit.int .u64 a3).wf = true) :
    Calls Try.prog 12 #[.int .i64 a0, .int .i64 a1, .slice a2 len2 cap2, .int .u64 a3] w fun e w' => e = .returned (.bool true) ∧ Below w.heap.size w w' := by
  obtain ⟨l, e2, k2, r2⟩ := w2.rd
  obtain ⟨r, rfl, hr⟩ := u64_nat w3
  have hb := bounds_i64 w1
  by_cases hm : 100 < len2
  · exact sub_big a0 a1 a2 len2 cap2 r w hm
  · by_cases hz : a0 < 0 ∨ 60 < a0
    · exact sub_bad a0 a1 a2 len2 cap2 l r w hb.1 hb.2 r2 (by omega) hz
    · obtain ⟨n, rfl⟩ := Int.eq_ofNat_of_zero_le (show 0 ≤ a0 by omega)
      exact sub_good n a1 a2 len2 cap2 l r w hb.1 hb.2 r2 (by omega) (by omega) hr
end Go.Proofs.Ytpmajdgabpmooaa
