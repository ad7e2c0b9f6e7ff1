/- Texts in one: JrL7. -/
import Derived.Test.YtofmijebinnejaaMgOA
set_option linter.unusedVariables false
set_option linter.unusedSimpArgs false
/- The law Opens. Bounds on sizes alone. -/
namespace Go.Proofs.Ytofmijebinnejaa
open Go.RowKit
set_option maxRecDepth 100000
set_option maxHeartbeats 3200000

theorem wf_o64 {n : Int} (h : (Lit.int .i64 n).wf = true) : R64 n := by
  simpa [Lit.wf, IntKind.min, IntKind.max, IntKind.signed, IntKind.bits] using h
theorem CR.bel' {T : Nat → Prop} {w w' : World} {v : Value} {l : List Int} (h : CR T w v l) (hb : Below w.heap.size w w') : CR T w' v l := h.keep ⟨hb.size, fun k _ hl => hb.block k hl⟩
theorem CR.drew' {T : Nat → Prop} {w : World} {v : Value} {l : List Int} (h : CR T w v l) : CR T w.drew v l := h.keep ⟨Nat.le_refl _, fun _ _ _ => rfl⟩
theorem CR.part {T : Nat → Prop} {w : World} {g o n cap lo m : Nat} {D : List Int} {A : Option Addr} (h : CR T w (.slice (some ⟨g, o, none⟩) n cap) D) (hn : D.length = n) (h0 : 0 < n) (hm : lo + m ≤ n) (hA : lo < cap → A = some ⟨g, o + lo, none⟩) (hl : lo < cap) : CR T w (.slice A m (cap - lo)) ((D.drop lo).take m) := by
  refine ⟨bs_part h.1 hm hA, fun _ a k c e => ?_⟩
  rw [hA hl] at e
  cases e
  exact h.2 (by omega) ⟨g, o, none⟩ n cap rfl
theorem opens_law (y : Int) (a : Option Addr) (len cap : Nat) (zs : List Int) (f c : Int) (w : World) (w0 : (Lit.int .u8 y).wf = true) (w1 : IsRow .u8 w a len cap zs) (w2 : (Lit.int .i64 f).wf = true) (w3 : (Lit.int .i64 c).wf = true) :
    Calls Try.prog 5 #[.int .u8 y, .slice a len cap, .int .i64 f, .int .i64 c] w (BoP true w) := by
  obtain ⟨y, rfl, hy⟩ := lw_num w0
  have hf := wf_o64 w2
  have hc := wf_o64 w3
  clear w0 w2 w3
  have AW := hid_of (fun w => awake_any w)
  obtain ⟨l, hll, hwf, R⟩ := w1.rd
  have R : Rd w (.slice a len cap) (by8 l) := R
  have hbl : Byt l := fun x hx => wf_u8 (hwf x hx)
  clear w1 hwf
  by_cases h6 : 600 < len
  · have d0 : decide ((len : Int) > 600) = true := by simp; omega
    have d1 : decide (600 < len) = true := by simpa using h6
    clear R hbl hll
    go_enter Try.func5, Try.ntmps5
    go_wp2_with (go_at_call 12; ((with_reducible refine (AW.out _).mono ?_); (rintro e w1 ⟨rfl, h1⟩); (have E1 := hid_of h1); clear h1))
    go_ret
    exact ⟨rfl, E1.out⟩
  have d0 : decide ((len : Int) > 600) = false := by simp; omega
  have d1 : decide (600 < len) = false := by simpa using h6
  have CSH := hid_of (fun X => show Calls Try.prog 13 #[.int .u8 0, .int .u8 y] X (fun e w' => e = .returned (.tuple #[.int .i64 2, .int .i64 (16 + y % 40 : Nat)]) ∧ X = w') from shape_any 0 y (by omega) hy X)
  obtain ⟨z, hz⟩ : ∃ z, z = 16 + y % 40 := ⟨_, rfl⟩
  rw [← hz] at CSH
  have hz2 : 16 ≤ z ∧ z ≤ 55 := by omega
  obtain ⟨q, hq⟩ : ∃ q, q = len / z := ⟨_, rfl⟩
  have hq2 : q ≤ 600 := by rw [hq]; exact Nat.le_trans (Nat.div_le_self _ _) (by omega)
  have hlt0 : len < (q + 1) * z := by
    have h1 := Nat.div_add_mod len z
    have h2 := Nat.mod_lt len (show z > 0 by omega)
    rw [← hq] at h1
    rw [Nat.add_mul, Nat.one_mul, Nat.mul_comm q z]
    omega
  have hle0 : q * z ≤ len := by
    have h1 := Nat.div_add_mod len z
    rw [← hq] at h1
    rw [Nat.mul_comm q z]
    omega
  obtain ⟨n, hn⟩ : ∃ n, n = q + 1 := ⟨_, rfl⟩
  have hn2 : 1 ≤ n ∧ n ≤ 601 := by omega
  obtain ⟨nz, hnz⟩ : ∃ nz, nz = n * z := ⟨_, rfl⟩
  have hnz2 : len < nz ∧ nz ≤ 700 := by
    rw [hnz, hn]
    refine ⟨hlt0, ?_⟩
    rw [Nat.add_mul, Nat.one_mul]
    omega
  obtain ⟨k, hk⟩ : ∃ k, k = nz - len := ⟨_, rfl⟩
  have hk0 : 0 < k := by omega
  have zne : (z : Int) ≠ 0 := by omega
  have zne2 : ¬ (z : Int) = 0 := by omega
  have zne3 : z ≠ 0 := by omega
  have t0 : IntKind.i64.wrap ((len : Int).tdiv (z : Int)) = (q : Int) := by rw [Int.tdiv_eq_ediv_of_nonneg (by omega), ← Int.natCast_ediv, ← hq]; exact IntWalk.i64_in _ (by omega)
  have t0' : (len : Int).tdiv (z : Int) = (q : Int) := by rw [Int.tdiv_eq_ediv_of_nonneg (by omega), ← Int.natCast_ediv, ← hq]
  have t1 : IntKind.i64.wrap ((q : Int) + 1) = (n : Int) := by rw [show (q : Int) + 1 = (n : Int) by omega]; exact IntWalk.i64_in _ (by omega)
  have t1b : (q : Int) + 1 = (n : Int) := by omega
  have t2 : IntKind.i64.wrap ((n : Int) * (z : Int)) = (nz : Int) := by rw [← Int.natCast_mul, ← hnz]; exact IntWalk.i64_in _ (by omega)
  have t3 : IntKind.i64.wrap ((nz : Int) - (len : Int)) = (k : Int) := by rw [show (nz : Int) - (len : Int) = (k : Int) by omega]; exact IntWalk.i64_in _ (by omega)
  obtain ⟨D, hD⟩ : ∃ D, D = l ++ List.replicate k 0 := ⟨_, rfl⟩
  have hDl : D.length = n * z := by rw [hD, List.length_append, List.length_replicate, hll, ← hnz]; omega
  have hDb : Byt D := fun x hx => by
    rw [hD] at hx
    rcases List.mem_append.1 hx with h9 | h9
    · exact hbl x h9
    · rw [List.eq_of_mem_replicate h9]; exact ⟨by omega, by omega⟩
  obtain ⟨B, hB⟩ : ∃ B, B = w.heap.size := ⟨_, rfl⟩
  have CN := hid_of (show Calls Try.prog 14 #[.int .i64 n, .int .i64 z] w fun e w' => ∃ b, e = .returned (.tuple #[.pointer (some ⟨b, 0, none⟩), .int .i64 0]) ∧ DR B (fun k => k < B) w' b (mI n z D 0) ∧ Below B w w' from by rw [hB]; exact dr_new n z (by omega) (by omega) hz2.1 (by omega) w)
  have TN := hid_of (fun (X : World) (h : Below B w X) => show TR B (fun k => k < B) X from by have h9 := tr_new (w := w) (w' := X) (by have := h.size; omega); rwa [← hB] at h9)
  have HR := hid_of (fun (X : World) (h : Below B w X) => show Rd X (.slice a len cap) (by8 l) from by rw [hB] at h; exact R.at h)
  have HL : Hid (l.length = len ∧ len ≤ 600 ∧ 0 < k ∧ l.length + k ≤ 1000000 ∧ l ++ List.replicate k 0 = D ∧ l.length + k = nz ∧ D.length = nz ∧ D.length = n * z ∧ nz = n * z ∧ Byt D) := hid_of ⟨hll, by omega, hk0, by omega, hD.symm, by omega, by omega, hDl, hnz, hDb⟩
  have hcp := (rd_cut R).2
  rw [show BoP true w = fun e w' => e = .returned (.bool true) ∧ Below B w w' from by rw [hB]; rfl]
  clear R hll hbl hq hlt0 hle0 hz hD hDl hDb hk hk0 h6 hn hnz
  go_enter Try.func5, Try.ntmps5
  go_wp2_with (first
    | (go_at_call 13; ((with_reducible refine (CSH.out _).mono ?_); (rintro e w1 ⟨rfl, rfl⟩)))
    | (go_at_call 14; ((with_reducible refine (CN.out).mono ?_); (rintro e w1 ⟨b, rfl, q1, q2⟩)); have D1 := hid_of q1; have B1 := hid_of q2; have T1 := hid_of (TN.out w1 q2); clear q1 q2)
    | (at_builtin; (refine wpList_app u8E rfl _ _ rfl (v := .slice (some ⟨w1.heap.size, 0, none⟩) 0 0) (l := []) rfl (ow_empty 5 w1) (vx := .slice a len cap) (m := by8 l) rfl (HR.out _ (B1.out.trans ((bel_alloc w1 _).mono T1.out.hB))) (by8_cells l) (by have := HL.out; simp [by8_length]; omega) (by have := HL.out; simp [by8_length]; omega) ?_); intro xo2 n2 c2 w2 hn2' h2; have E2 : Hid (EO w1 w2 (.slice xo2 n2 c2) l) := hid_of h2; clear h2 hn2')
    | (at_builtin; (refine wpList_appz rfl _ _ rfl (v := .slice xo2 n2 c2) (L := l) rfl E2.out (k := k) rfl HL.out.2.2.1 HL.out.2.2.2.1 ?_); intro xo3 n3 c3 w3 hn3' h3; have E3 : Hid (EO w1 w3 (.slice xo3 n3 c3) D) := hid_of (by rw [← HL.out.2.2.2.2.1]; exact h3); have HN3 := hid_of hn3'; clear h3 hn3'))
  obtain rfl : nz = n3 := by have := HN3.out; have := HL.out; omega
  obtain ⟨g, o, rfl⟩ : ∃ g o, xo3 = some ⟨g, o, none⟩ := by
    obtain ⟨y1, hy1⟩ : ∃ y1, (by8 D)[0]? = some y1 := ⟨_, List.getElem?_eq_getElem (by rw [by8_length]; have := HL.out; omega)⟩
    obtain ⟨g, o, e, _⟩ := rd_at (E3.out.rdd (by have := HL.out; omega)) hy1
    exact ⟨g, o, e⟩
  have b3 := E3.out.bel
  have D3 := hid_of (D1.out.bel b3)
  have T3 := hid_of (T1.out.next b3.size)
  have K3 := hid_of ((cr_eo E3.out (by have := HL.out; omega)).mono (T := Tn (fun k => k < B) w1 w3) fun k hk => Or.inr hk)
  have B3 := hid_of (B1.out.trans (b3.mono T1.out.hB))
  have hc3 : nz ≤ c3 := (rd_cut K3.out.1).2.1
  have hc4 : c3 ≤ 9223372036854775807 := (rd_cut K3.out.1).2.2
  obtain ⟨TT, hTT⟩ : ∃ TT, TT = Tn (fun k => k < B) w1 w3 := ⟨_, rfl⟩
  rw [← hTT] at D3 T3 K3
  have CW := hid_of (fun (X : World) (i : Nat) (hi : i < n) (A : Option Addr) (cc : Nat) (h : DR B TT X b (mI n z D i)) (t : TR B TT X) (hin : CR TT X (.slice A z cc) (chk D z i)) => show Calls Try.prog 27 #[.pointer (some ⟨b, 0, none⟩), .int .i64 i, .slice A z cc] X (fun e w' => e = .returned (.int .i64 0) ∧ DR B TT w' b (mI n z D (i + 1)) ∧ Below B X w' ∧ Keeps TT X w') from by
    have h9 := h.write t i (by omega) (by show ((List.range i).map _).length < 1000000; rw [List.length_map, List.length_range]; omega) A z cc (chk D z i) hin
    rw [mI_write HL.out.2.2.2.2.2.2.2.1 hi] at h9
    exact h9)
  clear hTT b3
  go_loopw [14] (fun iv wr => ∃ i : Nat, i ≤ n ∧ iv = .int .i64 i ∧ Hid (DR B TT wr b (mI n z D i)) ∧ Hid (TR B TT wr) ∧ Hid (CR TT wr (.slice (some ⟨g, o, none⟩) nz c3) D) ∧ Hid (Below B w wr)) (fun iv _ => n - (intOf iv).toNat)
  case atStart => exact ⟨0, Nat.zero_le _, rfl, D3, T3, K3, B3⟩
  case round =>
    obtain ⟨i, hi, rfl, hd, ht, hk, hb⟩ := hrel
    by_cases hlt : i < n
    · have d1 : decide (i < n) = true := decide_eq_true hlt
      have hlt' : (i : Int) < (n : Int) := by omega
      obtain ⟨lo, hlo⟩ : ∃ lo, lo = i * z := ⟨_, rfl⟩
      have hfit : lo + z ≤ nz := by
        have h1 : (i + 1) * z ≤ n * z := Nat.mul_le_mul_right z hlt
        rw [Nat.add_mul, Nat.one_mul, ← hlo, ← HL.out.2.2.2.2.2.2.2.2.1] at h1
        exact h1
      obtain ⟨up, hup⟩ : ∃ h, h = lo + z := ⟨_, rfl⟩
      obtain ⟨A, SR, SA⟩ := lh_rule g o nz c3 lo up (by omega) (by omega)
      rw [show up - lo = z by omega] at SR
      have r1 : IntKind.i64.wrap ((i : Int) * (z : Int)) = (lo : Int) := by rw [← Int.natCast_mul, ← hlo]; exact IntWalk.i64_in _ (by omega)
      have r1b : (i : Int) * (z : Int) = (lo : Int) := by rw [← Int.natCast_mul, ← hlo]
      have r2 : IntKind.i64.wrap ((lo : Int) + (z : Int)) = (up : Int) := by rw [show (lo : Int) + (z : Int) = (up : Int) by omega]; exact IntWalk.i64_in _ (by omega)
      have r2b : (lo : Int) + (z : Int) = (up : Int) := by omega
      have CP := hid_of (CW.out wr i hlt A (c3 - lo) hd.out ht.out (by rw [chk, ← hlo]; exact CR.part hk.out HL.out.2.2.2.2.2.2.1 (by omega) hfit SA (by omega)))
      have HLT := hid_of hlt
      clear hlo hup SA
      go_wp2_with (first
        | (go_at_call 27; ((with_reducible refine (CP.out).mono ?_); (rintro e w4 ⟨rfl, q1, q2, q3⟩)); have D4 := hid_of q1; have B4 := hid_of (hb.out.trans q2); have T4 := hid_of (ht.out.same q3.1); have K4 := hid_of (hk.out.keep q3); clear q1 q2 q3))
      go_roundw
      case rel => exact ⟨i + 1, HLT.out, by go_num, D4, T4, K4, B4⟩
      case measure => have := HLT.out; simp [intOf]; omega
    · obtain rfl : n = i := by omega
      have d1 : decide (n < n) = false := by simp
      have CSY := hid_of (show Calls Try.prog 28 #[.pointer (some ⟨b, 0, none⟩)] wr (fun e w' => e = .returned (.int .i64 0) ∧ DR B TT w' b (mF n z D) ∧ Below B wr w' ∧ Keeps TT wr w') from by
        have h9 := hd.out.sync ht.out (by show ((List.range n).map _).length ≤ 1000000; rw [List.length_map, List.length_range]; omega)
        rw [mF_sync] at h9
        exact h9)
      by_cases hno : 2 ≤ c ∧ 0 ≤ f ∧ c ≤ (n : Int) - f
      case neg =>
        have CAR := hid_of (fun (X : World) (h : DR B TT X b (mF n z D)) => show Calls Try.prog 15 #[.pointer (some ⟨b, 0, none⟩), .int .i64 f, .int .i64 c] X (fun e w' => e = .returned (.tuple #[.pointer none, .int .i64 1]) ∧ Below X.heap.size X w') from h.arg f c hf hc (by rw [mF_len]; exact hno))
        have hf1 := hf.1
        have hf2 := hf.2
        rcases (show c < 2 ∨ (¬ c < 2 ∧ f < 0) ∨ (¬ c < 2 ∧ ¬ f < 0 ∧ (n : Int) ≤ f) ∨ (¬ c < 2 ∧ ¬ f < 0 ∧ ¬ (n : Int) ≤ f ∧ (n : Int) - f < c) from by omega) with h1 | ⟨h1, h2⟩ | ⟨h1, h2, h3⟩ | ⟨h1, h2, h3, h4⟩
        all_goals clear hno
        · skip
          have a1 : decide (c < 2) = true := by simp; omega
          go_wp2_with (first
            | (go_at_call 28; ((with_reducible refine (CSY.out).mono ?_); (rintro e w5 ⟨rfl, q1, q2, q3⟩)); have D5 := hid_of q1; have B5 := hid_of (hb.out.trans q2); have T5 := hid_of (ht.out.same q3.1); have K5 := hid_of (hk.out.keep q3); clear q1 q2 q3)
            | (go_at_call 15; ((with_reducible refine (CAR.out w5 D5.out).mono ?_); (rintro e w6 ⟨rfl, q2⟩)); have B6 := hid_of (B5.out.trans (q2.mono T5.out.hB)); have T6 := hid_of (T5.out.same q2.size); clear q2)
            | (go_at_call 12; ((with_reducible refine (AW.out w6).mono ?_); (rintro e w7 ⟨rfl, q2⟩)); have B7 := hid_of (B6.out.trans (q2.mono T6.out.hB)); clear q2))
          go_ret
          exact ⟨rfl, B7.out⟩
        · skip
          have a1 : decide (c < 2) = false := by simp; omega
          have a2 : decide (f < 0) = true := by simp; omega
          go_wp2_with (first
            | (go_at_call 28; ((with_reducible refine (CSY.out).mono ?_); (rintro e w5 ⟨rfl, q1, q2, q3⟩)); have D5 := hid_of q1; have B5 := hid_of (hb.out.trans q2); have T5 := hid_of (ht.out.same q3.1); have K5 := hid_of (hk.out.keep q3); clear q1 q2 q3)
            | (go_at_call 15; ((with_reducible refine (CAR.out w5 D5.out).mono ?_); (rintro e w6 ⟨rfl, q2⟩)); have B6 := hid_of (B5.out.trans (q2.mono T5.out.hB)); have T6 := hid_of (T5.out.same q2.size); clear q2)
            | (go_at_call 12; ((with_reducible refine (AW.out w6).mono ?_); (rintro e w7 ⟨rfl, q2⟩)); have B7 := hid_of (B6.out.trans (q2.mono T6.out.hB)); clear q2))
          go_ret
          exact ⟨rfl, B7.out⟩
        · skip
          have a1 : decide (c < 2) = false := by simp; omega
          have a2 : decide (f < 0) = false := by simp; omega
          have a3 : decide (f ≥ (n : Int)) = true := by simp; omega
          have a4 : decide ((n : Int) ≤ f) = true := by simp; omega
          go_wp2_with (first
            | (go_at_call 28; ((with_reducible refine (CSY.out).mono ?_); (rintro e w5 ⟨rfl, q1, q2, q3⟩)); have D5 := hid_of q1; have B5 := hid_of (hb.out.trans q2); have T5 := hid_of (ht.out.same q3.1); have K5 := hid_of (hk.out.keep q3); clear q1 q2 q3)
            | (go_at_call 15; ((with_reducible refine (CAR.out w5 D5.out).mono ?_); (rintro e w6 ⟨rfl, q2⟩)); have B6 := hid_of (B5.out.trans (q2.mono T5.out.hB)); have T6 := hid_of (T5.out.same q2.size); clear q2)
            | (go_at_call 12; ((with_reducible refine (AW.out w6).mono ?_); (rintro e w7 ⟨rfl, q2⟩)); have B7 := hid_of (B6.out.trans (q2.mono T6.out.hB)); clear q2))
          go_ret
          exact ⟨rfl, B7.out⟩
        · skip
          have a1 : decide (c < 2) = false := by simp; omega
          have a2 : decide (f < 0) = false := by simp; omega
          have a3 : decide (f ≥ (n : Int)) = false := by simp; omega
          have a4 : decide ((n : Int) ≤ f) = false := by simp; omega
          have r0 : IntKind.i64.wrap ((n : Int) - f) = (n : Int) - f := IntWalk.i64_in _ (by omega)
          have a5 : decide (c > (n : Int) - f) = true := by simp; omega
          have a6 : decide ((n : Int) - f < c) = true := by simp; omega
          go_wp2_with (first
            | (go_at_call 28; ((with_reducible refine (CSY.out).mono ?_); (rintro e w5 ⟨rfl, q1, q2, q3⟩)); have D5 := hid_of q1; have B5 := hid_of (hb.out.trans q2); have T5 := hid_of (ht.out.same q3.1); have K5 := hid_of (hk.out.keep q3); clear q1 q2 q3)
            | (go_at_call 15; ((with_reducible refine (CAR.out w5 D5.out).mono ?_); (rintro e w6 ⟨rfl, q2⟩)); have B6 := hid_of (B5.out.trans (q2.mono T5.out.hB)); have T6 := hid_of (T5.out.same q2.size); clear q2)
            | (go_at_call 12; ((with_reducible refine (AW.out w6).mono ?_); (rintro e w7 ⟨rfl, q2⟩)); have B7 := hid_of (B6.out.trans (q2.mono T6.out.hB)); clear q2))
          go_ret
          exact ⟨rfl, B7.out⟩
      case pos =>
        obtain ⟨h1, h2, h3⟩ := hno
        obtain ⟨fn, rfl⟩ : ∃ k : Nat, f = k := ⟨f.toNat, by omega⟩
        obtain ⟨cn, rfl⟩ : ∃ k : Nat, c = k := ⟨c.toNat, by omega⟩
        have hreg : fn + cn ≤ n ∧ 2 ≤ cn := by omega
        have a1 : decide ((cn : Int) < 2) = false := by simp; omega
        have a2 : decide ((fn : Int) < 0) = false := decide_eq_false (by omega)
        have a3 : decide ((fn : Int) ≥ (n : Int)) = false := by simp; omega
        have a4 : decide ((n : Int) ≤ (fn : Int)) = false := by simp; omega
        have a5 : decide (n ≤ fn) = false := by simp; omega
        have a6 : decide (cn < 2) = false := by simp; omega
        have r0 : IntKind.i64.wrap ((n : Int) - (fn : Int)) = (n : Int) - (fn : Int) := IntWalk.i64_in _ (by omega)
        have a7 : decide ((cn : Int) > (n : Int) - (fn : Int)) = false := by simp; omega
        have a8 : decide ((n : Int) - (fn : Int) < (cn : Int)) = false := by simp; omega
        obtain ⟨lo, hlo⟩ : ∃ lo, lo = fn * z := ⟨_, rfl⟩
        obtain ⟨cz, hcz⟩ : ∃ cz, cz = cn * z := ⟨_, rfl⟩
        obtain ⟨am, ham⟩ : ∃ am, am = (cn - 1) * z := ⟨_, rfl⟩
        obtain ⟨up, hup⟩ : ∃ h, h = lo + z := ⟨_, rfl⟩
        obtain ⟨top, htop⟩ : ∃ h, h = lo + cz := ⟨_, rfl⟩
        have hfit : lo + cz ≤ nz := by
          have h9 : (fn + cn) * z ≤ n * z := Nat.mul_le_mul_right z hreg.1
          rw [Nat.add_mul, ← hlo, ← hcz, ← HL.out.2.2.2.2.2.2.2.2.1] at h9
          exact h9
        have hac : am + z = cz := by rw [ham, hcz]; conv => rhs; rw [show cn = (cn - 1) + 1 by omega, Nat.add_mul, Nat.one_mul]
        have ham2 : 16 ≤ am := by
          have h9 : 1 * z ≤ (cn - 1) * z := Nat.mul_le_mul_right z (by omega)
          omega
        have hup2 : (fn + 1) * z = up := by rw [Nat.add_mul, Nat.one_mul, ← hlo, hup]
        obtain ⟨A1, SR1, SA1⟩ := lh_rule g o nz c3 lo up (by omega) (by omega)
        obtain ⟨A2, SR2, SA2⟩ := lh_rule g o nz c3 up top (by omega) (by omega)
        rw [show up - lo = z by omega] at SR1
        rw [show top - up = am by omega] at SR2
        have r1 : IntKind.i64.wrap ((fn : Int) * (z : Int)) = (lo : Int) := by rw [← Int.natCast_mul, ← hlo]; exact IntWalk.i64_in _ (by omega)
        have r1b : (fn : Int) * (z : Int) = (lo : Int) := by rw [← Int.natCast_mul, ← hlo]
        have r2 : IntKind.i64.wrap ((lo : Int) + (z : Int)) = (up : Int) := by rw [show (lo : Int) + (z : Int) = (up : Int) by omega]; exact IntWalk.i64_in _ (by omega)
        have r2b : (lo : Int) + (z : Int) = (up : Int) := by omega
        have r3 : IntKind.i64.wrap ((cn : Int) * (z : Int)) = (cz : Int) := by rw [← Int.natCast_mul, ← hcz]; exact IntWalk.i64_in _ (by omega)
        have r3b : (cn : Int) * (z : Int) = (cz : Int) := by rw [← Int.natCast_mul, ← hcz]
        have r4 : IntKind.i64.wrap ((lo : Int) + (cz : Int)) = (top : Int) := by rw [show (lo : Int) + (cz : Int) = (top : Int) by omega]; exact IntWalk.i64_in _ (by omega)
        have r4b : (lo : Int) + (cz : Int) = (top : Int) := by omega
        have v1 : IntKind.i64.wrap (lo : Int) = (lo : Int) := IntWalk.i64_in _ (by omega)
        have v2 : IntKind.i64.wrap (up : Int) = (up : Int) := IntWalk.i64_in _ (by omega)
        have v3 : IntKind.i64.wrap (cz : Int) = (cz : Int) := IntWalk.i64_in _ (by omega)
        have v4 : IntKind.i64.wrap (top : Int) = (top : Int) := IntWalk.i64_in _ (by omega)
        have CH := hid_of (fun (X : World) (h : CR TT X (.slice (some ⟨g, o, none⟩) nz c3) D) => show Calls Try.prog 25 #[.slice A1 z (c3 - lo), .slice A2 am (c3 - up)] X (HoP (chk D z fn) ((D.drop up).take am) X) from
          rholds_any (chk D z fn) ((D.drop up).take am) A1 z (c3 - lo) A2 am (c3 - up) X (by rw [chk, ← hlo]; exact (CR.part h HL.out.2.2.2.2.2.2.1 (by omega) (by omega) SA1 (by omega)).1) ((CR.part h HL.out.2.2.2.2.2.2.1 (by omega) (by omega) SA2 (by omega)).1) (chk_byt HL.out.2.2.2.2.2.2.2.2.2) (fun x hx => HL.out.2.2.2.2.2.2.2.2.2 x (List.mem_of_mem_drop (List.mem_of_mem_take hx))) (by rw [chk_len HL.out.2.2.2.2.2.2.2.1 (show fn < n by omega)]; omega) (by rw [List.length_take, List.length_drop]; have := HL.out.2.2.2.2.2.2.1; omega) (by rw [List.length_take, List.length_drop]; have := HL.out.2.2.2.2.2.2.1; omega))
        have HHD : Hid (holdsD (mF n z D) fn cn = holdsF (chk D z fn) ((D.drop up).take am)) := hid_of (by rw [mF_holds hreg, hup2, ← ham])
        have HRG := hid_of hreg
        have HZ := hid_of hz2.1
        cases hy : holdsF (chk D z fn) ((D.drop up).take am) with
        | none =>
          have CO := hid_of (fun (X : World) (h : DR B TT X b (mF n z D)) => show Calls Try.prog 15 #[.pointer (some ⟨b, 0, none⟩), .int .i64 fn, .int .i64 cn] X (fun e w' => e = .returned (.tuple #[.pointer none, .int .i64 12]) ∧ Below X.heap.size X w') from
            h.none (by rw [mF_len]; exact HRG.out) HZ.out (mF_rng HL.out.2.2.2.2.2.2.2.2.2) rfl rfl (by rw [HHD.out, hy]))
          have CH2 := hid_of (fun (X : World) (h : CR TT X (.slice (some ⟨g, o, none⟩) nz c3) D) => show Calls Try.prog 25 #[.slice A1 z (c3 - lo), .slice A2 am (c3 - up)] X (fun e w' => e = .returned (.tuple #[.slice none 0 0, .bool false]) ∧ Below X.heap.size X w') from (CH.out X h).mono fun e w' q => by
            rcases q with ⟨R, x, m, cc, e1, _⟩ | ⟨_, e2, e3⟩
            · rw [hy] at e1; cases e1
            · exact ⟨e2, e3⟩)
          have CCH := hid_of (fun (T : Nat → Prop) (X : World) (h : DR B T X b (mF n z D)) => show Calls Try.prog 26 #[.pointer (some ⟨b, 0, none⟩)] X (fun e w' => e = .returned (.int .i64 0) ∧ Below X.heap.size X w') from h.cached)
          clear CH hy hlo hcz ham hup htop hac hup2 SA1 SA2
          go_wp2_with (first
            | (go_at_call 28; ((with_reducible refine (CSY.out).mono ?_); (rintro e w5 ⟨rfl, q1, q2, q3⟩)); have D5 := hid_of q1; have B5 := hid_of (hb.out.trans q2); have T5 := hid_of (ht.out.same q3.1); have K5 := hid_of (hk.out.keep q3); clear q1 q2 q3)
            | (go_at_call 15; ((with_reducible refine (CO.out w5 D5.out).mono ?_); (rintro e w6 ⟨rfl, q2⟩)); have D6 := hid_of (D5.out.bel q2); have B6 := hid_of (B5.out.trans (q2.mono T5.out.hB)); have T6 := hid_of (T5.out.next q2.size); have K6 := hid_of (CR.drew' (K5.out.bel' q2)); clear q2))
          (go_region_with (first
            | (go_at_call 25; ((with_reducible refine (CH2.out w6.drew K6.out).mono ?_); (rintro e w7 ⟨rfl, q1⟩)); have q2 := undrew q1; have D7 := hid_of (D6.out.bel q2); have B7 := hid_of (B6.out.trans (q2.mono T6.out.hB)); have T7 := hid_of (T6.out.next q2.size); clear q1 q2)))
          all_goals go_wp2_with (first
            | (go_at_call 26; ((with_reducible refine (CCH.out _ w7 D7.out).mono ?_); (rintro e w8 ⟨rfl, q2⟩)); have B8 := hid_of (B7.out.trans (q2.mono T7.out.hB)); have T8 := hid_of (T7.out.same q2.size); clear q2)
            | (go_at_call 12; ((with_reducible refine (AW.out w8).mono ?_); (rintro e w9 ⟨rfl, q2⟩)); have B9 := hid_of (B8.out.trans (q2.mono T8.out.hB)); clear q2))
          all_goals go_ret
          all_goals exact ⟨rfl, B9.out⟩
        | some R =>
          have CO := hid_of (fun (X : World) (h : DR B TT X b (mF n z D)) (t : TR B TT X) => show Calls Try.prog 15 #[.pointer (some ⟨b, 0, none⟩), .int .i64 fn, .int .i64 cn] X (fun e w' => ∃ jb, e = .returned (.tuple #[.pointer (some ⟨jb, 0, none⟩), .int .i64 0]) ∧ JR B TT w' jb b (mF n z D) fn cn R true ∧ Below X.heap.size X w') from
            h.opened t (by rw [mF_len]; exact HRG.out) HZ.out (mF_rng HL.out.2.2.2.2.2.2.2.2.2) rfl rfl (by rw [HHD.out, hy]))
          have CH2 := hid_of (fun (T : Nat → Prop) (X : World) (h : CR TT X (.slice (some ⟨g, o, none⟩) nz c3) D) => show Calls Try.prog 25 #[.slice A1 z (c3 - lo), .slice A2 am (c3 - up)] X (fun e w' => ∃ x m cc, e = .returned (.tuple #[.slice x m cc, .bool true]) ∧ RB (fun k => X.heap.size ≤ k) w' (.slice x m cc) R ∧ Below X.heap.size X w') from (CH.out X h).mono fun e w' q => by
            rcases q with ⟨R', x, m, cc, e1, e2, e3, e4⟩ | ⟨e1, _⟩
            · rw [hy] at e1; cases e1; exact ⟨x, m, cc, e2, e3, e4⟩
            · rw [hy] at e1; cases e1)
          have CCH := hid_of (fun (T : Nat → Prop) (X : World) (jb : Nat) (h : JR B T X jb b (mF n z D) fn cn R true) => show Calls Try.prog 26 #[.pointer (some ⟨b, 0, none⟩)] X (fun e w' => e = .returned (.int .i64 0) ∧ Below X.heap.size X w') from h.disk.cached)
          have CRC := hid_of (fun (T : Nat → Prop) (X : World) (jb : Nat) (h : JR B T X jb b (mF n z D) fn cn R true) (t : TR B T X) => h.records t)
          have CSM := hid_of (fun (S1 S2 : Nat → Prop) (a1 : Option Addr) (n1 c1 : Nat) (a2 : Option Addr) (n2 c2 : Nat) (X : World) (h1 : RB S1 X (.slice a1 n1 c1) R) (h2 : RB S2 X (.slice a2 n2 c2) R) => show Calls Try.prog 18 #[.slice a1 n1 c1, .slice a2 n2 c2] X (fun e w' => e = .returned (.bool true) ∧ Below X.heap.size X w') from (same_any S1 S2 R R a1 n1 c1 a2 n2 c2 X h1 h2).mono fun e w' ⟨x, q1, q2, q3⟩ => ⟨by rw [q1, q2 rfl], q3⟩)
          clear CH hy hlo hcz ham hup htop hac hup2 SA1 SA2
          go_wp2_with (first
            | (go_at_call 28; ((with_reducible refine (CSY.out).mono ?_); (rintro e w5 ⟨rfl, q1, q2, q3⟩)); have D5 := hid_of q1; have B5 := hid_of (hb.out.trans q2); have T5 := hid_of (ht.out.same q3.1); have K5 := hid_of (hk.out.keep q3); clear q1 q2 q3)
            | (go_at_call 15; ((with_reducible refine (CO.out w5 D5.out T5.out).mono ?_); (rintro e w6 ⟨jb, rfl, q1, q2⟩)); have J6 := hid_of q1; have B6 := hid_of (B5.out.trans (q2.mono T5.out.hB)); have T6 := hid_of (T5.out.same q2.size); have K6 := hid_of (CR.drew' (K5.out.bel' q2)); clear q1 q2))
          (go_region_with (first
            | (go_at_call 25; ((with_reducible refine (CH2.out TT w6.drew K6.out).mono ?_); (rintro e w7 ⟨ho, hn', hc', rfl, q1, q3⟩)); have q2 := undrew q3; have L7 : Hid (RB (Tn TT w6 w7) w7 (.slice ho hn' hc') R) := hid_of (RB.new (X := w6) q1); have J7 := hid_of (J6.out.bel q2); have B7 := hid_of (B6.out.trans (q2.mono T6.out.hB)); have T7 := hid_of (T6.out.next q2.size); clear q1 q2 q3)))
          all_goals go_wp2_with (first
            | (go_at_call 26; ((with_reducible refine (CCH.out _ w7 jb J7.out).mono ?_); (rintro e w8 ⟨rfl, q2⟩)); have J8 := hid_of (J7.out.bel0 T7.out q2); have L8 := hid_of (L7.out.bel q2); have B8 := hid_of (B7.out.trans (q2.mono T7.out.hB)); have T8 := hid_of (T7.out.same q2.size); clear q2)
            | (go_at_call 12; ((with_reducible refine (AW.out w8).mono ?_); (rintro e w9 ⟨rfl, q2⟩)); have J9 := hid_of (J8.out.bel0 T8.out q2); have L9 := hid_of (L8.out.bel q2); have B9 := hid_of (B8.out.trans (q2.mono T8.out.hB)); have T9 := hid_of (T8.out.same q2.size); clear q2)
            | (go_at_call 19; ((with_reducible refine (CRC.out _ w9 jb J9.out T9.out).mono ?_); (rintro e wA ⟨ro, rn, rc, rfl, q1, q2⟩)); have QA := hid_of q1; have LA := hid_of (L9.out.bel q2); have BA := hid_of (B9.out.trans (q2.mono T9.out.hB)); have TA := hid_of (T9.out.same q2.size); clear q1 q2)
            | (go_at_call 18; ((with_reducible refine (CSM.out _ _ ro rn rc ho hn' hc' wA QA.out LA.out).mono ?_); (rintro e wB ⟨rfl, q2⟩)); have BB := hid_of (BA.out.trans (q2.mono TA.out.hB)); clear q2))
          all_goals go_ret
          all_goals exact ⟨rfl, BB.out⟩
end Go.Proofs.Ytofmijebinnejaa
