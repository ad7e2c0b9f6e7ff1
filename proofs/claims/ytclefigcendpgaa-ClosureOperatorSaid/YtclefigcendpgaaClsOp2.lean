/- ClosureOperator: the sets have closures. Bounds on sizes alone. -/
import Derived.Test.YtclefigcendpgaaClsOp
namespace Go.Proofs.Ytclefigcendpgaa
open Go.RowKit

theorem ow_rd {E : TypeId} {B : Nat} {w0 w : World} {v : Value} {l : List Value} (h : Ow E B w0 w v l) : Rd w v l := own_rd h.own
set_option maxRecDepth 100000 in
set_option maxHeartbeats 1600000 in
theorem op_main (uo : Option Addr) (un uc : Nat) (U : List Str) (ro : Option Addr) (rn rc : Nat) (rs : List Gr) (a0 : Option Addr) (n0 c0 : Nat) (s0 : List Str) (a1 : Option Addr) (n1 c1 : Nat) (s1 : List Str) (w : World) (hU : Rd w (.slice uo un uc) (ss U)) (hz : ∀ y ∈ U, y.length ≤ 9223372036854775807) (hR : RuR w (.slice ro rn rc) rs) (h0 : Rd w (.slice a0 n0 c0) (ss s0)) (h1 : Rd w (.slice a1 n1 c1) (ss s1)) (hh : hvB U rs = false) (hl0 : ¬ 41 < n0) (hl1 : ¬ 41 < n1) (hc : chkE U rs = 0) (hq0 : cwsE U rs s0 = 0) (hq1 : cwsE U rs s1 = 0) :
    Calls Try.prog 4 #[.slice uo un uc, .slice ro rn rc, .agg #[.slice a0 n0 c0, .slice a1 n1 c1]] w fun e w' => e = .returned (.bool true) ∧ Below w.heap.size w w' := by
  obtain ⟨wb, hwb⟩ : ∃ wb, wb = (w.alloc (.cells #[.slice a0 n0 c0, .slice a1 n1 c1] 37)) := ⟨_, rfl⟩
  have B0 : Below w.heap.size w wb := by rw [hwb]; exact bel_alloc w _
  have hbx : wb.heap[w.heap.size]? = some (.cells #[.slice a0 n0 c0, .slice a1 n1 c1] 37 (0, 0)) := by rw [hwb]; exact heap_alloc_new w _
  have CB : Hid (∀ W, Below wb.heap.size wb W → W.cell? ⟨w.heap.size, 0, none⟩ = some (.slice a0 n0 c0) ∧ W.cell? ⟨w.heap.size, 1, none⟩ = some (.slice a1 n1 c1)) := hid_of (fun W hb => by
    have e := (hb.block _ (lt_of_block hbx)).trans hbx
    exact ⟨blk_cell (cs := [.slice a0 n0 c0, .slice a1 n1 c1]) e (j := 0) rfl, blk_cell (cs := [.slice a0 n0 c0, .slice a1 n1 c1]) e (j := 1) rfl⟩)
  have AW : Hid (Calls Try.prog 15 #[] wb fun e w' => e = .returned (.bool true) ∧ Below wb.heap.size wb w') := hid_of (awake_any wb)
  obtain ⟨hv, ehv⟩ : ∃ hv, hv = hvB U rs := ⟨_, rfl⟩
  have HV : Hid (∀ W, Below wb.heap.size wb W → Calls Try.prog 16 #[.slice uo un uc, .slice ro rn rc] W fun e w' => e = .returned (.bool hv) ∧ W = w') := hid_of (fun W hb => by rw [ehv]; exact heavy_any uo un uc U ro rn rc rs W ((hU.at B0).at hb) ((hR.at B0).at hb))
  have HB0 := hid_of B0
  have hn0 : n0 ≤ 9223372036854775807 := by have := (rds_open h0).2; omega
  have hn1 : n1 ≤ 9223372036854775807 := by have := (rds_open h1).2; omega
  obtain ⟨e1, e2, e3⟩ := hvB_no hh
  have hul := (rds_open hU).1
  have hrl := hR.len.1
  have IU : InU wb uo un uc U ro rn rc rs := ⟨hU.at B0, hR.at B0, hz, by omega, by omega, fun r hr => by have := e3 r hr; omega⟩
  rw [hh] at ehv
  subst ehv
  have HK : Hid (∀ W, Below wb.heap.size wb W → Calls Try.prog 18 #[.slice uo un uc, .slice ro rn rc] W fun e w' => e = .returned (.int .i64 0) ∧ Below wb.heap.size wb w') := hid_of (fun W hb => by
    have := check_any uo un uc U ro rn rc rs W (IU.at hb)
    rw [hc] at this
    exact this.mono fun e w' ⟨h1, h2⟩ => ⟨h1, hb.trans (h2.mono hb.size)⟩)
  have ga_0 : decide ((41 : Int) < (n0 : Int)) = false := by simp; omega
  have ga_1 : decide (41 < n0) = false := by simp; omega
  have ga_2 : decide ((n0 : Int) > 41) = false := by simp; omega
  have gb_0 : decide ((41 : Int) < (n1 : Int)) = false := by simp; omega
  have gb_1 : decide (41 < n1) = false := by simp; omega
  have gb_2 : decide ((n1 : Int) > 41) = false := by simp; omega
  obtain ⟨m, hm⟩ : ∃ m, m = (clF U rs s0).length := ⟨_, rfl⟩
  obtain ⟨m1, hm1⟩ : ∃ m, m = (clF U rs s1).length := ⟨_, rfl⟩
  have lm : m ≤ 40 := by have := clF_len (U := U) (rs := rs) (s := s0); omega
  have lm1 : m1 ≤ 40 := by have := clF_len (U := U) (rs := rs) (s := s1); omega
  have C0 : Hid (∀ W, Below wb.heap.size wb W → Calls Try.prog 20 #[.slice uo un uc, .slice ro rn rc, .slice a0 n0 c0] W fun e w' => ∃ ao cap, e = .returned (.tuple #[.slice ao m cap, .int .i64 0]) ∧ Rd w' (.slice ao m cap) (ss (clF U rs s0)) ∧ Below wb.heap.size wb w') := hid_of (fun W hb => by rw [hm]; exact (close_good (IU.at hb) ((h0.at B0).at hb) (by omega) hq0).mono fun e w' ⟨x, y, h1, h2, h3⟩ => ⟨x, y, h1, h2, hb.trans (h3.mono hb.size)⟩)
  have C1 : Hid (∀ W, Below wb.heap.size wb W → Calls Try.prog 20 #[.slice uo un uc, .slice ro rn rc, .slice a1 n1 c1] W fun e w' => ∃ ao cap, e = .returned (.tuple #[.slice ao m1 cap, .int .i64 0]) ∧ Rd w' (.slice ao m1 cap) (ss (clF U rs s1)) ∧ Below W.heap.size W w' ∧ Below wb.heap.size wb w') := hid_of (fun W hb => by rw [hm1]; exact (close_good (IU.at hb) ((h1.at B0).at hb) (by omega) hq1).mono fun e w' ⟨x, y, h1, h2, h3⟩ => ⟨x, y, h1, h2, h3, hb.trans (h3.mono hb.size)⟩)
  have C2 : Hid (∀ W ao cap, Below wb.heap.size wb W → Rd W (.slice ao m cap) (ss (clF U rs s0)) → Calls Try.prog 20 #[.slice uo un uc, .slice ro rn rc, .slice ao m cap] W fun e w' => ∃ xo xc, e = .returned (.tuple #[.slice xo m xc, .int .i64 0]) ∧ Rd w' (.slice xo m xc) (ss (clF U rs s0)) ∧ Below W.heap.size W w' ∧ Below wb.heap.size wb w') := hid_of (fun W ao cap hb hr => by
    have := close_good (IU.at hb) hr (by omega) (cws_clF hq0)
    rw [clF_self (cws_clF hq0) (clF_cld hq0), ← hm] at this
    exact this.mono fun e w' ⟨x, y, h1, h2, h3⟩ => ⟨x, y, h1, h2, h3, hb.trans (h3.mono hb.size)⟩)
  have CL : Hid (∀ W ao n cap l, Below wb.heap.size wb W → n ≤ 1000 → Rd W (.slice ao n cap) (ss l) → cwsE U rs l = 0 → clsB rs l = true → Calls Try.prog 21 #[.slice uo un uc, .slice ro rn rc, .slice ao n cap] W fun e w' => e = .returned (.tuple #[.bool true, .int .i64 0]) ∧ Below W.heap.size W w' ∧ Below wb.heap.size wb w') := hid_of (fun W ao n cap l hb hn hr hq hc2 => by
    have := closed_any uo un uc U ro rn rc rs ao n cap l W (IU.at hb) hr (by omega) hq
    rw [hc2] at this
    exact this.mono fun e w' ⟨h1, h2⟩ => ⟨h1, h2, hb.trans (h2.mono hb.size)⟩)
  have SM : Hid (∀ W ao cap bo cb l, Below wb.heap.size wb W → Rd W (.slice ao m cap) (ss l) → Rd W (.slice bo m cb) (ss l) → Calls Try.prog 22 #[.slice ao m cap, .slice bo m cb] W fun e w' => e = .returned (.bool true) ∧ Below W.heap.size W w' ∧ Below wb.heap.size wb w') := hid_of (fun W ao cap bo cb l hb r1 r2 => by
    have := rsame_any ao m cap bo m cb l l W r1 r2
    rw [decide_eq_true rfl] at this
    exact this.mono fun e w' ⟨h1, h2⟩ => ⟨h1, h2, hb.trans (h2.mono hb.size)⟩)
  have S0 : Hid (∀ W ao cap, Below wb.heap.size wb W → Rd W (.slice ao m cap) (ss (clF U rs s0)) → Calls Try.prog 25 #[.slice a0 n0 c0, .slice ao m cap] W fun e w' => e = .returned (.bool true) ∧ W = w') := hid_of (fun W ao cap hb hr => by
    have := rsub_any a0 n0 c0 s0 ao m cap _ W ((h0.at B0).at hb) hr
    rw [clF_in hq0] at this; exact this)
  obtain ⟨sb, hsb⟩ : ∃ sb, sb = subB s0 s1 := ⟨_, rfl⟩
  have S1 : Hid (∀ W, Below wb.heap.size wb W → Calls Try.prog 25 #[.slice a0 n0 c0, .slice a1 n1 c1] W fun e w' => e = .returned (.bool sb) ∧ W = w') := hid_of (fun W hb => by rw [hsb]; exact rsub_any a0 n0 c0 s0 a1 n1 c1 s1 W ((h0.at B0).at hb) ((h1.at B0).at hb))
  have S2 : Hid (sb = true → ∀ W ao cap bo cb, Rd W (.slice ao m cap) (ss (clF U rs s0)) → Rd W (.slice bo m1 cb) (ss (clF U rs s1)) → Calls Try.prog 25 #[.slice ao m cap, .slice bo m1 cb] W fun e w' => e = .returned (.bool true) ∧ W = w') := hid_of (fun hs W ao cap bo cb r1 r2 => by
    have := rsub_any ao m cap _ bo m1 cb _ W r1 r2
    rw [clF_mono hq0 hq1 (by rw [← hsb]; exact hs)] at this; exact this)
  obtain ⟨A, hA⟩ : ∃ A, A = clF U rs s0 := ⟨_, rfl⟩
  obtain ⟨D, hD⟩ : ∃ D, D = clF U rs s1 := ⟨_, rfl⟩
  have QA : Hid (cwsE U rs A = 0 ∧ clsB rs A = true ∧ cwsE U rs (meetS A D) = 0 ∧ clsB rs (meetS A D) = true ∧ m = A.length) := hid_of (by
    rw [hA, hD]
    exact ⟨cws_clF hq0, clF_cld hq0, cws_meet (cws_clF hq0), cld_meet (clF_cld hq0) (clF_cld hq1), hm⟩)
  rw [← hA] at C0 C2 S0 S2
  rw [← hD] at C1 S2
  have HAS : Hid (∀ W bo cb bx x, Rd W (.slice bo m1 cb) (ss D) → bx = ba x → Calls Try.prog 26 #[.slice bo m1 cb, .string bx] W fun e w' => e = .returned (.bool (decide (x ∈ D))) ∧ W = w') := hid_of (fun W bo cb bx x hr e => by rw [e]; exact rhas_any bo m1 cb D x W hr)
  have GA : Hid (∀ W ao cap k, Rd W (.slice ao m cap) (ss A) → k < m → ∃ g o x, ao = some ⟨g, o, none⟩ ∧ A[k]? = some x ∧ W.cell? ⟨g, o + k, none⟩ = some (.string (ba x))) := hid_of (fun W ao cap k hr hk => by
    obtain ⟨e, _, _, q⟩ := rds_open hr
    obtain ⟨x, hx⟩ : ∃ x, A[k]? = some x := ⟨_, List.getElem?_eq_getElem (by omega)⟩
    rcases q with q | ⟨g, o, e2, _, q2⟩
    · rw [q] at hx; simp at hx
    · exact ⟨g, o, x, e2, hx, q2 k x hx⟩)
  clear hU hz hR h0 h1 hh B0 hbx hl1 hl0 IU e1 e2 e3 hul hrl hc hq0 hq1 hm hm1 hsb hA hD
  subst hwb
  cases sb with
  | true =>
    replace S2 := hid_of (S2.out rfl)
    go_enter Try.func4, Try.ntmps4
    go_wp2_with (first
      | (go_at_call 15; ((with_reducible refine (AW.out).mono ?_); (rintro ee w1 ⟨rfl, q1⟩)); have B1 := hid_of q1; obtain ⟨k10, k11⟩ := CB.out w1 q1; clear q1)
      | (go_at_call 16; ((with_reducible refine (HV.out w1 B1.out).mono ?_); (rintro ee w' ⟨rfl, rfl⟩)))
      | (go_at_call 18; ((with_reducible refine (HK.out w1 B1.out).mono ?_); (rintro ee w2 ⟨rfl, q1⟩)); have B2 := hid_of q1; obtain ⟨k20, k21⟩ := CB.out w2 q1; clear q1)
      | (go_at_call 20; ((with_reducible refine (C0.out w2 B2.out).mono ?_); (rintro ee w3 ⟨ao, ac, rfl, q0, q1⟩)); have RA3 := hid_of q0; have B3 := hid_of q1; obtain ⟨k30, k31⟩ := CB.out w3 q1; clear q0 q1)
      | (go_at_call 20; ((with_reducible refine (C1.out w3 B3.out).mono ?_); (rintro ee w4 ⟨bo, bc, rfl, q0, q1, q2⟩)); have RB4 := hid_of q0; have RA4 := hid_of (RA3.out.at q1); have B4 := hid_of q2; obtain ⟨k40, k41⟩ := CB.out w4 q2; clear q0 q1 q2)
      | (go_at_call 20; ((with_reducible refine (C2.out w4 ao ac B4.out RA4.out).mono ?_); (rintro ee w5 ⟨xo, xc, rfl, q0, q1, q2⟩)); have RX5 := hid_of q0; have RA5 := hid_of (RA4.out.at q1); have RB5 := hid_of (RB4.out.at q1); have B5 := hid_of q2; obtain ⟨k50, k51⟩ := CB.out w5 q2; clear q0 q1 q2)
      | (go_at_call 21; ((with_reducible refine (CL.out w5 ao m ac A B5.out (by omega) RA5.out QA.out.1 QA.out.2.1).mono ?_); (rintro ee w6 ⟨rfl, q1, q2⟩)); have RX6 := hid_of (RX5.out.at q1); have RA6 := hid_of (RA5.out.at q1); have RB6 := hid_of (RB5.out.at q1); have B6 := hid_of q2; obtain ⟨k60, k61⟩ := CB.out w6 q2; clear q1 q2)
      | (go_at_call 22; ((with_reducible refine (SM.out w6 xo xc ao ac A B6.out RX6.out RA6.out).mono ?_); (rintro ee w7 ⟨rfl, q1, q2⟩)); have RA7 := hid_of (RA6.out.at q1); have RB7 := hid_of (RB6.out.at q1); have B7 := hid_of q2; obtain ⟨k70, k71⟩ := CB.out w7 q2; clear q1 q2)
      | (go_at_call 25; ((with_reducible refine (S0.out w7 ao ac B7.out RA7.out).mono ?_); (rintro ee w' ⟨rfl, rfl⟩)))
      | (go_at_call 25; ((with_reducible refine (S1.out w7 B7.out).mono ?_); (rintro ee w' ⟨rfl, rfl⟩)))
      | (go_at_call 25; ((with_reducible refine (S2.out w7 ao ac bo bc RA7.out RB7.out).mono ?_); (rintro ee w' ⟨rfl, rfl⟩))))
    have HO := hid_of (ow_empty 9 w7)
    go_loopw [15, 16] (fun vv iv wr => ∃ (k n : Nat) (vo : Option Addr) (vc : Nat), vv = .slice vo n vc ∧ k ≤ m ∧ iv = .int .i64 k ∧ n ≤ k ∧ Hid (n = (meetS (A.take k) D).length) ∧ Hid (Ow 9 w7.heap.size w7 wr (.slice vo n vc) (ss (meetS (A.take k) D)))) (fun _ iv _ => m - (intOf iv).toNat)
    case atStart => exact ⟨0, 0, _, _, rfl, Nat.zero_le _, rfl, Nat.le_refl _, hid_of (by simp [meetS]), hid_of (by have := HO.out; simpa [meetS, ss] using this)⟩
    case round =>
      obtain ⟨k, n, vo, vc, rfl, hk, rfl, hnk, hn, how⟩ := hrel
      have HBW := hid_of how.out.bel
      by_cases hlt : k < m
      · have hd : decide (k < m) = true := by simp; omega
        obtain ⟨g, o, x, rfl, hx, c1⟩ := GA.out wr ao ac k (RA7.out.at HBW.out) hlt
        obtain ⟨bx, hbx⟩ : ∃ bx, bx = ba x := ⟨_, rfl⟩
        rw [← hbx] at c1
        have HH := HAS.out wr bo bc bx x (RB7.out.at HBW.out) hbx
        have HX := hid_of hx
        have HBX := hid_of hbx
        clear hx hbx
        by_cases e : x ∈ D
        · rw [decide_eq_true e] at HH
          have HC := hid_of HH
          have E := hid_of e
          clear e HH
          have HLL : Hid ((ss (meetS (A.take k) D)).length = n) := hid_of (by rw [ss_length, hn.out])
          go_wp2_with (first
            | (go_at_call 26; ((with_reducible refine (HC.out).mono ?_); (rintro ee w' ⟨rfl, rfl⟩)))
            | (at_builtin; (refine wpList_app strsE rfl (.tmp 125) (.tmp 130) rfl (v := .slice vo n vc) (l := ss (meetS (A.take k) D)) rfl (how.out.alloc _) (vx := .slice (some ⟨wr.heap.size, 0, none⟩) 1 1) (m := [.string bx]) rfl (rd_new rfl rfl (by simp)) (by intro u hu; rw [List.mem_singleton.1 hu]; rfl) (by rw [HLL.out]; simp only [List.length_singleton]; omega) (by rw [HLL.out]; simp only [List.length_singleton]; omega) ?_); intro ao2 n2 cap2 w8 e1 h5; have HN2 : Hid (n2 = n + 1) := hid_of (by rw [HLL.out] at e1; simpa using e1); have HO2 := hid_of h5; clear e1 h5))
          go_roundw
          case rel => exact ⟨k + 1, n + 1, ao2, cap2, by rw [HN2.out], by omega, by go_num, by omega, hid_of (by rw [meet_snoc HX.out, if_pos E.out, List.length_append, List.length_singleton, ← hn.out]), hid_of (by rw [meet_snoc HX.out, if_pos E.out, ss_append, ← HN2.out]; have h5 := HO2.out; rw [HBX.out] at h5; exact h5)⟩
          case measure => simp [intOf]; omega
        · rw [decide_eq_false e] at HH
          have HC := hid_of HH
          have E := hid_of e
          clear e HH
          go_wp2_with (go_at_call 26; ((with_reducible refine (HC.out).mono ?_); (rintro ee w' ⟨rfl, rfl⟩)))
          go_roundw
          case rel => exact ⟨k + 1, n, vo, vc, rfl, by omega, by go_num, by omega, hid_of (by rw [meet_snoc HX.out, if_neg E.out, List.append_nil]; exact hn.out), hid_of (by rw [meet_snoc HX.out, if_neg E.out, List.append_nil]; exact how.out)⟩
          case measure => simp [intOf]; omega
      · have hd : decide (k < m) = false := by simp; omega
        obtain rfl : m = k := by omega
        have B9 := hid_of (B7.out.trans (HBW.out.mono B7.out.size))
        have RM : Hid (Rd wr (.slice vo n vc) (ss (meetS A D))) := hid_of (by
          have h5 := how.out
          rw [List.take_of_length_le (by have := QA.out.2.2.2.2; omega)] at h5
          exact ow_rd h5)
        have HCL := hid_of (CL.out wr vo n vc (meetS A D) B9.out (by omega) RM.out QA.out.2.2.1 QA.out.2.2.2.1)
        go_wp2_with (go_at_call 21; ((with_reducible refine (HCL.out).mono ?_); (rintro ee w9 ⟨rfl, q1, q2⟩)); have B10 := hid_of q2; clear q1 q2)
        go_ret
        exact ⟨rfl, HB0.out.trans (B10.out.mono HB0.out.size)⟩
  | false =>
    go_enter Try.func4, Try.ntmps4
    go_wp2_with (first
      | (go_at_call 15; ((with_reducible refine (AW.out).mono ?_); (rintro ee w1 ⟨rfl, q1⟩)); have B1 := hid_of q1; obtain ⟨k10, k11⟩ := CB.out w1 q1; clear q1)
      | (go_at_call 16; ((with_reducible refine (HV.out w1 B1.out).mono ?_); (rintro ee w' ⟨rfl, rfl⟩)))
      | (go_at_call 18; ((with_reducible refine (HK.out w1 B1.out).mono ?_); (rintro ee w2 ⟨rfl, q1⟩)); have B2 := hid_of q1; obtain ⟨k20, k21⟩ := CB.out w2 q1; clear q1)
      | (go_at_call 20; ((with_reducible refine (C0.out w2 B2.out).mono ?_); (rintro ee w3 ⟨ao, ac, rfl, q0, q1⟩)); have RA3 := hid_of q0; have B3 := hid_of q1; obtain ⟨k30, k31⟩ := CB.out w3 q1; clear q0 q1)
      | (go_at_call 20; ((with_reducible refine (C1.out w3 B3.out).mono ?_); (rintro ee w4 ⟨bo, bc, rfl, q0, q1, q2⟩)); have RB4 := hid_of q0; have RA4 := hid_of (RA3.out.at q1); have B4 := hid_of q2; obtain ⟨k40, k41⟩ := CB.out w4 q2; clear q0 q1 q2)
      | (go_at_call 20; ((with_reducible refine (C2.out w4 ao ac B4.out RA4.out).mono ?_); (rintro ee w5 ⟨xo, xc, rfl, q0, q1, q2⟩)); have RX5 := hid_of q0; have RA5 := hid_of (RA4.out.at q1); have RB5 := hid_of (RB4.out.at q1); have B5 := hid_of q2; obtain ⟨k50, k51⟩ := CB.out w5 q2; clear q0 q1 q2)
      | (go_at_call 21; ((with_reducible refine (CL.out w5 ao m ac A B5.out (by omega) RA5.out QA.out.1 QA.out.2.1).mono ?_); (rintro ee w6 ⟨rfl, q1, q2⟩)); have RX6 := hid_of (RX5.out.at q1); have RA6 := hid_of (RA5.out.at q1); have RB6 := hid_of (RB5.out.at q1); have B6 := hid_of q2; obtain ⟨k60, k61⟩ := CB.out w6 q2; clear q1 q2)
      | (go_at_call 22; ((with_reducible refine (SM.out w6 xo xc ao ac A B6.out RX6.out RA6.out).mono ?_); (rintro ee w7 ⟨rfl, q1, q2⟩)); have RA7 := hid_of (RA6.out.at q1); have RB7 := hid_of (RB6.out.at q1); have B7 := hid_of q2; obtain ⟨k70, k71⟩ := CB.out w7 q2; clear q1 q2)
      | (go_at_call 25; ((with_reducible refine (S0.out w7 ao ac B7.out RA7.out).mono ?_); (rintro ee w' ⟨rfl, rfl⟩)))
      | (go_at_call 25; ((with_reducible refine (S1.out w7 B7.out).mono ?_); (rintro ee w' ⟨rfl, rfl⟩))))
    have HO := hid_of (ow_empty 9 w7)
    go_loopw [15, 16] (fun vv iv wr => ∃ (k n : Nat) (vo : Option Addr) (vc : Nat), vv = .slice vo n vc ∧ k ≤ m ∧ iv = .int .i64 k ∧ n ≤ k ∧ Hid (n = (meetS (A.take k) D).length) ∧ Hid (Ow 9 w7.heap.size w7 wr (.slice vo n vc) (ss (meetS (A.take k) D)))) (fun _ iv _ => m - (intOf iv).toNat)
    case atStart => exact ⟨0, 0, _, _, rfl, Nat.zero_le _, rfl, Nat.le_refl _, hid_of (by simp [meetS]), hid_of (by have := HO.out; simpa [meetS, ss] using this)⟩
    case round =>
      obtain ⟨k, n, vo, vc, rfl, hk, rfl, hnk, hn, how⟩ := hrel
      have HBW := hid_of how.out.bel
      by_cases hlt : k < m
      · have hd : decide (k < m) = true := by simp; omega
        obtain ⟨g, o, x, rfl, hx, c1⟩ := GA.out wr ao ac k (RA7.out.at HBW.out) hlt
        obtain ⟨bx, hbx⟩ : ∃ bx, bx = ba x := ⟨_, rfl⟩
        rw [← hbx] at c1
        have HH := HAS.out wr bo bc bx x (RB7.out.at HBW.out) hbx
        have HX := hid_of hx
        have HBX := hid_of hbx
        clear hx hbx
        by_cases e : x ∈ D
        · rw [decide_eq_true e] at HH
          have HC := hid_of HH
          have E := hid_of e
          clear e HH
          have HLL : Hid ((ss (meetS (A.take k) D)).length = n) := hid_of (by rw [ss_length, hn.out])
          go_wp2_with (first
            | (go_at_call 26; ((with_reducible refine (HC.out).mono ?_); (rintro ee w' ⟨rfl, rfl⟩)))
            | (at_builtin; (refine wpList_app strsE rfl (.tmp 125) (.tmp 130) rfl (v := .slice vo n vc) (l := ss (meetS (A.take k) D)) rfl (how.out.alloc _) (vx := .slice (some ⟨wr.heap.size, 0, none⟩) 1 1) (m := [.string bx]) rfl (rd_new rfl rfl (by simp)) (by intro u hu; rw [List.mem_singleton.1 hu]; rfl) (by rw [HLL.out]; simp only [List.length_singleton]; omega) (by rw [HLL.out]; simp only [List.length_singleton]; omega) ?_); intro ao2 n2 cap2 w8 e1 h5; have HN2 : Hid (n2 = n + 1) := hid_of (by rw [HLL.out] at e1; simpa using e1); have HO2 := hid_of h5; clear e1 h5))
          go_roundw
          case rel => exact ⟨k + 1, n + 1, ao2, cap2, by rw [HN2.out], by omega, by go_num, by omega, hid_of (by rw [meet_snoc HX.out, if_pos E.out, List.length_append, List.length_singleton, ← hn.out]), hid_of (by rw [meet_snoc HX.out, if_pos E.out, ss_append, ← HN2.out]; have h5 := HO2.out; rw [HBX.out] at h5; exact h5)⟩
          case measure => simp [intOf]; omega
        · rw [decide_eq_false e] at HH
          have HC := hid_of HH
          have E := hid_of e
          clear e HH
          go_wp2_with (go_at_call 26; ((with_reducible refine (HC.out).mono ?_); (rintro ee w' ⟨rfl, rfl⟩)))
          go_roundw
          case rel => exact ⟨k + 1, n, vo, vc, rfl, by omega, by go_num, by omega, hid_of (by rw [meet_snoc HX.out, if_neg E.out, List.append_nil]; exact hn.out), hid_of (by rw [meet_snoc HX.out, if_neg E.out, List.append_nil]; exact how.out)⟩
          case measure => simp [intOf]; omega
      · have hd : decide (k < m) = false := by simp; omega
        obtain rfl : m = k := by omega
        have B9 := hid_of (B7.out.trans (HBW.out.mono B7.out.size))
        have RM : Hid (Rd wr (.slice vo n vc) (ss (meetS A D))) := hid_of (by
          have h5 := how.out
          rw [List.take_of_length_le (by have := QA.out.2.2.2.2; omega)] at h5
          exact ow_rd h5)
        have HCL := hid_of (CL.out wr vo n vc (meetS A D) B9.out (by omega) RM.out QA.out.2.2.1 QA.out.2.2.2.1)
        go_wp2_with (go_at_call 21; ((with_reducible refine (HCL.out).mono ?_); (rintro ee w9 ⟨rfl, q1, q2⟩)); have B10 := hid_of q2; clear q1 q2)
        go_ret
        exact ⟨rfl, HB0.out.trans (B10.out.mono HB0.out.size)⟩
theorem operator_law (uo : Option Addr) (un uc : Nat) (U : List Str) (ro : Option Addr) (rn rc : Nat) (rs : List Gr) (a0 : Option Addr) (n0 c0 : Nat) (s0 : List Str) (a1 : Option Addr) (n1 c1 : Nat) (s1 : List Str) (w : World) (hU : Rd w (.slice uo un uc) (ss U)) (hz : ∀ y ∈ U, y.length ≤ 9223372036854775807) (hR : RuR w (.slice ro rn rc) rs) (h0 : Rd w (.slice a0 n0 c0) (ss s0)) (h1 : Rd w (.slice a1 n1 c1) (ss s1)) :
    Calls Try.prog 4 #[.slice uo un uc, .slice ro rn rc, .agg #[.slice a0 n0 c0, .slice a1 n1 c1]] w fun e w' => e = .returned (.bool true) ∧ Below w.heap.size w w' := by
  cases hh : hvB U rs with
  | true => exact op_heavy uo un uc U ro rn rc rs a0 n0 c0 s0 a1 n1 c1 s1 w hU hz hR h0 h1 hh
  | false =>
    by_cases l0 : 41 < n0
    · exact op_long0 uo un uc U ro rn rc rs a0 n0 c0 s0 a1 n1 c1 s1 w hU hz hR h0 h1 hh l0
    · by_cases l1 : 41 < n1
      · exact op_long1 uo un uc U ro rn rc rs a0 n0 c0 s0 a1 n1 c1 s1 w hU hz hR h0 h1 hh l0 l1
      · by_cases hc : chkE U rs = 0
        · by_cases hq0 : cwsE U rs s0 = 0
          · by_cases hq1 : cwsE U rs s1 = 0
            · exact op_main uo un uc U ro rn rc rs a0 n0 c0 s0 a1 n1 c1 s1 w hU hz hR h0 h1 hh l0 l1 hc hq0 hq1
            · exact op_err uo un uc U ro rn rc rs a0 n0 c0 s0 a1 n1 c1 s1 w hU hz hR h0 h1 hh l0 l1 hc (.inr hq1)
          · exact op_err uo un uc U ro rn rc rs a0 n0 c0 s0 a1 n1 c1 s1 w hU hz hR h0 h1 hh l0 l1 hc (.inl hq0)
        · exact op_chk uo un uc U ro rn rc rs a0 n0 c0 s0 a1 n1 c1 s1 w hU hz hR h0 h1 hh l0 l1 hc
end Go.Proofs.Ytclefigcendpgaa
