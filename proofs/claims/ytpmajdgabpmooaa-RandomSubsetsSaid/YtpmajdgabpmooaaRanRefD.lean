/- The reference's RankSubset, and UnrankSubset. Bounds on sizes alone. -/
import Derived.Test.YtpmajdgabpmooaaRanLess
namespace Go.Proofs.Ytpmajdgabpmooaa
open Go.RowKit

theorem not_inc_ref {n : Int} {l : List Int} {k : Nat} (hk : k < l.length) (h : l.getD k 0 < 0 ∨ n ≤ l.getD k 0 ∨ (0 < k ∧ l.getD k 0 ≤ l.getD (k - 1) 0)) : ¬ incTo n l l.length := by
  intro hok
  obtain ⟨a, b⟩ := hok k hk
  have p := (inc_pos (k := k) (fun i hi => hok i (by omega))).1
  have a2 : nextAt l k ≤ l.getD k 0 := a
  rcases h with h | h | ⟨h1, h2⟩
  · omega
  · omega
  · have : nextAt l k = l.getD (k - 1) 0 + 1 := by unfold nextAt; rw [if_neg (by omega)]
    omega

def SubRes (n : Int) (l : List Int) (r : Nat) (e : Ending) : Prop := (incB n l = true ∧ e = .returned (.tuple #[.int .u64 (r : Int), .int .i64 0])) ∨ (incB n l = false ∧ e = .returned (.tuple #[.int .u64 0, .int .i64 1]))
theorem subRes_no {n : Int} {l : List Int} {r : Nat} (h : incB n l = false) : SubRes n l r (.returned (.tuple #[.int .u64 0, .int .i64 1])) := .inr ⟨h, rfl⟩
theorem subRes_yes {n : Int} {l : List Int} {r : Nat} {z : Int} (h : incB n l = true) (e : z = r) : SubRes n l r (.returned (.tuple #[.int .u64 z, .int .i64 0])) := .inl ⟨h, by rw [e]⟩
set_option maxRecDepth 100000 in
set_option maxHeartbeats 3200000 in
theorem refSub_any (n : Nat) (z : Int) (ao : Option Addr) (m cap : Nat) (l : List Int) (w : World) (hz : z = n) (hn : n ≤ 60) (R : Rd w (.slice ao m cap) (is l)) (hm9 : m ≤ 10000) :
    Calls Try.prog 35 #[.int .i64 z, .slice ao m cap] w fun e w' => SubRes n l (rsI n l m) e ∧ Below w.heap.size w w' := by
  subst hz
  obtain ⟨hm, h1, h2, h3⟩ := rd_open R
  have HM := hid_of hm
  clear R hm
  have d0 : decide ((n : Int) < 0) = false := by simp
  have d1 : decide ((60 : Int) < (n : Int)) = false := by simp; omega
  have hend : decide (m < m) = false := by simp
  by_cases h0 : m = 0
  · have H0 := hid_of h0
    have HB : Hid (incB n l = true) := hid_of (incB_yes (fun i hi => by have := HM.out; omega))
    clear h0 h3
    go_enter Try.func35, Try.ntmps35
    go_wp2
    go_loopw [6] (fun iv wr => ∃ k : Nat, k ≤ m ∧ iv = .int .i64 k ∧ w = wr) (fun iv _ => m - (intOf iv).toNat)
    case atStart => exact ⟨0, Nat.zero_le _, rfl, rfl⟩
    case round =>
      obtain ⟨k, hk, rfl, rfl⟩ := hrel
      have hge : decide (k < m) = false := by have := H0.out; simp; omega
      go_wp2
      go_loopw [7, 9] (fun rv iv wr => ∃ k : Nat, k ≤ m ∧ iv = .int .i64 k ∧ rv = .int .u64 0 ∧ w = wr) (fun _ iv _ => m - (intOf iv).toNat)
      case atStart => exact ⟨0, Nat.zero_le _, rfl, rfl, rfl⟩
      case round =>
        obtain ⟨k2, hk2, rfl, rfl, rfl⟩ := hrel
        have hge2 : decide (k2 < m) = false := by have := H0.out; simp; omega
        go_wp2
        go_ret2
        have e : rsI n l m = 0 := by rw [H0.out]; rfl
        exact ⟨subRes_yes HB.out (show (0 : Int) = ((rsI n l m : Nat) : Int) by rw [e]; rfl), Below.refl _ _⟩
  · obtain ⟨g, o, rfl, hg, hc⟩ := h3.resolve_left h0
    have HC := hid_of hc
    have HG := hid_of hg
    clear hc hg h3 h0
    go_enter Try.func35, Try.ntmps35
    go_wp2
    go_loopw [6] (fun iv wr => ∃ k : Nat, k ≤ m ∧ iv = .int .i64 k ∧ Hid (incTo n l k) ∧ Hid (Below w.heap.size w wr)) (fun iv _ => m - (intOf iv).toNat)
    case atStart => exact ⟨0, Nat.zero_le _, rfl, hid_of (fun i hi => by omega), hid_of (Below.refl _ _)⟩
    case round =>
      obtain ⟨k, hk, rfl, hok, hb⟩ := hrel
      by_cases hlt : k < m
      · have hd : decide (k < m) = true := by simp; omega
        have c1 : wr.cell? ⟨g, o + k, none⟩ = some (.int .i64 (l.getD k 0)) := (hb.out.cell (p := ⟨g, o + k, none⟩) HG.out).trans (HC.out k hlt)
        have hkl : Hid (k < l.length) := hid_of (by have := HM.out; omega)
        obtain ⟨x, hx⟩ : ∃ x, x = l.getD k 0 := ⟨_, rfl⟩
        rw [← hx] at c1
        have HX := hid_of hx
        have b1 : (k : Int) < (m : Int) := by omega
        have b0 : (0 : Int) ≤ (k : Int) := by omega
        clear hx
        by_cases x0 : x < 0
        · have hF : Hid (incB n l = false) := hid_of (incB_no (not_inc_ref hkl.out (.inl (by rw [← HX.out]; exact x0))))
          have x2 : decide (x < 0) = true := by simp; omega
          go_wp2
          go_quiet (fail)
          go_wp2
          go_ret2
          exact ⟨subRes_no hF.out, bel_drewN hb.out _⟩
        · have x2 : decide (x < 0) = false := by simp; omega
          by_cases x1 : (n : Int) ≤ x
          · have hF : Hid (incB n l = false) := hid_of (incB_no (not_inc_ref hkl.out (.inr (.inl (by rw [← HX.out]; exact x1)))))
            have x3 : decide ((n : Int) ≤ x) = true := by simp; omega
            go_wp2
            go_quiet (fail)
            go_wp2
            go_ret2
            exact ⟨subRes_no hF.out, bel_drewN hb.out _⟩
          · have x3 : decide ((n : Int) ≤ x) = false := by simp; omega
            by_cases k0 : 0 < k
            · have k1 : decide ((0 : Int) < (k : Int)) = true := by simp; omega
              obtain ⟨p, hp⟩ : ∃ p, p = k - 1 := ⟨_, rfl⟩
              have c2 : wr.cell? ⟨g, o + p, none⟩ = some (.int .i64 (l.getD p 0)) := (hb.out.cell (p := ⟨g, o + p, none⟩) HG.out).trans (HC.out p (by omega))
              obtain ⟨y, hy⟩ : ∃ y, y = l.getD p 0 := ⟨_, rfl⟩
              rw [← hy] at c2
              have HY : Hid (y = l.getD (k - 1) 0) := hid_of (by rw [← hp]; exact hy)
              have s1 : IntKind.i64.wrap ((k : Int) - 1) = (p : Int) := by rw [IntWalk.i64_in _ (by omega)]; omega
              have b2 : (p : Int) < (m : Int) := by omega
              have b3 : (0 : Int) ≤ (p : Int) := by omega
              clear hp hy
              by_cases y0 : x ≤ y
              · have y1 : decide (x ≤ y) = true := by simp; omega
                have hF : Hid (incB n l = false) := hid_of (incB_no (not_inc_ref hkl.out (.inr (.inr ⟨k0, by rw [← HX.out, ← HY.out]; exact y0⟩))))
                go_wp2
                go_quiet (fail)
                go_wp2
                go_ret2
                exact ⟨subRes_no hF.out, bel_drewN hb.out _⟩
              · have y1 : decide (x ≤ y) = false := by simp; omega
                have HO : Hid (incTo n l (k + 1)) := hid_of (incTo_succ hok.out (by unfold nextAt; rw [if_neg (by omega), ← HX.out, ← HY.out]; omega) (by rw [← HX.out]; omega))
                go_wp2
                go_quiet (fail)
                clear s1
                go_wp2
                go_roundw
                case rel => exact ⟨k + 1, by omega, by go_num, HO, hid_of (bel_drewN hb.out _)⟩
                case measure => simp [intOf]; omega
            · have k1 : decide ((0 : Int) < (k : Int)) = false := by simp; omega
              have HO : Hid (incTo n l (k + 1)) := hid_of (incTo_succ hok.out (by unfold nextAt; rw [if_pos (by omega), ← HX.out]; omega) (by rw [← HX.out]; omega))
              go_wp2
              go_quiet (fail)
              go_wp2
              go_roundw
              case rel => exact ⟨k + 1, by omega, by go_num, HO, hid_of (bel_drewN hb.out _)⟩
              case measure => simp [intOf]; omega
      · have ekm : k = m := by omega
        subst ekm
        have HI : Hid (incTo n l l.length) := hid_of (by rw [← HM.out]; exact hok.out)
        go_wp2
        clear hok hlt
        go_loopw [7, 8, 9] (fun rv nv iv wr => ∃ i r nx : Nat, i ≤ k ∧ iv = .int .i64 i ∧ rv = .int .u64 r ∧ nv = .int .i64 nx ∧ Hid (r = rsI n l i) ∧ Hid ((nx : Int) = nextAt l i) ∧ Hid (Below w.heap.size w wr)) (fun _ _ iv _ => k - (intOf iv).toNat)
        case atStart => exact ⟨0, 0, 0, Nat.zero_le _, rfl, rfl, rfl, hid_of rfl, hid_of rfl, hb⟩
        case round =>
          obtain ⟨wo, rfl⟩ : ∃ wo : World, wo = wr := ⟨_, rfl⟩
          obtain ⟨i, r, nx, hi, rfl, rfl, rfl, hr, hnx, hb2⟩ := hrel
          by_cases hlt : i < k
          · have hd : decide (i < k) = true := by simp; omega
            have C1 := hid_of (HC.out i hlt)
            have hinc := HI.out i (by have := HM.out; omega)
            have hnx2 : nextAt l i = (nx : Int) := hnx.out.symm
            have hx0 : (nx : Int) ≤ l.getD i 0 := by rw [← hnx2]; exact hinc.1
            obtain ⟨x, hx⟩ : ∃ x, x = l.getD i 0 := ⟨_, rfl⟩
            have hx1 : x < n := by rw [hx]; exact hinc.2
            rw [← hx] at C1 hx0
            obtain ⟨e, rfl⟩ := Int.eq_ofNat_of_zero_le (show 0 ≤ x by omega)
            have HX := hid_of hx
            have hne : nx ≤ e := by omega
            have hen : e < n := by omega
            clear hx hinc hnx2 hx0 hx1
            go_wp2
            go_loopw [7, 10] (fun rv sv wr => ∃ s r2 : Nat, nx ≤ s ∧ s ≤ e ∧ sv = .int .i64 s ∧ rv = .int .u64 r2 ∧ Hid (r2 = addTo n ((k : Int) - 1 - i) r nx (s - nx)) ∧ Hid (Below w.heap.size w wr)) (fun _ sv _ => e - (intOf sv).toNat)
            case atStart => exact ⟨nx, r, Nat.le_refl _, hne, rfl, rfl, hid_of (by rw [Nat.sub_self]; rfl), hb2⟩
            case round =>
              obtain ⟨s, r2, hs1, hs2, rfl, rfl, hr2, hb3⟩ := hrel
              have c1 : wr.cell? ⟨g, o + i, none⟩ = some (.int .i64 (e : Int)) := (hb3.out.cell (p := ⟨g, o + i, none⟩) HG.out).trans C1.out
              by_cases hse : s < e
              · have hd2 : decide (s < e) = true := by simp; omega
                have hstep := hid_of (add_step r2 (chI (n - 1 - s) ((k : Int) - 1 - i)))
                have hb1 : (s : Int) < 60 := by omega
                have hsn : s < n := by omega
                go_wp2_with (go_at_call 28; refine (refChoose_any (n - 1 - s) _ _ wr (by omega) (by omega) (by omega) (by omega)).mono ?_; (rintro e2 w3 ⟨rfl, h3⟩; have B3 := hid_of (hb3.out.trans (h3.mono hb3.out.size)); clear h3))
                go_roundw
                case rel => exact ⟨s + 1, (r2 + chI (n - 1 - s) ((k : Int) - 1 - i)) % 18446744073709551616, by omega, by omega, by go_num, by rw [← hstep.out], hid_of (by rw [show s + 1 - nx = (s - nx) + 1 by omega, addTo, ← hr2.out, show nx + (s - nx) = s by omega]), B3⟩
                case measure => simp [intOf]; omega
              · obtain rfl : s = e := by omega
                have hd2 : decide (s < s) = false := by simp
                go_wp2
                go_roundw
                case rel =>
                  refine ⟨i + 1, r2, s + 1, by omega, by go_num, rfl, by go_num, hid_of ?_, hid_of ?_, hb3⟩
                  · have e1 : (nextAt l i).toNat = nx := by rw [← hnx.out]; simp
                    have e2 : (l.getD i 0).toNat = s := by rw [← HX.out]; simp
                    rw [rsI, e1, e2, ← HM.out, ← hr.out]; exact hr2.out
                  · rw [show nextAt l (i + 1) = l.getD i 0 + 1 by simp [nextAt], ← HX.out]; omega
                case measure => simp [intOf]; omega
          · obtain rfl : i = k := by omega
            have hd : decide (i < i) = false := by simp
            go_wp2
            go_ret2
            exact ⟨subRes_yes (incB_yes HI.out) (by rw [hr.out]), hb2.out⟩
theorem refSub_bad (z : Int) (ao : Option Addr) (m cap : Nat) (w : World) (hz : z < 0 ∨ 60 < z) :
    Calls Try.prog 35 #[.int .i64 z, .slice ao m cap] w fun e w' => e = .returned (.tuple #[.int .u64 0, .int .i64 1]) ∧ Below w.heap.size w w' := by
  rcases hz with hz | hz
  · have d0 : decide (z < 0) = true := by simp; omega
    go_enter Try.func35, Try.ntmps35
    go_wp2
    go_ret2
    exact ⟨rfl, Below.refl _ _⟩
  · have d0 : decide (z < 0) = false := by simp; omega
    have d1 : decide ((60 : Int) < z) = true := by simp; omega
    go_enter Try.func35, Try.ntmps35
    go_wp2
    go_ret2
    exact ⟨rfl, Below.refl _ _⟩

/-- What UnrankSubset has chosen before element v, and what is left. -/
theorem unS_full {n d v k r : Nat} : unS n (d + 1) v (k + 1) r = if r < chN (n - 1 - v) k then v :: unS n d (v + 1) k r else unS n d (v + 1) (k + 1) (r - chN (n - 1 - v) k) := rfl

set_option maxRecDepth 100000 in
set_option maxHeartbeats 3200000 in
theorem unrankSub_ok (n k r : Nat) (z y : Int) (w : World) (hz : z = n) (hy : y = k) (hn : n ≤ 60) (hr : r < chN n k) :
    Calls Try.prog 36 #[.int .i64 z, .int .i64 y, .int .u64 (r : Int)] w fun e w' => ∃ xo xc, e = .returned (.tuple #[.slice xo k xc, .int .i64 0]) ∧ Ow 3 w.heap.size w w' (.slice xo k xc) (is (nI (unS n n 0 k r))) := by
  subst hz hy
  have hkn : k ≤ n := by
    by_cases h : k ≤ n
    · exact h
    · rw [chN_gt _ _ (by omega)] at hr; omega
  have hcm := chN_max (n := n) (k := k) hn
  have HCH : Hid (∀ w, Calls Try.prog 27 #[.int .i64 (n : Int), .int .i64 (k : Int)] w fun e w' => e = .returned (.tuple #[.int .u64 ((chN n k : Nat) : Int), .int .i64 0]) ∧ w = w') := hid_of (fun w => by
    have := Choose_any n n k w rfl hn (by omega) (by omega)
    rwa [chI_nat] at this)
  have HUL : Hid ((unS n n 0 k r).length = k) := hid_of (rs_unS n n 0 k r (by omega) (by rw [Nat.sub_zero]; exact hr)).2.1
  obtain ⟨C, hC⟩ : ∃ C, C = chN n k := ⟨_, rfl⟩
  rw [← hC] at HCH hr hcm
  have hge : decide (C ≤ r) = false := by simp; omega
  obtain ⟨L, hL⟩ : ∃ L, L = unS n n 0 k r := ⟨_, rfl⟩
  rw [← hL] at HUL ⊢
  have HL := hid_of hL
  have HR := hid_of hr
  have HCM := hid_of hcm
  have HE : Hid (Ow 3 w.heap.size w w (.slice none 0 0) (is (nI []))) := hid_of (ow_nil _ w)
  clear hC hL hr hcm
  go_enter Try.func36, Try.ntmps36
  go_wp2_with (go_at_call 27; ((with_reducible refine (HCH.out w).mono ?_); (rintro e w' ⟨rfl, rfl⟩)))
  go_loopw [2, 10, 27] (fun rv lv iv wr => ∃ (v q : Nat) (xo : Option Addr) (xc : Nat) (p : List Nat), v ≤ n ∧ iv = .int .i64 v ∧ rv = .int .u64 (q : Int) ∧ lv = .slice xo p.length xc ∧ Hid (p.length ≤ k ∧ p ++ unS n (n - v) v (k - p.length) q = L ∧ q ≤ 576460752303423488) ∧ Hid (Ow 3 w.heap.size w wr (.slice xo p.length xc) (is (nI p)))) (fun _ _ iv _ => n - (intOf iv).toNat)
  case atStart => exact ⟨0, r, none, 0, [], Nat.zero_le _, rfl, rfl, rfl, hid_of ⟨Nat.zero_le _, by rw [HL.out]; simp, by have := HR.out; have := HCM.out; omega⟩, HE⟩
  case round =>
    obtain ⟨v, q, xo, xc, p, hv, rfl, rfl, rfl, hp, how⟩ := hrel
    obtain ⟨j, hj⟩ : ∃ j, j = p.length := ⟨_, rfl⟩
    have HJ := hid_of hj
    rw [← hj] at hp how ⊢
    clear hj
    have hjk : j ≤ k := hp.out.1
    by_cases hlt : v < n
    · have hd : decide (v < n) = true := by simp; omega
      have hkn2 : k ≤ n := hkn
      have hvb : (v : Int) ≤ 60 := by omega
      have HZ : Hid ((n : Int) - 1 - (v : Int) = ((n - 1 - v : Nat) : Int)) := hid_of (by omega)
      by_cases hjlt : j < k
      · have HC2 : Hid (chI (n - 1 - v) ((k : Int) - 1 - (j : Int)) = chN (n - 1 - v) (k - j - 1)) := hid_of (by
          rw [show (k : Int) - 1 - (j : Int) = ((k - j - 1 : Nat) : Int) by omega, chI_nat])
        have HST : Hid (unS n (n - v) v (k - j) q = if q < chN (n - 1 - v) (k - j - 1) then v :: unS n (n - (v + 1)) (v + 1) (k - j - 1) q else unS n (n - (v + 1)) (v + 1) (k - j - 1 + 1) (q - chN (n - 1 - v) (k - j - 1))) := hid_of (by
          obtain ⟨d, hd⟩ : ∃ d, n - v = d + 1 := ⟨n - v - 1, by omega⟩
          obtain ⟨c, hc⟩ : ∃ c, k - j = c + 1 := ⟨k - j - 1, by omega⟩
          rw [hd, hc, unS_full, show n - (v + 1) = d by omega, Nat.add_sub_cancel])
        obtain ⟨c, hc⟩ : ∃ c, c = chN (n - 1 - v) (k - j - 1) := ⟨_, rfl⟩
        have hcmx := chN_max (n := n - 1 - v) (k := k - j - 1) (by omega)
        rw [← hc] at HC2 HST hcmx
        have HCH2 : Hid (∀ w, Calls Try.prog 42 #[.int .i64 ((n : Int) - 1 - (v : Int)), .int .i64 ((k : Int) - 1 - (j : Int))] w fun e w' => e = .returned (.int .u64 (c : Int)) ∧ w = w') := hid_of (fun w => by
          have := choose_any (n - 1 - v) ((n : Int) - 1 - (v : Int)) ((k : Int) - 1 - (j : Int)) w HZ.out (by omega) (by omega) (by omega)
          rwa [HC2.out] at this)
        have hqm : q ≤ 576460752303423488 := hp.out.2.2
        clear hc
        by_cases hqc : q < c
        · have hq1 : decide (q < c) = true := by simp; omega
          have HLEN : Hid ((is (nI p)).length = j) := hid_of (by rw [is_length, nI_length]; exact HJ.out.symm)
          have R1 := hid_of (rd_new (w := wr) (l := is [(v : Int)]) (n := 1) (cs := #[.int .i64 (v : Int)]) (E := 3) (m := (0, 0)) rfl rfl (by simp [is]))
          have HPL : Hid ((p ++ [v]).length = j + 1) := hid_of (by simp; exact HJ.out.symm)
          clear hqc
          go_wp2_with (first
            | (go_at_call 42; ((with_reducible refine (HCH2.out wr).mono ?_); (rintro e w' ⟨rfl, rfl⟩)))
            | (at_builtin; ((refine wpList_app intsE rfl _ _ rfl (v := .slice xo j xc) rfl (how.out.alloc _) (vx := .slice (some ⟨wr.heap.size, 0, none⟩) 1 1) rfl R1.out (is_one _) (by rw [HLEN.out, is_length]; simp; omega) (by rw [HLEN.out, is_length]; simp; omega) ?_); intro xo3 n3 c3 w3 hn3 h3; obtain rfl : n3 = j + 1 := (by rw [hn3, HLEN.out, is_length]; rfl); have X3 : Hid (Ow 3 w.heap.size w w3 (.slice xo3 (j + 1) c3) (is (nI (p ++ [v])))) := hid_of (by rw [show nI (p ++ [v]) = nI p ++ [(v : Int)] by simp [nI], is_append]; exact h3); clear h3 hn3)))
          go_roundw
          case rel =>
            refine ⟨v + 1, q, xo3, c3, p ++ [v], by omega, by go_num, rfl, by rw [HPL.out], hid_of ⟨by rw [HPL.out]; omega, ?_, hqm⟩, by rw [HPL.out]; exact X3⟩
            have h1 := hp.out.2.1
            rw [HST.out, if_pos (by simpa using hq1)] at h1
            rw [HPL.out, List.append_assoc, List.singleton_append, show k - (j + 1) = k - j - 1 by omega]
            exact h1
          case measure => simp [intOf]; omega
        · have hq1 : decide (q < c) = false := by simp; omega
          have hw1 : IntKind.u64.wrap ((q : Int) - (c : Int)) = ((q - c : Nat) : Int) := by rw [IntKind.wrap_u64]; omega
          have hle : c ≤ q := by omega
          clear hqc
          go_wp2_with (go_at_call 42; ((with_reducible refine (HCH2.out wr).mono ?_); (rintro e w' ⟨rfl, rfl⟩)))
          go_roundw
          case rel =>
            refine ⟨v + 1, q - c, xo, xc, p, by omega, by go_num, by go_num, by rw [← HJ.out], hid_of ⟨by rw [← HJ.out]; exact hjk, ?_, by omega⟩, by rw [← HJ.out]; exact how⟩
            have h1 := hp.out.2.1
            rw [HST.out, if_neg (by simpa using hq1)] at h1
            rw [← HJ.out, show k - j = k - j - 1 + 1 by omega]
            exact h1
          case measure => simp [intOf]; omega
      · have hjk2 : j = k := by omega
        have HC2 : Hid (chI (n - 1 - v) ((k : Int) - 1 - (j : Int)) = 0) := hid_of (by
          unfold chI; rw [if_pos (by omega)])
        have HCH2 : Hid (∀ w, Calls Try.prog 42 #[.int .i64 ((n : Int) - 1 - (v : Int)), .int .i64 ((k : Int) - 1 - (j : Int))] w fun e w' => e = .returned (.int .u64 0) ∧ w = w') := hid_of (fun w => by
          have := choose_any (n - 1 - v) ((n : Int) - 1 - (v : Int)) ((k : Int) - 1 - (j : Int)) w HZ.out (by omega) (by omega) (by omega)
          rw [HC2.out] at this
          exact this)
        have hqm : q ≤ 576460752303423488 := hp.out.2.2
        have hq1 : decide ((q : Int) < 0) = false := by simp
        have hw1 : IntKind.u64.wrap ((q : Int) - 0) = (q : Int) := by rw [IntKind.wrap_u64]; omega
        have HJK := hid_of hjk2
        clear hjk2
        go_wp2_with (go_at_call 42; ((with_reducible refine (HCH2.out wr).mono ?_); (rintro e w' ⟨rfl, rfl⟩)))
        go_roundw
        case rel =>
          refine ⟨v + 1, q, xo, xc, p, by omega, by go_num, by first | rfl | go_num, by rw [← HJ.out], hid_of ⟨by rw [← HJ.out]; exact hjk, ?_, hqm⟩, by rw [← HJ.out]; exact how⟩
          have h1 := hp.out.2.1
          rw [← HJ.out, HJK.out, Nat.sub_self, unS_zero] at *
          exact h1
        case measure => simp [intOf]; omega
    · obtain rfl : v = n := by omega
      have hd : decide (v < v) = false := by simp
      have h1 := hp.out.2.1
      rw [Nat.sub_self] at h1
      have HPL : Hid (nI p = nI L ∧ j = k) := hid_of (by
        have e : p = L := by simpa [unS] using h1
        exact ⟨by rw [e], by rw [HJ.out, e]; exact HUL.out⟩)
      clear h1
      go_wp2
      go_ret2
      obtain ⟨e1, e2⟩ := HPL.out
      subst e2
      rw [e1] at how
      exact ⟨xo, xc, rfl, how.out⟩
end Go.Proofs.Ytpmajdgabpmooaa
