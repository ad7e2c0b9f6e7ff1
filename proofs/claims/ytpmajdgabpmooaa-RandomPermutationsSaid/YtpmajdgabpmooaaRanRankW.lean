/- RankPermutation and RankSubset: the program's ranks. Bounds on sizes alone. -/
import Derived.Test.YtpmajdgabpmooaaRanNum
namespace Go.Proofs.Ytpmajdgabpmooaa
open Go.RowKit

def cntI (a : Int) (l : List Int) : Nat := (l.filter (fun y => decide (y < a))).length
theorem cntI_le (a : Int) (l : List Int) : cntI a l ≤ l.length := List.length_filter_le _ _
theorem cntI_snoc (a y : Int) (l : List Int) : cntI a (l ++ [y]) = cntI a l + if y < a then 1 else 0 := by
  unfold cntI; rw [List.filter_append, List.length_append]; by_cases h : y < a <;> simp [h]
/-- The rank as the loop computes it, modulo 2^64. -/
def rkM (l : List Int) : Nat → Nat
  | 0 => 0
  | i + 1 => (rkM l i * (l.length - i) % 18446744073709551616 + cntI (l.getD i 0) (l.drop (i + 1))) % 18446744073709551616
theorem rkM_lt (l : List Int) : ∀ i, rkM l i < 18446744073709551616 := by
  intro i; cases i with
  | zero => rw [rkM]; omega
  | succ i => exact Nat.mod_lt _ (by omega)
theorem rank_step (r c n k : Nat) (h : k ≤ n) (hc : c < 18446744073709551616) : IntKind.u64.wrap (IntKind.u64.wrap ((r : Int) * ((n : Int) - (k : Int))) + (c : Int)) = (((r * (n - k) % 18446744073709551616 + c) % 18446744073709551616 : Nat) : Int) := by
  rw [show (n : Int) - (k : Int) = ((n - k : Nat) : Int) by omega, ← Int.natCast_mul, IntKind.wrap_u64, IntKind.wrap_u64]
  omega
theorem take_snoc {l : List Int} {j : Nat} (h : j < l.length) : l.take (j + 1) = l.take j ++ [l.getD j 0] := by
  rw [List.take_succ_eq_append_getElem h]; simp [List.getD, h]
theorem cnt_step {l : List Int} {k j : Nat} {x y : Int} (hj : k + 1 + j < l.length) (hy : y = l.getD (k + 1 + j) 0) : cntI x ((l.drop (k + 1)).take (j + 1)) = cntI x ((l.drop (k + 1)).take j) + if y < x then 1 else 0 := by
  rw [take_snoc (by rw [List.length_drop]; omega), cntI_snoc]
  have e : (l.drop (k + 1)).getD j 0 = y := by rw [hy]; simp [List.getD, List.getElem?_drop]
  rw [e]

theorem ret_rank {a b z : Int} (h : a = b) : Ending.returned (.tuple #[.int .u64 a, .int .i64 z]) = .returned (.tuple #[.int .u64 b, .int .i64 z]) := by rw [h]
set_option maxRecDepth 100000 in
set_option maxHeartbeats 1600000 in
theorem rankPerm_ok (ao : Option Addr) (n cap : Nat) (l : List Int) (w : World) (R : Rd w (.slice ao n cap) (is l)) (hn20 : n ≤ 20) (hp : permB l = true) :
    Calls Try.prog 29 #[.slice ao n cap] w fun e w' => e = .returned (.tuple #[.int .u64 ((rkM l n : Nat) : Int), .int .i64 0]) ∧ Below w.heap.size w w' := by
  obtain ⟨hn, h1, h2, h3⟩ := rd_open R
  have HN := hid_of hn
  have HP : Hid (Calls Try.prog 43 #[.slice ao n cap] w fun e w' => e = .returned (.bool true) ∧ Below w.heap.size w w') := hid_of (by
    have := isPerm_any ao n cap l w R hn20
    rwa [hp] at this)
  clear R hn hp
  rcases h3 with h3 | ⟨g, o, rfl, hg, hc⟩
  · have H3 := hid_of h3
    clear h3
    go_enter Try.func29, Try.ntmps29
    go_wp2_with (go_at_call 43; refine (HP.out).mono ?_; (rintro e w1 ⟨rfl, hb⟩; have HB := hid_of hb; clear hb))
    go_loop [4, 15] (fun rv iv => ∃ k : Nat, k ≤ n ∧ iv = .int .i64 k ∧ rv = .int .u64 0) (fun _ iv => n - (intOf iv).toNat)
    case atStart => exact ⟨0, Nat.zero_le _, rfl, rfl⟩
    case round =>
      obtain ⟨k, hk, rfl, rfl⟩ := hrel
      have hge : ¬ k < n := by have := H3.out; omega
      go_wp2
      go_ret2
      have e : rkM l n = 0 := by rw [H3.out]; rfl
      exact ⟨ret_rank (by rw [e]; rfl), HB.out⟩
  · have HC := hid_of hc
    clear hc
    go_enter Try.func29, Try.ntmps29
    go_wp2_with (go_at_call 43; refine (HP.out).mono ?_; (rintro e w1 ⟨rfl, hb⟩; have HB := hid_of hb; clear hb))
    go_loop [4, 15] (fun rv iv => ∃ k : Nat, k ≤ n ∧ iv = .int .i64 k ∧ rv = .int .u64 ((rkM l k : Nat) : Int)) (fun _ iv => n - (intOf iv).toNat)
    case atStart => exact ⟨0, Nat.zero_le _, rfl, rfl⟩
    case round =>
      obtain ⟨k, hk, rfl, rfl⟩ := hrel
      have hrl := rkM_lt l k
      have HST : Hid (∀ c : Nat, c ≤ 20 → c = cntI (l.getD k 0) (l.drop (k + 1)) → IntKind.u64.wrap (IntKind.u64.wrap (((rkM l k : Nat) : Int) * ((n : Int) - (k : Int))) + (c : Int)) = ((rkM l (k + 1) : Nat) : Int)) := hid_of (fun c hc e => by
        rw [rank_step _ _ _ _ hk (by omega), e, HN.out]; rfl)
      obtain ⟨r, hr⟩ : ∃ r, r = rkM l k := ⟨_, rfl⟩
      rw [← hr] at hrl HST ⊢
      have HRL := hid_of hrl
      have HR := hid_of hr
      clear hr hrl
      by_cases hlt : k < n
      · have c1 := (HB.out.cell (p := ⟨g, o + k, none⟩) hg).trans (HC.out k hlt)
        obtain ⟨x, hx⟩ : ∃ x, x = l.getD k 0 := ⟨_, rfl⟩
        rw [← hx] at c1 HST
        have HX := hid_of hx
        clear hx
        by_cases hcap : cap = k + 1
        · have HCAP := hid_of hcap
          have hcap2 : ¬ k + 1 < cap := by omega
          go_wp2
          go_loop [7, 9, 25] (fun cv _ jv => ∃ j c : Nat, j ≤ n - (k + 1) ∧ jv = .int .i64 j ∧ cv = .int .i64 c ∧ c ≤ j ∧ Hid (c = cntI x ((l.drop (k + 1)).take j))) (fun _ _ jv => n - (k + 1) - (intOf jv).toNat)
          case atStart => exact ⟨0, 0, Nat.zero_le _, rfl, rfl, Nat.le_refl _, hid_of rfl⟩
          case round =>
            obtain ⟨j, c, hj, rfl, rfl, hcj, hcc⟩ := hrel
            by_cases hjl : j < n - (k + 1)
            · exfalso; have := HCAP.out; omega
            · obtain rfl : j = n - (k + 1) := by omega
              have hs := hid_of (HST.out c (by omega) (by rw [hcc.out, List.take_of_length_le (by rw [List.length_drop, ← HN.out]; exact Nat.le_refl _)]))
              have hw0 : IntKind.u64.wrap ((n : Int) - (k : Int)) = (n : Int) - (k : Int) := IntWalk.u64_in _ (by omega)
              have hw1 : IntKind.u64.wrap (c : Int) = (c : Int) := IntWalk.u64_in _ (by omega)
              have HRL2 := HRL.out
              go_wp2
              go_round
              case rel => (refine ⟨_, _, _, _, _, _, ?rr, rfl, rfl, rfl, rfl, rfl, rfl⟩; exact ⟨k + 1, by omega, by go_num, by rw [← hs.out]⟩)
              case measure => simp [intOf]; omega
        · have hcap2 : k + 1 < cap := by omega
          go_wp2
          go_loop [7, 9, 25] (fun cv _ jv => ∃ j c : Nat, j ≤ n - (k + 1) ∧ jv = .int .i64 j ∧ cv = .int .i64 c ∧ c ≤ j ∧ Hid (c = cntI x ((l.drop (k + 1)).take j))) (fun _ _ jv => n - (k + 1) - (intOf jv).toNat)
          case atStart => exact ⟨0, 0, Nat.zero_le _, rfl, rfl, Nat.le_refl _, hid_of rfl⟩
          case round =>
            obtain ⟨j, c, hj, rfl, rfl, hcj, hcc⟩ := hrel
            by_cases hjl : j < n - (k + 1)
            · have c2 : w1.cell? ⟨g, o + (k + 1) + j, none⟩ = some (.int .i64 (l.getD (k + 1 + j) 0)) := by
                rw [Nat.add_assoc o (k + 1) j]
                exact (HB.out.cell (p := ⟨g, o + (k + 1 + j), none⟩) hg).trans (HC.out (k + 1 + j) (by omega))
              obtain ⟨y, hy⟩ : ∃ y, y = l.getD (k + 1 + j) 0 := ⟨_, rfl⟩
              rw [← hy] at c2
              have hcs := hid_of (cnt_step (x := x) (by have := HN.out; omega) hy)
              clear hy
              by_cases hyx : y < x
              · go_wp2
                go_round
                case rel => exact ⟨j + 1, c + 1, by omega, by go_num, by go_num, by omega, hid_of (by rw [hcs.out, hcc.out, if_pos hyx])⟩
                case measure => simp [intOf]; omega
              · go_wp2
                go_round
                case rel => exact ⟨j + 1, c, by omega, by go_num, rfl, by omega, hid_of (by rw [hcs.out, hcc.out, if_neg hyx]; rfl)⟩
                case measure => simp [intOf]; omega
            · obtain rfl : j = n - (k + 1) := by omega
              have hs := hid_of (HST.out c (by omega) (by rw [hcc.out, List.take_of_length_le (by rw [List.length_drop, ← HN.out]; exact Nat.le_refl _)]))
              have hw0 : IntKind.u64.wrap ((n : Int) - (k : Int)) = (n : Int) - (k : Int) := IntWalk.u64_in _ (by omega)
              have hw1 : IntKind.u64.wrap (c : Int) = (c : Int) := IntWalk.u64_in _ (by omega)
              have HRL2 := HRL.out
              go_wp2
              go_round
              case rel => exact ⟨k + 1, by omega, by go_num, by rw [← hs.out]⟩
              case measure => simp [intOf]; omega
      · obtain rfl : k = n := by omega
        go_wp2
        go_ret2
        exact ⟨ret_rank (by rw [HR.out]), HB.out⟩
theorem rankPerm_bad (ao : Option Addr) (n cap : Nat) (l : List Int) (w : World) (R : Rd w (.slice ao n cap) (is l)) (hp : 20 < n ∨ permB l = false) :
    Calls Try.prog 29 #[.slice ao n cap] w fun e w' => e = .returned (.tuple #[.int .u64 0, .int .i64 1]) ∧ Below w.heap.size w w' := by
  have HP : Hid (Calls Try.prog 43 #[.slice ao n cap] w fun e w' => e = .returned (.bool false) ∧ Below w.heap.size w w') := hid_of (by
    by_cases h20 : 20 < n
    · obtain ⟨hn, h1, h2, h3⟩ := rd_open R
      have d1 : decide ((20 : Int) < (n : Int)) = true := by simp; omega
      go_enter Try.func43, Try.ntmps43
      go_wp2
      go_ret
      exact ⟨rfl, Below.refl _ _⟩
    · have := isPerm_any ao n cap l w R (by omega)
      rwa [hp.resolve_left h20] at this)
  clear R hp
  go_enter Try.func29, Try.ntmps29
  go_wp2_with (go_at_call 43; refine (HP.out).mono ?_; (rintro e w1 ⟨rfl, hb⟩; have HB := hid_of hb; clear hb))
  go_ret2
  exact ⟨rfl, HB.out⟩

/-- The rank of an increasing list as the loops compute it, modulo 2^64. -/
def addTo (n : Nat) (q : Int) (r v : Nat) : Nat → Nat
  | 0 => r
  | j + 1 => (addTo n q r v j + chI (n - 1 - (v + j)) q) % 18446744073709551616
def rsI (n : Nat) (l : List Int) : Nat → Nat
  | 0 => 0
  | i + 1 => addTo n ((l.length : Int) - 1 - i) (rsI n l i) (nextAt l i).toNat ((l.getD i 0).toNat - (nextAt l i).toNat)
theorem addTo_lt {n : Nat} {q : Int} {r v : Nat} (h : r < 18446744073709551616) : ∀ j, addTo n q r v j < 18446744073709551616 := by
  intro j; cases j with
  | zero => exact h
  | succ j => exact Nat.mod_lt _ (by omega)
theorem rsI_lt (n : Nat) (l : List Int) : ∀ i, rsI n l i < 18446744073709551616 := by
  intro i; induction i with
  | zero => rw [rsI]; omega
  | succ i ih => exact addTo_lt ih _
theorem add_step (r c : Nat) : IntKind.u64.wrap ((r : Int) + (c : Int)) = (((r + c) % 18446744073709551616 : Nat) : Int) := by
  rw [IntKind.wrap_u64]; omega

set_option maxRecDepth 100000 in
set_option maxHeartbeats 1600000 in
theorem rankSub_ok (n : Nat) (z : Int) (ao : Option Addr) (m cap : Nat) (l : List Int) (w : World) (hz : z = n) (hn : n ≤ 60) (R : Rd w (.slice ao m cap) (is l)) (hp : incTo n l l.length) :
    Calls Try.prog 34 #[.int .i64 z, .slice ao m cap] w fun e w' => e = .returned (.tuple #[.int .u64 ((rsI n l m : Nat) : Int), .int .i64 0]) ∧ w = w' := by
  subst hz
  obtain ⟨hm, h1, h2, h3⟩ := rd_open R
  have HM := hid_of hm
  have HI := hid_of hp
  have HP : Hid (Calls Try.prog 46 #[.int .i64 n, .slice ao m cap] w fun e w' => e = .returned (.bool true) ∧ w = w') := hid_of (by
    have := isInc_any n ao m cap l w R (by omega) (by omega)
    rwa [incB_yes hp] at this)
  clear R hm hp
  have d0 : decide ((n : Int) < 0) = false := by simp
  have d1 : decide ((60 : Int) < (n : Int)) = false := by simp; omega
  rcases h3 with h3 | ⟨g, o, rfl, hg, hc⟩
  · have H3 := hid_of h3
    clear h3
    go_enter Try.func34, Try.ntmps34
    go_wp2_with (go_at_call 46; refine (HP.out).mono ?_; (rintro e w1 ⟨rfl, rfl⟩))
    go_loop [6, 7, 25] (fun rv _ iv => ∃ k : Nat, k ≤ m ∧ iv = .int .i64 k ∧ rv = .int .u64 0) (fun _ _ iv => m - (intOf iv).toNat)
    case atStart => exact ⟨0, Nat.zero_le _, rfl, rfl⟩
    case round =>
      obtain ⟨k, hk, rfl, rfl⟩ := hrel
      have hge : ¬ k < m := by have := H3.out; omega
      go_wp2
      go_ret2
      have e : rsI n l m = 0 := by rw [H3.out]; rfl
      exact ⟨ret_rank (by rw [e]; rfl), rfl⟩
  · have HC := hid_of hc
    clear hc
    go_enter Try.func34, Try.ntmps34
    go_wp2_with (go_at_call 46; refine (HP.out).mono ?_; (rintro e w1 ⟨rfl, rfl⟩))
    go_loop [6, 7, 25] (fun rv nv iv => ∃ i r nx : Nat, i ≤ m ∧ iv = .int .i64 i ∧ rv = .int .u64 r ∧ nv = .int .i64 nx ∧ Hid (r = rsI n l i) ∧ Hid ((nx : Int) = nextAt l i)) (fun _ _ iv => m - (intOf iv).toNat)
    case atStart => exact ⟨0, 0, 0, Nat.zero_le _, rfl, rfl, rfl, hid_of rfl, hid_of rfl⟩
    case round =>
      obtain ⟨i, r, nx, hi, rfl, rfl, rfl, hr, hnx⟩ := hrel
      by_cases hlt : i < m
      · have c1 := HC.out i hlt
        have hinc := HI.out i (by have := HM.out; omega)
        have hnx2 : nextAt l i = (nx : Int) := hnx.out.symm
        have hx0 : (nx : Int) ≤ l.getD i 0 := by rw [← hnx2]; exact hinc.1
        obtain ⟨x, hx⟩ : ∃ x, x = l.getD i 0 := ⟨_, rfl⟩
        have hx1 : x < n := by rw [hx]; exact hinc.2
        rw [← hx] at c1 hx0
        obtain ⟨e, rfl⟩ := Int.eq_ofNat_of_zero_le (show 0 ≤ x by omega)
        have HX := hid_of hx
        have hne : nx ≤ e := by omega
        have hen : e < n := by omega
        clear hx hinc hnx2 hx0 hx1
        go_wp2
        go_loop [6, 10] (fun rv sv => ∃ s r2 : Nat, nx ≤ s ∧ s ≤ e ∧ sv = .int .i64 s ∧ rv = .int .u64 r2 ∧ Hid (r2 = addTo n ((m : Int) - 1 - i) r nx (s - nx))) (fun _ sv => e - (intOf sv).toNat)
        case atStart => exact ⟨nx, r, Nat.le_refl _, hne, rfl, rfl, hid_of (by rw [Nat.sub_self]; rfl)⟩
        case round =>
          obtain ⟨s, r2, hs1, hs2, rfl, rfl, hr2⟩ := hrel
          by_cases hse : s < e
          · have hstep := hid_of (add_step r2 (chI (n - 1 - s) ((m : Int) - 1 - i)))
            have hb1 : (s : Int) < 60 := by omega
            go_wp2_with (go_at_call 42; refine (choose_any (n - 1 - s) _ _ w (by omega) (by omega) (by omega) (by omega)).mono ?_; (rintro e w1 ⟨rfl, rfl⟩))
            go_round
            case rel => exact ⟨s + 1, (r2 + chI (n - 1 - s) ((m : Int) - 1 - i)) % 18446744073709551616, by omega, by omega, by go_num, by rw [← hstep.out], hid_of (by rw [show s + 1 - nx = (s - nx) + 1 by omega, addTo, ← hr2.out, show nx + (s - nx) = s by omega])⟩
            case measure => simp [intOf]; omega
          · obtain rfl : s = e := by omega
            go_wp2
            go_round
            case rel =>
              refine ⟨i + 1, r2, s + 1, by omega, by go_num, rfl, by go_num, hid_of ?_, hid_of ?_⟩
              · have e1 : (nextAt l i).toNat = nx := by rw [← hnx.out]; simp
                have e2 : (l.getD i 0).toNat = s := by rw [← HX.out]; simp
                rw [rsI, e1, e2, ← HM.out, ← hr.out]; exact hr2.out
              · rw [show nextAt l (i + 1) = l.getD i 0 + 1 by simp [nextAt], ← HX.out]; omega
            case measure => simp [intOf]; omega
      · obtain rfl : i = m := by omega
        go_wp2
        go_ret2
        exact ⟨ret_rank (by rw [hr.out]), rfl⟩
theorem rankSub_bad (z : Int) (ao : Option Addr) (m cap : Nat) (l : List Int) (w : World) (R : Rd w (.slice ao m cap) (is l)) (hp : z < 0 ∨ 60 < z ∨ ¬ incTo z l l.length) :
    Calls Try.prog 34 #[.int .i64 z, .slice ao m cap] w fun e w' => e = .returned (.tuple #[.int .u64 0, .int .i64 1]) ∧ w = w' := by
  by_cases h0 : z < 0
  · have d0 : decide (z < 0) = true := by simp; omega
    go_enter Try.func34, Try.ntmps34
    go_wp2
    go_ret2
    exact ⟨rfl, rfl⟩
  · have d0 : decide (z < 0) = false := by simp; omega
    by_cases h1 : 60 < z
    · have d1 : decide (60 < z) = true := by simp; omega
      go_enter Try.func34, Try.ntmps34
      go_wp2
      go_ret2
      exact ⟨rfl, rfl⟩
    · have d1 : decide (60 < z) = false := by simp; omega
      have HP : Hid (Calls Try.prog 46 #[.int .i64 z, .slice ao m cap] w fun e w' => e = .returned (.bool false) ∧ w = w') := hid_of (by
        have := isInc_any z ao m cap l w R (by omega) (by omega)
        rwa [incB_no (by rcases hp with h | h | h <;> first | exact h | omega)] at this)
      clear hp R
      go_enter Try.func34, Try.ntmps34
      go_wp2_with (go_at_call 46; refine (HP.out).mono ?_; (rintro e w1 ⟨rfl, rfl⟩))
      go_ret2
      exact ⟨rfl, rfl⟩
end Go.Proofs.Ytpmajdgabpmooaa
