/- The reference's RankPermutation, RankSubset, Less. Bounds on sizes alone. -/
import Derived.Test.YtpmajdgabpmooaaRanRefB
namespace Go.Proofs.Ytpmajdgabpmooaa
open Go.RowKit

set_option maxRecDepth 100000 in
set_option maxHeartbeats 1600000 in
theorem refRank_ok (ao : Option Addr) (n cap : Nat) (l : List Int) (w : World) (R : Rd w (.slice ao n cap) (is l)) (hn20 : n ≤ 20) (hp : permB l = true) :
    Calls Try.prog 30 #[.slice ao n cap] w fun e w' => e = .returned (.tuple #[.int .u64 ((rkM l n : Nat) : Int), .int .i64 0]) ∧ Below w.heap.size w w' := by
  obtain ⟨hn, h1, h2, h3⟩ := rd_open R
  have HN := hid_of hn
  have HP : Hid (Calls Try.prog 23 #[.slice ao n cap] w fun e w' => e = .returned (.bool true) ∧ Below w.heap.size w w') := hid_of (by
    have := refPerm_any ao n cap l w R (by omega)
    rwa [hp] at this)
  have d20 : decide ((20 : Int) < (n : Int)) = false := by simp; omega
  clear R hn hp
  rcases h3 with h3 | ⟨g, o, rfl, hg, hc⟩
  · have H3 := hid_of h3
    clear h3
    go_enter Try.func30, Try.ntmps30
    go_wp2_with (go_at_call 23; refine (HP.out).mono ?_; (rintro e w1 ⟨rfl, hb⟩; have HB := hid_of hb; clear hb))
    go_loopw [4, 5] (fun rv iv wr => ∃ k : Nat, k ≤ n ∧ iv = .int .i64 k ∧ rv = .int .u64 0 ∧ w1 = wr) (fun _ iv _ => n - (intOf iv).toNat)
    case atStart => exact ⟨0, Nat.zero_le _, rfl, rfl, rfl⟩
    case round =>
      obtain ⟨k, hk, rfl, rfl, rfl⟩ := hrel
      have hge : ¬ k < n := by have := H3.out; omega
      go_wp2
      go_ret2
      have e : rkM l n = 0 := by rw [H3.out]; rfl
      exact ⟨ret_rank (by rw [e]; rfl), HB.out⟩
  · have HC := hid_of hc
    have HG := hid_of hg
    clear hc hg
    go_enter Try.func30, Try.ntmps30
    go_wp2_with (go_at_call 23; refine (HP.out).mono ?_; (rintro e w1 ⟨rfl, hb⟩; have HB := hid_of hb; clear hb))
    go_loopw [4, 5] (fun rv iv wr => ∃ k : Nat, k ≤ n ∧ iv = .int .i64 k ∧ rv = .int .u64 ((rkM l k : Nat) : Int) ∧ Hid (Below w.heap.size w wr)) (fun _ iv _ => n - (intOf iv).toNat)
    case atStart => exact ⟨0, Nat.zero_le _, rfl, rfl, HB⟩
    case round =>
      obtain ⟨wo, rfl⟩ : ∃ wo : World, wo = wr := ⟨_, rfl⟩
      obtain ⟨k, hk, rfl, rfl, hb⟩ := hrel
      have hrl := rkM_lt l k
      have HST : Hid (∀ c : Nat, c ≤ 20 → c = cntI (l.getD k 0) (l.drop (k + 1)) → IntKind.u64.wrap (IntKind.u64.wrap (((rkM l k : Nat) : Int) * ((n : Int) - (k : Int))) + (c : Int)) = ((rkM l (k + 1) : Nat) : Int)) := hid_of (fun c hc e => by
        rw [rank_step _ _ _ _ hk (by omega), e, HN.out]; rfl)
      obtain ⟨r, hr⟩ : ∃ r, r = rkM l k := ⟨_, rfl⟩
      rw [← hr] at hrl HST ⊢
      have HRL := hid_of hrl
      have HR := hid_of hr
      clear hr hrl
      by_cases hlt : k < n
      · have hd : decide (k < n) = true := by simp; omega
        have C1 := hid_of (HC.out k hlt)
        obtain ⟨x, hx⟩ : ∃ x, x = l.getD k 0 := ⟨_, rfl⟩
        rw [← hx] at C1 HST
        have HX := hid_of hx
        clear hx
        go_wp2
        go_loopw [6, 7] (fun cv jv wr => ∃ j c : Nat, k + 1 ≤ j ∧ j ≤ n ∧ jv = .int .i64 j ∧ cv = .int .u64 (c : Int) ∧ Hid (c ≤ j) ∧ Hid (c = cntI x ((l.drop (k + 1)).take (j - (k + 1)))) ∧ Hid (Below w.heap.size w wr)) (fun _ jv _ => n - (intOf jv).toNat)
        case atStart => exact ⟨k + 1, 0, Nat.le_refl _, by omega, by go_num, rfl, hid_of (Nat.zero_le _), hid_of (by rw [Nat.sub_self]; rfl), hb⟩
        case round =>
          obtain ⟨j, c, hj1, hj2, rfl, rfl, hcj, hcc, hb2⟩ := hrel
          by_cases hjl : j < n
          · have hd2 : decide (j < n) = true := by simp; omega
            have c1 : wr.cell? ⟨g, o + k, none⟩ = some (.int .i64 x) := (hb2.out.cell (p := ⟨g, o + k, none⟩) HG.out).trans C1.out
            have c2 : wr.cell? ⟨g, o + j, none⟩ = some (.int .i64 (l.getD j 0)) := (hb2.out.cell (p := ⟨g, o + j, none⟩) HG.out).trans (HC.out j hjl)
            obtain ⟨y, hy⟩ : ∃ y, y = l.getD j 0 := ⟨_, rfl⟩
            rw [← hy] at c2
            have hcs := hid_of (cnt_step (l := l) (k := k) (j := j - (k + 1)) (x := x) (y := y) (by have := HN.out; omega) (by rw [hy, show k + 1 + (j - (k + 1)) = j by omega]))
            have hjs : Hid (j + 1 - (k + 1) = j - (k + 1) + 1) := hid_of (by omega)
            have b1 : (j : Int) < (n : Int) := by omega
            have b2 : (k : Int) < (n : Int) := by omega
            have b3 : (0 : Int) ≤ (j : Int) := by omega
            have b4 : (0 : Int) ≤ (k : Int) := by omega
            have hc20 : c ≤ 20 := by have := hcj.out; omega
            clear hy
            by_cases hyx : y < x
            · have hyd : decide (y < x) = true := by simp; omega
              go_wp2
              go_quiet (fail)
              go_wp2
              go_roundw
              case rel => exact ⟨j + 1, c + 1, by omega, by omega, by go_num, by go_num, hid_of (by have := hcj.out; omega), hid_of (by rw [hjs.out, hcs.out, hcc.out, if_pos hyx]), hid_of (bel_drewN hb2.out _)⟩
              case measure => simp [intOf]; omega
            · have hyd : decide (y < x) = false := by simp; omega
              go_wp2
              go_quiet (fail)
              go_wp2
              go_roundw
              case rel => exact ⟨j + 1, c, by omega, by omega, by go_num, rfl, hid_of (by have := hcj.out; omega), hid_of (by rw [hjs.out, hcs.out, hcc.out, if_neg (by omega)]; rfl), hid_of (bel_drewN hb2.out _)⟩
              case measure => simp [intOf]; omega
          · obtain rfl : j = n := by omega
            have hd2 : decide (j < j) = false := by simp
            have hs := hid_of (HST.out c (by have := hcj.out; omega) (by rw [hcc.out, List.take_of_length_le (by rw [List.length_drop, ← HN.out]; exact Nat.le_refl _)]))
            have hw0 : IntKind.u64.wrap ((j : Int) - (k : Int)) = (j : Int) - (k : Int) := IntWalk.u64_in _ (by omega)
            have hc20 : c ≤ 20 := by have := hcj.out; omega
            have HRL2 := HRL.out
            go_wp2
            go_roundw
            case rel => exact ⟨k + 1, by omega, by go_num, by rw [← hs.out], hb2⟩
            case measure => simp [intOf]; omega
      · obtain rfl : k = n := by omega
        have hd : decide (k < k) = false := by simp
        go_wp2
        go_ret2
        exact ⟨ret_rank (by rw [HR.out]), hb.out⟩
theorem refRank_bad (ao : Option Addr) (n cap : Nat) (l : List Int) (w : World) (R : Rd w (.slice ao n cap) (is l)) (hp : 20 < n ∨ permB l = false) (hn9 : n ≤ 10000) :
    Calls Try.prog 30 #[.slice ao n cap] w fun e w' => e = .returned (.tuple #[.int .u64 0, .int .i64 1]) ∧ Below w.heap.size w w' := by
  by_cases h20 : 20 < n
  · have d20 : decide ((20 : Int) < (n : Int)) = true := by simp; omega
    go_enter Try.func30, Try.ntmps30
    go_wp2
    go_ret2
    exact ⟨rfl, Below.refl _ _⟩
  · have d20 : decide ((20 : Int) < (n : Int)) = false := by simp; omega
    have HP : Hid (Calls Try.prog 23 #[.slice ao n cap] w fun e w' => e = .returned (.bool false) ∧ Below w.heap.size w w') := hid_of (by
      have := refPerm_any ao n cap l w R hn9
      rwa [hp.resolve_left h20] at this)
    clear R hp
    go_enter Try.func30, Try.ntmps30
    go_wp2_with (go_at_call 23; refine (HP.out).mono ?_; (rintro e w1 ⟨rfl, hb⟩; have HB := hid_of hb; clear hb))
    go_ret2
    exact ⟨rfl, HB.out⟩
end Go.Proofs.Ytpmajdgabpmooaa
