/- The reference of package clock: Valid, Get. -/
import Derived.Test.YtofgmimdmgaljaaClkLawM
namespace Go.Proofs.Ytofgmimdmgaljaa
open Go.RowKit

set_option maxRecDepth 100000 in
set_option maxHeartbeats 3200000 in
theorem rvalid_any (ao : Option Addr) (n cap : Nat) (l : List Tk) (w : World) (h : TRd w (.slice ao n cap) l) :
    Calls Try.prog 17 #[.slice ao n cap] w fun e w' => e = .returned (.bool (okV l)) ∧ Below w.heap.size w w' := by
  obtain ⟨hn, hc1, hc2⟩ := h.cut
  obtain ⟨R, hR⟩ : ∃ R, R = okV l := ⟨_, rfl⟩
  rw [← hR]
  have HR := hid_of hR
  have HN := hid_of hn
  have HT := hid_of h
  clear h hR hn
  go_enter Try.func17, Try.ntmps17
  go_wp2
  go_loopw [3] (fun iv wr => ∃ (k : Nat), k ≤ n ∧ iv = .int .i64 k ∧ Hid (R = okF (lastP l k) (l.drop k)) ∧ Hid (0 < k → 0 ≤ lastP l k) ∧ Hid (Below w.heap.size w wr)) (fun iv _ => n - (intOf iv).toNat)
  case atStart => exact ⟨0, Nat.zero_le _, rfl, HR, hid_of (fun h => by omega), hid_of (Below.refl _ _)⟩
  case round =>
    obtain ⟨k, hk, rfl, hp, hz, hb⟩ := hrel
    by_cases hlt : k < n
    · obtain ⟨g, o, rfl, hg, hcell⟩ := HT.out.open (by omega)
      obtain ⟨t, ht⟩ : ∃ t, l[k]? = some t := ⟨_, List.getElem?_eq_getElem (by have := HN.out; omega)⟩
      have c1 := (hb.out.cell (p := ⟨g, o + k * 2, none⟩) hg).trans (hcell k t ht).1
      have c2 := (hb.out.cell (p := ⟨g, o + k * 2 + 1, none⟩) hg).trans (hcell k t ht).2
      have ST := hid_of (hp.out.trans (okF_step ht))
      have LS := hid_of (lastP_succ ht)
      have HC := hid_of hcell
      have HT2 := hid_of ht
      obtain ⟨t1, t2⟩ := t
      have b1 : (k : Int) < (n : Int) := by omega
      have b0 : (0 : Int) ≤ (k : Int) := by omega
      have HB := hid_of hb.out
      have hzz := hid_of hz.out
      clear hcell ht hp hb hz
      have NO : (lastP l k < t1 ∧ t1 ≤ 63 ∧ 1 ≤ t2 ∧ t2 ≤ 1000000000000000 → False) → R = false := fun hno => by
        have := ST.out
        rw [this]
        have hS : (decide (lastP l k < t1) && decide (t1 ≤ 63) && decide (1 ≤ t2) && decide (t2 ≤ 1000000000000000)) = false := by
          rw [Bool.eq_false_iff]
          simp only [ne_eq, Bool.and_eq_true, decide_eq_true_eq]
          rintro ⟨⟨⟨q1, q2⟩, q3⟩, q4⟩
          exact hno ⟨q1, q2, q3, q4⟩
        show (decide (lastP l k < t1) && decide (t1 ≤ 63) && decide (1 ≤ t2) && decide (t2 ≤ 1000000000000000) && okF t1 _) = false
        rw [hS, Bool.false_and]
      have hl0 : k = 0 ∨ 0 ≤ lastP l k := by
        rcases Nat.eq_zero_or_pos k with h | h
        · exact .inl h
        · exact .inr (hzz.out h)
      have hneg : t1 < 0 → R = false := fun h0 => NO fun hh => by
        rcases hl0 with rfl | h
        · have : lastP l 0 = -1 := rfl
          omega
        · omega
      rcases (show t1 < 0 ∨ (0 ≤ t1 ∧ 63 < t1) ∨ (0 ≤ t1 ∧ t1 ≤ 63 ∧ t2 < 1) ∨ (0 ≤ t1 ∧ t1 ≤ 63 ∧ 1 ≤ t2 ∧ 1000000000000000 < t2) ∨ (0 ≤ t1 ∧ t1 ≤ 63 ∧ 1 ≤ t2 ∧ t2 ≤ 1000000000000000) by omega) with h1 | ⟨h1, h2⟩ | ⟨h1, h2, h3⟩ | ⟨h1, h2, h3, h4⟩ | ⟨h1, h2, h3, h4⟩
      · have HE := hid_of (hneg h1)
        clear NO hl0 hneg
        go_wp2
        go_ret
        exact ⟨by rw [HE.out]; rfl, HB.out⟩
      · have HE := hid_of (NO fun hh => by omega)
        clear NO hl0 hneg
        go_wp2
        go_ret
        exact ⟨by rw [HE.out]; rfl, HB.out⟩
      · have HE := hid_of (NO fun hh => by omega)
        clear NO hl0 hneg
        go_wp2
        go_ret
        exact ⟨by rw [HE.out]; rfl, HB.out⟩
      · have HE := hid_of (NO fun hh => by omega)
        clear NO hl0 hneg
        go_wp2
        go_ret
        exact ⟨by rw [HE.out]; rfl, HB.out⟩
      · have YES : Hid (lastP l k < t1 → R = okF t1 (l.drop (k + 1))) := hid_of (fun hl => by
          rw [ST.out]
          show (decide (lastP l k < t1) && decide (t1 ≤ 63) && decide (1 ≤ t2) && decide (t2 ≤ 1000000000000000) && okF t1 _) = _
          rw [decide_eq_true hl, decide_eq_true h2, decide_eq_true h3, decide_eq_true h4]
          rfl)
        have NOL : Hid (¬ lastP l k < t1 → R = false) := hid_of (fun hl => NO fun hh => hl hh.1)
        clear NO hneg hl0
        rcases Nat.eq_zero_or_pos k with hk0 | hk0
        · have HE : Hid (R = okF t1 (l.drop (k + 1))) := hid_of (YES.out (by rw [hk0]; show (-1 : Int) < t1; omega))
          have dk : decide (0 < k) = false := by simp; omega
          clear hk0
          go_wp2
          go_quiet (fail)
          go_wp2
          go_roundw
          case rel => exact ⟨k + 1, by omega, by go_num, hid_of (by rw [LS.out]; exact HE.out), hid_of (fun _ => by rw [LS.out]; exact h1), hid_of (bel_drewN HB.out _)⟩
          case measure => simp [intOf]; omega
        · obtain ⟨j, hj⟩ : ∃ j, k = j + 1 := ⟨k - 1, by omega⟩
          obtain ⟨s, hs⟩ : ∃ s, l[j]? = some s := ⟨_, List.getElem?_eq_getElem (by have := HN.out; omega)⟩
          have c3 := (HB.out.cell (p := ⟨g, o + j * 2, none⟩) hg).trans (HC.out j s hs).1
          have LP : Hid (lastP l k = s.1) := hid_of (by rw [hj]; exact lastP_succ hs)
          have aw : IntKind.i64.wrap ((k : Int) - 1) = (j : Int) := by rw [hj, IntWalk.i64_in _ (by omega)]; omega
          obtain ⟨s1, s2⟩ := s
          have b2 : (0 : Int) ≤ (j : Int) := by omega
          have b3 : (j : Int) < (n : Int) := by omega
          have bk : (0 : Int) < (k : Int) := by omega
          have dk : decide (0 < k) = true := by simp; omega
          clear hs hj hk0
          by_cases hq : t1 ≤ s1
          · have HE : Hid (R = false) := hid_of (NOL.out (by rw [LP.out]; omega))
            have dq : decide (t1 ≤ s1) = true := by simp; omega
            clear hq
            go_wp2
            go_quiet (fail)
            go_wp2
            go_ret
            exact ⟨by rw [HE.out]; rfl, bel_drewN HB.out _⟩
          · have HE : Hid (R = okF t1 (l.drop (k + 1))) := hid_of (YES.out (by rw [LP.out]; omega))
            have dq : decide (t1 ≤ s1) = false := by simp; omega
            clear hq
            go_wp2
            go_quiet (fail)
            go_wp2
            go_roundw
            case rel => exact ⟨k + 1, by omega, by go_num, hid_of (by rw [LS.out]; exact HE.out), hid_of (fun _ => by rw [LS.out]; exact h1), hid_of (bel_drewN HB.out _)⟩
            case measure => simp [intOf]; omega
    · obtain rfl : k = n := by omega
      have HB := hid_of hb.out
      have HE : Hid (R = true) := hid_of (by rw [hp.out, List.drop_of_length_le (by have := HN.out; omega)]; rfl)
      clear hp
      go_wp2
      go_ret
      exact ⟨by rw [HE.out]; rfl, HB.out⟩

set_option maxHeartbeats 800000 in
theorem rget_any (ao : Option Addr) (n cap : Nat) (l : List Tk) (p : Int) (w : World) (h : TRd w (.slice ao n cap) l) :
    Calls Try.prog 19 #[.slice ao n cap, .int .i64 p] w fun e w' => e = .returned (.int .i64 (if okV l = true then look l p else 0)) ∧ Below w.heap.size w w' := by
  obtain ⟨hn, hc1, hc2⟩ := h.cut
  have HN := hid_of hn
  have HT := hid_of h
  by_cases hv : okV l = true
  · rw [if_pos hv]
    obtain ⟨R, hR⟩ : ∃ R, R = look l p := ⟨_, rfl⟩
    rw [← hR]
    have HR := hid_of hR
    have HV : Hid (Calls Try.prog 17 #[.slice ao n cap] w fun e w'' => e = .returned (.bool true) ∧ Below w.heap.size w w'') := hid_of (by rw [← hv]; exact rvalid_any ao n cap l w h)
    clear h hR hn hv
    go_enter Try.func19, Try.ntmps19
    go_wp2_with (go_at_call 17; ((with_reducible refine HV.out.mono ?_); (rintro e w1 ⟨rfl, h1⟩; have HB1 := hid_of h1; clear h1)))
    go_loopw [5] (fun iv wr => ∃ (k : Nat), k ≤ n ∧ iv = .int .i64 k ∧ Hid (R = look (l.drop k) p) ∧ Hid (Below w.heap.size w wr)) (fun iv _ => n - (intOf iv).toNat)
    case atStart => exact ⟨0, Nat.zero_le _, rfl, hid_of HR.out, HB1⟩
    case round =>
      obtain ⟨k, hk, rfl, hp, hb⟩ := hrel
      by_cases hlt : k < n
      · obtain ⟨g, o, rfl, hg, hcell⟩ := HT.out.open (by omega)
        obtain ⟨t, ht⟩ : ∃ t, l[k]? = some t := ⟨_, List.getElem?_eq_getElem (by have := HN.out; omega)⟩
        have c1 := (hb.out.cell (p := ⟨g, o + k * 2, none⟩) hg).trans (hcell k t ht).1
        have c2 := (hb.out.cell (p := ⟨g, o + k * 2 + 1, none⟩) hg).trans (hcell k t ht).2
        have ST : Hid (R = if t.1 = p then t.2 else look (l.drop (k + 1)) p) := hid_of (by
          obtain ⟨hk, e⟩ := List.getElem?_eq_some_iff.1 ht
          rw [hp.out, List.drop_eq_getElem_cons hk, e]
          rfl)
        obtain ⟨t1, t2⟩ := t
        have b1 : (k : Int) < (n : Int) := by omega
        have b0 : (0 : Int) ≤ (k : Int) := by omega
        have HB := hid_of hb.out
        clear hcell hp ht hb
        by_cases hq : t1 = p
        · have d : (t1 == p) = true := by simp [hq]
          have HE : Hid (R = t2) := hid_of (by rw [ST.out, if_pos hq])
          clear hq
          go_wp2
          go_ret
          exact ⟨by rw [HE.out]; rfl, HB.out⟩
        · have d : (t1 == p) = false := by simp [hq]
          have HE : Hid (R = look (l.drop (k + 1)) p) := hid_of (by rw [ST.out, if_neg hq])
          clear hq
          go_wp2
          go_roundw
          case rel => exact ⟨k + 1, by omega, by go_num, HE, HB⟩
          case measure => simp [intOf]; omega
      · obtain rfl : k = n := by omega
        have HB := hid_of hb.out
        have HE : Hid (R = 0) := hid_of (by rw [hp.out, List.drop_of_length_le (by have := HN.out; omega)]; rfl)
        clear hp
        go_wp2
        go_ret
        exact ⟨by rw [HE.out]; rfl, HB.out⟩
  · rw [if_neg hv]
    have hv' : okV l = false := by simpa using hv
    have HV : Hid (Calls Try.prog 17 #[.slice ao n cap] w fun e w'' => e = .returned (.bool false) ∧ Below w.heap.size w w'') := hid_of (by rw [← hv']; exact rvalid_any ao n cap l w h)
    clear h hn hv hv'
    go_enter Try.func19, Try.ntmps19
    go_wp2_with (go_at_call 17; ((with_reducible refine HV.out.mono ?_); (rintro e w1 ⟨rfl, h1⟩; have HB1 := hid_of h1; clear h1)))
    go_ret
    exact ⟨rfl, HB1.out⟩
end Go.Proofs.Ytofgmimdmgaljaa
