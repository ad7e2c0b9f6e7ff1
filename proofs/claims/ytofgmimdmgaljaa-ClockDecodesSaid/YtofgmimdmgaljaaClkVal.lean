/- Valid, Get, firstProcess, cut of package clock; Same of the reference; long. -/
import Derived.Test.YtofgmimdmgaljaaClkRow
import Derived.Laws.StructEq
namespace Go.Proofs.Ytofgmimdmgaljaa
open Go.RowKit

/-- The process of the tick before k. -/
def lastP (l : List Tk) : Nat → Int
  | 0 => -1
  | k + 1 => (l.getD k (0, 0)).1
theorem okF_step {l : List Tk} {k : Nat} {t : Tk} (h : l[k]? = some t) : okF (lastP l k) (l.drop k) = (decide (lastP l k < t.1) && decide (t.1 ≤ 63) && decide (1 ≤ t.2) && decide (t.2 ≤ 1000000000000000) && okF t.1 (l.drop (k + 1))) := by
  obtain ⟨hk, e⟩ := List.getElem?_eq_some_iff.1 h
  rw [List.drop_eq_getElem_cons hk, e]
  rfl
theorem lastP_succ {l : List Tk} {k : Nat} {t : Tk} (h : l[k]? = some t) : lastP l (k + 1) = t.1 := by
  obtain ⟨hk, e⟩ := List.getElem?_eq_some_iff.1 h
  show (l.getD k (0, 0)).1 = t.1
  simp [List.getD, h]
theorem TRd.open {w : World} {ao : Option Addr} {n cap : Nat} {l : List Tk} (h : TRd w (.slice ao n cap) l) (h0 : 0 < n) :
    ∃ g o, ao = some ⟨g, o, none⟩ ∧ g < w.heap.size ∧ ∀ i t, l[i]? = some t → w.cell? ⟨g, o + i * 2, none⟩ = some (.int .i64 t.1) ∧ w.cell? ⟨g, o + i * 2 + 1, none⟩ = some (.int .i64 t.2) := by
  obtain ⟨a, c, e, _, _, h4⟩ := h
  simp only [Value.slice.injEq] at e
  obtain ⟨rfl, rfl, rfl⟩ := e
  exact h4 h0

set_option maxHeartbeats 800000 in
theorem valid_any (ao : Option Addr) (n cap : Nat) (l : List Tk) (w : World) (h : TRd w (.slice ao n cap) l) :
    Calls Try.prog 16 #[.slice ao n cap] w fun e w' => e = .returned (.bool (okV l)) ∧ Below w.heap.size w w' := by
  obtain ⟨hn, hc1, hc2⟩ := h.cut
  obtain ⟨R, hR⟩ : ∃ R, R = okV l := ⟨_, rfl⟩
  rw [← hR]
  have HR := hid_of hR
  have HN := hid_of hn
  have HT := hid_of h
  clear h hR hn
  go_enter Try.func16, Try.ntmps16
  go_wp2
  go_loopw [3, 8] (fun lv iv wr => ∃ (k : Nat) (p : Int), k ≤ n ∧ iv = .int .i64 k ∧ lv = .int .i64 p ∧ Hid (p = lastP l k ∧ R = okF p (l.drop k)) ∧ Hid (Below w.heap.size w wr)) (fun _ iv _ => n - (intOf iv).toNat)
  case atStart => exact ⟨0, -1, Nat.zero_le _, rfl, rfl, hid_of ⟨rfl, HR.out⟩, hid_of (Below.refl _ _)⟩
  case round =>
    obtain ⟨k, p, hk, rfl, rfl, hp, hb⟩ := hrel
    by_cases hlt : k < n
    · obtain ⟨g, o, rfl, hg, hcell⟩ := HT.out.open (by omega)
      obtain ⟨t, ht⟩ : ∃ t, l[k]? = some t := ⟨_, List.getElem?_eq_getElem (by have := HN.out; omega)⟩
      have c1 := (hb.out.cell (p := ⟨g, o + k * 2, none⟩) hg).trans (hcell k t ht).1
      have c2 := (hb.out.cell (p := ⟨g, o + k * 2 + 1, none⟩) hg).trans (hcell k t ht).2
      have st := okF_step ht
      rw [← hp.out.1] at st
      have ST := hid_of (hp.out.2.trans st)
      have LS := hid_of (lastP_succ ht)
      obtain ⟨t1, t2⟩ := t
      have b1 : (k : Int) < (n : Int) := by omega
      have b0 : (0 : Int) ≤ (k : Int) := by omega
      have HB := hid_of hb.out
      clear hcell st hp ht
      go_wp2
      all_goals first
        | (go_roundw
           case rel =>
             have hS : (decide (p < t1) && decide (t1 ≤ 63) && decide (1 ≤ t2) && decide (t2 ≤ 1000000000000000)) = true := by
               simp only [Bool.and_eq_true, decide_eq_true_eq]; omega
             exact ⟨k + 1, t1, by omega, by go_num, rfl, hid_of ⟨LS.out.symm, by have := ST.out; rw [hS, Bool.true_and] at this; exact this⟩, hid_of (HB.out.alloc HB.out.size _)⟩
           case measure => simp [intOf]; omega)
        | (go_ret
           refine ⟨?_, HB.out.alloc HB.out.size _⟩
           have hS : (decide (p < t1) && decide (t1 ≤ 63) && decide (1 ≤ t2) && decide (t2 ≤ 1000000000000000)) = false := by
             rw [Bool.eq_false_iff]
             simp only [ne_eq, Bool.and_eq_true, decide_eq_true_eq]; omega
           have := ST.out
           rw [hS, Bool.false_and] at this
           rw [this]
           rfl)
    · obtain rfl : k = n := by omega
      have HB := hid_of hb.out
      have HE : Hid (R = true) := hid_of (by rw [hp.out.2, List.drop_of_length_le (by have := HN.out; omega)]; rfl)
      clear hp
      go_wp2
      go_ret
      exact ⟨by rw [HE.out]; rfl, HB.out⟩

set_option maxHeartbeats 800000 in
theorem get_any (ao : Option Addr) (n cap : Nat) (l : List Tk) (p : Int) (w : World) (h : TRd w (.slice ao n cap) l) :
    Calls Try.prog 18 #[.slice ao n cap, .int .i64 p] w fun e w' => e = .returned (.int .i64 (if okV l = true then look l p else 0)) ∧ Below w.heap.size w w' := by
  obtain ⟨hn, hc1, hc2⟩ := h.cut
  have HN := hid_of hn
  have HT := hid_of h
  by_cases hv : okV l = true
  · rw [if_pos hv]
    obtain ⟨R, hR⟩ : ∃ R, R = look l p := ⟨_, rfl⟩
    rw [← hR]
    have HR := hid_of hR
    have HV : Hid (∀ w', Below w.heap.size w w' → Calls Try.prog 16 #[.slice ao n cap] w' fun e w'' => e = .returned (.bool true) ∧ Below w'.heap.size w' w'') := hid_of (fun w' hb => by rw [← hv]; exact valid_any ao n cap l w' (h.at hb))
    clear h hR hn hv
    go_enter Try.func18, Try.ntmps18
    go_wp2_with (go_at_call 16; ((with_reducible refine (HV.out w (Below.refl _ _)).mono ?_); (rintro e w1 ⟨rfl, h1⟩; have HB1 := hid_of h1; clear h1)))
    go_loopw [12] (fun iv wr => ∃ (k : Nat), k ≤ n ∧ iv = .int .i64 k ∧ Hid (R = look (l.drop k) p) ∧ Hid (Below w.heap.size w wr)) (fun iv _ => n - (intOf iv).toNat)
    case atStart => exact ⟨0, Nat.zero_le _, rfl, hid_of HR.out, HB1⟩
    case round =>
      obtain ⟨k, hk, rfl, hp, hb⟩ := hrel
      by_cases hlt : k < n
      · obtain ⟨g, o, rfl, hg, hcell⟩ := HT.out.open (by omega)
        obtain ⟨t, ht⟩ : ∃ t, l[k]? = some t := ⟨_, List.getElem?_eq_getElem (by have := HN.out; omega)⟩
        have c1 := (hb.out.cell (p := ⟨g, o + k * 2, none⟩) hg).trans (hcell k t ht).1
        have c2 := (hb.out.cell (p := ⟨g, o + k * 2 + 1, none⟩) hg).trans (hcell k t ht).2
        have ST : Hid (R = if t.1 = p then t.2 else look (l.drop (k + 1)) p) := hid_of (by
          obtain ⟨hk, e⟩ := List.getElem?_eq_some_iff.1 ht
          rw [hp.out, List.drop_eq_getElem_cons hk, e]
          rfl)
        obtain ⟨t1, t2⟩ := t
        have b1 : (k : Int) < (n : Int) := by omega
        have b0 : (0 : Int) ≤ (k : Int) := by omega
        have HB := hid_of hb.out
        clear hcell hp ht
        by_cases hq : t1 = p
        · have d : (t1 == p) = true := by simp [hq]
          have HE : Hid (R = t2) := hid_of (by rw [ST.out, if_pos hq])
          clear hq
          go_wp2
          go_ret
          exact ⟨by rw [HE.out]; rfl, HB.out.alloc HB.out.size _⟩
        · have d : (t1 == p) = false := by simp [hq]
          have HE : Hid (R = look (l.drop (k + 1)) p) := hid_of (by rw [ST.out, if_neg hq])
          clear hq
          go_wp2
          go_roundw
          case rel => exact ⟨k + 1, by omega, by go_num, HE, hid_of (HB.out.alloc HB.out.size _)⟩
          case measure => simp [intOf]; omega
      · obtain rfl : k = n := by omega
        have HB := hid_of hb.out
        have HE : Hid (R = 0) := hid_of (by rw [hp.out, List.drop_of_length_le (by have := HN.out; omega)]; rfl)
        clear hp
        go_wp2
        go_ret
        exact ⟨by rw [HE.out]; rfl, HB.out⟩
  · rw [if_neg hv]
    have hv' : okV l = false := by simpa using hv
    have HV : Hid (Calls Try.prog 16 #[.slice ao n cap] w fun e w'' => e = .returned (.bool false) ∧ Below w.heap.size w w'') := hid_of (by rw [← hv']; exact valid_any ao n cap l w h)
    clear h hn hv hv'
    go_enter Try.func18, Try.ntmps18
    go_wp2_with (go_at_call 16; ((with_reducible refine HV.out.mono ?_); (rintro e w1 ⟨rfl, h1⟩; have HB1 := hid_of h1; clear h1)))
    go_ret
    exact ⟨rfl, HB1.out⟩

theorem ret_i {a b : Int} (h : a = b) : Ending.returned (.int .i64 a) = Ending.returned (.int .i64 b) := by rw [h]
/-- The least process of two vectors, 63 if both are empty. -/
def firstP : List Tk → List Tk → Int
  | [], [] => 63
  | t :: _, [] => t.1
  | [], s :: _ => min 63 s.1
  | t :: _, s :: _ => min t.1 s.1
theorem TRd.at0 {w : World} {ao : Option Addr} {n cap : Nat} {t : Tk} {r : List Tk} (h : TRd w (.slice ao n cap) (t :: r)) :
    ∃ g o, ao = some ⟨g, o, none⟩ ∧ w.cell? ⟨g, o, none⟩ = some (.int .i64 t.1) ∧ w.cell? ⟨g, o + 1, none⟩ = some (.int .i64 t.2) := by
  obtain ⟨hn, _, _⟩ := h.cut
  obtain ⟨g, o, e, _, hc⟩ := h.open (by rw [hn]; simp)
  have := hc 0 t rfl
  simp only [Nat.zero_mul, Nat.add_zero] at this
  exact ⟨g, o, e, this.1, this.2⟩
theorem first_any (ao bo : Option Addr) (n cap m cbp : Nat) (a b : List Tk) (w : World) (ha : TRd w (.slice ao n cap) a) (hb : TRd w (.slice bo m cbp) b) :
    Calls Try.prog 48 #[.slice ao n cap, .slice bo m cbp] w fun e w' => e = .returned (.int .i64 (firstP a b)) ∧ w = w' := by
  obtain ⟨hn, hn1, hn2⟩ := ha.cut
  obtain ⟨hm, hm1, hm2⟩ := hb.cut
  cases a with
  | nil =>
    obtain rfl : n = 0 := hn
    cases b with
    | nil =>
      obtain rfl : m = 0 := hm
      clear ha hb
      go_enter Try.func48, Try.ntmps48
      go_wp2
      go_ret
      exact ⟨rfl, rfl⟩
    | cons s u =>
      obtain ⟨g, o, rfl, c, _⟩ := hb.at0
      have hp : 0 < m := by rw [hm]; simp
      have b1 : (0 : Int) < (m : Int) := by omega
      obtain ⟨s1, s2⟩ := s
      clear ha hb hm
      go_enter Try.func48, Try.ntmps48
      go_wp2
      all_goals go_ret
      all_goals exact ⟨ret_i (by simp only [firstP]; omega), rfl⟩
  | cons t r =>
    obtain ⟨g, o, rfl, c, _⟩ := ha.at0
    have hp : 0 < n := by rw [hn]; simp
    have b1 : (0 : Int) < (n : Int) := by omega
    obtain ⟨t1, t2⟩ := t
    cases b with
    | nil =>
      obtain rfl : m = 0 := hm
      clear ha hb hn
      go_enter Try.func48, Try.ntmps48
      go_wp2
      go_ret
      exact ⟨rfl, rfl⟩
    | cons s u =>
      obtain ⟨g2, o2, rfl, c2, _⟩ := hb.at0
      have hq : 0 < m := by rw [hm]; simp
      have b2 : (0 : Int) < (m : Int) := by omega
      obtain ⟨s1, s2⟩ := s
      clear ha hb hn hm
      go_enter Try.func48, Try.ntmps48
      go_wp2
      all_goals go_ret
      all_goals exact ⟨ret_i (by simp only [firstP]; omega), rfl⟩

theorem TRd.tail {w : World} {g o n cap : Nat} {t : Tk} {r : List Tk} (h : TRd w (.slice (some ⟨g, o, none⟩) n cap) (t :: r)) : TRd w (.slice (some ⟨g, o + 2, none⟩) (n - 1) (cap - 1)) r := by
  obtain ⟨hn, hn1, hn2⟩ := h.cut
  obtain ⟨g', o', e, hg, hc⟩ := h.open (by rw [hn]; simp)
  simp only [Option.some.injEq, Addr.mk.injEq] at e
  obtain ⟨rfl, rfl, _⟩ := e
  have hr : r.length = n - 1 := by rw [hn]; simp
  refine ⟨_, _, by rw [hr], by omega, by omega, fun h0 => ⟨_, _, rfl, hg, fun i t ht => ?_⟩⟩
  have := hc (i + 1) t (by simpa using ht)
  rw [show o + (i + 1) * 2 = o + 2 + i * 2 by omega] at this
  exact this
theorem TRd.tail1 {w : World} {g o n : Nat} {t : Tk} {r : List Tk} (h : TRd w (.slice (some ⟨g, o, none⟩) n 1) (t :: r)) : TRd w (.slice (some ⟨g, o, none⟩) (n - 1) 0) r := by
  obtain ⟨hn, hn1, hn2⟩ := h.cut
  have hr : r = [] := List.eq_nil_of_length_eq_zero (by simp at hn; omega)
  subst hr
  exact ⟨_, _, by rw [hn]; rfl, Nat.zero_le _, by omega, fun h0 => by simp at h0⟩

def cutX : List Tk → Int → Int
  | [], _ => 0
  | t :: _, p => if t.1 = p then t.2 else 0
def cutR : List Tk → Int → List Tk
  | [], _ => []
  | t :: r, p => if t.1 = p then r else t :: r
theorem cut_any (ao : Option Addr) (n cap : Nat) (l : List Tk) (p : Int) (w : World) (h : TRd w (.slice ao n cap) l) :
    Calls Try.prog 49 #[.slice ao n cap, .int .i64 p] w fun e w' => ∃ a2 n2 c2, e = .returned (.tuple #[.int .i64 (cutX l p), .slice a2 n2 c2]) ∧ (∀ w0, TRd w0 (.slice ao n cap) l → TRd w0 (.slice a2 n2 c2) (cutR l p)) ∧ Below w.heap.size w w' := by
  obtain ⟨hn, hn1, hn2⟩ := h.cut
  have HT := hid_of h
  cases l with
  | nil =>
    obtain rfl : n = 0 := hn
    clear h
    go_enter Try.func49, Try.ntmps49
    go_wp2
    go_ret2
    exact ⟨_, _, _, rfl, fun _ h => h, Below.refl _ _⟩
  | cons t r =>
    obtain ⟨g, o, rfl, c1, c2⟩ := h.at0
    have hp : 0 < n := by rw [hn]; simp
    have b1 : (0 : Int) < (n : Int) := by omega
    have b2 : (1 : Int) ≤ (n : Int) := by omega
    have b3 : (1 : Int) ≤ (cap : Int) := by omega
    obtain ⟨t1, t2⟩ := t
    have e0 : ((n : Int) == 0) = false := by simp; omega
    clear h hn
    by_cases ht : t1 = p
    · have d : (t1 != p) = false := by simp [ht]
      have HE : Hid (cutX ((t1, t2) :: r) p = t2 ∧ cutR ((t1, t2) :: r) p = r) := hid_of ⟨if_pos ht, if_pos ht⟩
      clear ht
      go_enter Try.func49, Try.ntmps49
      go_wp2
      go_quiet (fail)
      go_wp2
      all_goals go_ret2
      all_goals refine ⟨_, _, _, by rw [HE.out.1]; rfl, ?_, bel_drewN (Below.refl _ _) _⟩
      all_goals intro w0 h0
      all_goals rw [HE.out.2]
      all_goals first
        | exact h0.tail
        | (have hcap : cap = 1 := by assumption
           subst hcap; exact h0.tail1)
    · have d : (t1 != p) = true := by simp [ht]
      have HE : Hid (cutX ((t1, t2) :: r) p = 0 ∧ cutR ((t1, t2) :: r) p = (t1, t2) :: r) := hid_of ⟨if_neg ht, if_neg ht⟩
      clear ht
      go_enter Try.func49, Try.ntmps49
      go_wp2
      go_ret2
      exact ⟨_, _, _, by rw [HE.out.1]; rfl, fun w0 h0 => by rw [HE.out.2]; exact h0, Below.refl _ _⟩

theorem long_any (ao : Option Addr) (n cap : Nat) (w : World) :
    Calls Try.prog 13 #[.slice ao n cap] w fun e w' => e = .returned (.bool (decide (200 < n))) ∧ w = w' := by
  have d : decide ((200 : Int) < (n : Int)) = decide (200 < n) := by
    by_cases h : 200 < n
    · rw [decide_eq_true h, decide_eq_true (by omega)]
    · rw [decide_eq_false h, decide_eq_false (by omega)]
  go_enter Try.func13, Try.ntmps13
  go_wp2
  go_ret
  exact ⟨by rw [← d]; rfl, rfl⟩

theorem neq_tick (s1 s2 t1 t2 : Int) (w : World) : (binOp .neq 41 (.agg #[.int .i64 s1, .int .i64 s2]) (.agg #[.int .i64 t1, .int .i64 t2])).run Try.prog w = .ok (.bool (!(decide ((s1, s2) = (t1, t2))))) w := by
  have hu := Try.underlying41
  have hp : Try.prog.stoodInHeld 41 = false := by kernel_rfl
  have h3 := Try.underlying3
  have h2 := Try.underlying2
  go_simp
  by_cases q1 : s1 = t1 <;> by_cases q2 : s2 = t2 <;> simp [q1, q2]
theorem eqg_tick (x y : Operand) (s t : Array Value) (w : World) : (eqGuard .neq 41 x y (.agg s) (.agg t)).run Try.prog w = .ok () w := run_eqGuard_agg w _ _ _ _ _ _ (by kernel_rfl)
theorem same_lt {a b : List Tk} {k : Nat} {s t : Tk} (ha : a[k]? = some s) (hb : b[k]? = some t) : (decide (a.drop k = b.drop k)) = (decide (s = t) && decide (a.drop (k + 1) = b.drop (k + 1))) := by
  obtain ⟨h1, e1⟩ := List.getElem?_eq_some_iff.1 ha
  obtain ⟨h2, e2⟩ := List.getElem?_eq_some_iff.1 hb
  rw [List.drop_eq_getElem_cons h1, List.drop_eq_getElem_cons h2, e1, e2, Bool.eq_iff_iff]
  simp
set_option maxHeartbeats 800000 in
theorem same_any (ao bo : Option Addr) (n cap m cbp : Nat) (a b : List Tk) (w : World) (ha : TRd w (.slice ao n cap) a) (hb : TRd w (.slice bo m cbp) b) :
    Calls Try.prog 20 #[.slice ao n cap, .slice bo m cbp] w fun e w' => e = .returned (.bool (decide (a = b))) ∧ Below w.heap.size w w' := by
  obtain ⟨hn, hn1, hn2⟩ := ha.cut
  obtain ⟨hm, hm1, hm2⟩ := hb.cut
  obtain ⟨R, hR⟩ : ∃ R, R = decide (a = b) := ⟨_, rfl⟩
  rw [← hR]
  have HR := hid_of hR
  have HA := hid_of ha
  have HB := hid_of hb
  have HN := hid_of hn
  have HM := hid_of hm
  clear ha hb hn hm hR
  by_cases hne : n = m
  · subst hne
    have d0 : ((n : Int) != (n : Int)) = false := by simp
    go_enter Try.func20, Try.ntmps20
    go_wp2
    go_loopw [5] (fun iv wr => ∃ k : Nat, k ≤ n ∧ iv = .int .i64 k ∧ Hid (R = decide (a.drop k = b.drop k)) ∧ Hid (Below w.heap.size w wr)) (fun iv _ => n - (intOf iv).toNat)
    case atStart => exact ⟨0, Nat.zero_le _, rfl, HR, hid_of (Below.refl _ _)⟩
    case round =>
      obtain ⟨k, hk, rfl, hp, hb⟩ := hrel
      by_cases hlt : k < n
      · obtain ⟨g, o, rfl, hg, hcell⟩ := HA.out.open (by omega)
        obtain ⟨g2, o2, rfl, hg2, hcell2⟩ := HB.out.open (by omega)
        obtain ⟨s, hs⟩ : ∃ s, a[k]? = some s := ⟨_, List.getElem?_eq_getElem (by have := HN.out; omega)⟩
        obtain ⟨t, ht⟩ : ∃ t, b[k]? = some t := ⟨_, List.getElem?_eq_getElem (by have := HM.out; omega)⟩
        have c1 := (hb.out.cell (p := ⟨g, o + k * 2, none⟩) hg).trans (hcell k s hs).1
        have c2 := (hb.out.cell (p := ⟨g, o + k * 2 + 1, none⟩) hg).trans (hcell k s hs).2
        have c3 := (hb.out.cell (p := ⟨g2, o2 + k * 2, none⟩) hg2).trans (hcell2 k t ht).1
        have c4 := (hb.out.cell (p := ⟨g2, o2 + k * 2 + 1, none⟩) hg2).trans (hcell2 k t ht).2
        have ST := hid_of (hp.out.trans (same_lt hs ht))
        obtain ⟨s1, s2⟩ := s
        obtain ⟨t1, t2⟩ := t
        have b1 : (k : Int) < (n : Int) := by omega
        have b0 : (0 : Int) ≤ (k : Int) := by omega
        have HBB := hid_of hb.out
        clear hcell hcell2 hp hs ht
        obtain ⟨q, hq⟩ : ∃ q, q = decide ((s1, s2) = (t1, t2)) := ⟨_, rfl⟩
        have kn := neq_tick s1 s2 t1 t2
        have kg := eqg_tick
        rw [← hq] at ST kn
        clear hq
        cases q
        · have HE : Hid (R = false) := hid_of (by rw [ST.out]; rfl)
          go_wp2
          go_quiet (fail)
          go_wp2
          go_ret
          exact ⟨by rw [HE.out]; rfl, bel_drewN HBB.out _⟩
        · have HE : Hid (R = decide (a.drop (k + 1) = b.drop (k + 1))) := hid_of (by rw [ST.out, Bool.true_and])
          go_wp2
          go_quiet (fail)
          go_wp2
          go_roundw
          case rel => exact ⟨k + 1, by omega, by go_num, HE, hid_of (bel_drewN HBB.out _)⟩
          case measure => simp [intOf]; omega
      · obtain rfl : k = n := by omega
        have HBB := hid_of hb.out
        have HE : Hid (R = true) := hid_of (by rw [hp.out, List.drop_of_length_le (by have := HN.out; omega), List.drop_of_length_le (by have := HM.out; omega)]; rfl)
        clear hp
        go_wp2
        go_ret
        exact ⟨by rw [HE.out]; rfl, HBB.out⟩
  · have HE : Hid (R = false) := hid_of (by
      rw [HR.out]
      refine decide_eq_false fun e => hne ?_
      rw [HN.out, HM.out, e])
    have d0 : ((n : Int) != (m : Int)) = true := by simp; omega
    go_enter Try.func20, Try.ntmps20
    go_wp2
    go_ret
    exact ⟨by rw [HE.out]; rfl, Below.refl _ _⟩
end Go.Proofs.Ytofgmimdmgaljaa
