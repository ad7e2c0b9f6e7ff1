/- close: the chase becomes the closure of a set; entails. Bounds on sizes alone. -/
import Derived.Test.YtjponegeidiheaaClsShr
namespace Go.Proofs.Ytjponegeidiheaa
open Go.RowKit

def CloI (w : World) (c n : Nat) (R : List Hrl) (off : Nat → Nat) (l : List Nat) (V : CV) (S : Nat → Prop) (j : Nat) (wr : World) : Prop :=
  ∃ Tj tv Sj, CH wr c n R (lackR R off []) (memB Tj) Tj 0 { V with tv := tv } Sj ∧ Chg S Sj w wr ∧ (∀ x, x ∈ Tj → Der (On R off) (fun x => x ∈ l) x) ∧ ∀ i, i ∈ (freeF R).take j → off i = 0 → ∀ x, x ∈ conc R i → x ∈ Tj
def CloP (w : World) (c n : Nat) (R : List Hrl) (off : Nat → Nat) (l : List Nat) (V : CV) (S : Nat → Prop) (e : Ending) (w' : World) : Prop :=
  e = .returned (.tuple #[]) ∧ ∃ T' tv S', CH w' c n R (lackR R off (T'.take T'.length)) (memB T') T' T'.length { V with tv := tv } S' ∧ Chg S S' w w' ∧ (∀ x, x ∈ T' ↔ Der (On R off) (fun x => x ∈ l) x)
theorem mem_freeF {R : List Hrl} {i : Nat} : i ∈ freeF R ↔ i < R.length ∧ prem R i = [] := by simp [freeF]

set_option maxRecDepth 100000 in
set_option maxHeartbeats 1600000 in
theorem clo_any (c n k : Nat) (R : List Hrl) (off : Nat → Nat) (T : List Nat) (V : CV) (S : Nat → Prop) (l : List Nat) (lv : Value) (w : World) (h : CH w c n R (lackR R off (T.take k)) (memB T) T k V S) (hk : k ≤ T.length)
    (L : Rd w lv (ints l)) (hLS : ∀ g, lv.ownBlock = some g → g < w.heap.size ∧ ¬ S g) (hl : ∀ x ∈ l, x < n) (hn : n ≤ 1000000) (hR : ∀ i, off i ≤ 1) :
    Calls Try.prog 47 #[.pointer (some ⟨c, 0, none⟩), lv] w (CloP w c n R off l V S) := by
  have HSH : Hid (Calls Try.prog 69 #[.pointer (some ⟨c, 0, none⟩), .int .i64 0] w fun e w' => e = .returned (.tuple #[]) ∧ CloI w c n R off l V S 0 w') := hid_of ((shr_any c n 0 k R off T V S w h hk (Nat.zero_le _) hn hR).mono fun e w' h5 => by
    obtain ⟨rfl, tv, q1, q2⟩ := h5
    refine ⟨rfl, [], tv, S, ?_, q2, by simp, by simp⟩
    have e0 : min k 0 = 0 := Nat.min_zero k
    rw [e0] at q1
    exact q1)
  obtain ⟨fo, fc, hfv⟩ := own_shape h.fr
  have hrd : ∀ wr Sj, Chg S Sj w wr → Rd wr lv (ints l) ∧ ∀ g, lv.ownBlock = some g → ¬ Sj g := fun wr Sj q => ⟨q.rd L fun g hg => (hLS g hg).2, fun g hg h5 => by
    rcases q.sub g h5 with h6 | h6
    · exact (hLS g hg).2 h6
    · have := (hLS g hg).1; omega⟩
  have HGR : Hid (∀ wr, CloI w c n R off l V S (freeF R).length wr → Calls Try.prog 71 #[.pointer (some ⟨c, 0, none⟩), lv, .int .i64 0] wr fun e w' => (∃ b, e = .returned (.bool b)) ∧ CloP w c n R off l V S (.returned (.tuple #[])) w') := hid_of (fun wr hi => by
    obtain ⟨Tj, tv, Sj, q1, q2, q3, q4⟩ := hi
    obtain ⟨r1, r2⟩ := hrd wr Sj q2
    refine (grow_any c n 0 0 R off Tj _ Sj l lv wr q1 (fun i hi ho hp x hx => q4 i ?_ ho x hx) (Nat.zero_le _) r1 r2 hl (Nat.zero_le _) hn hR).mono fun e w' h5 => ?_
    · rw [List.take_length]
      refine mem_freeF.2 ⟨hi, ?_⟩
      cases hpe : prem R i with
      | nil => rfl
      | cons a p => have := hp a (by rw [hpe]; simp); simp at this
    · obtain ⟨T', k', tv', S', ok, rfl, p1, p2, p3, p4, _⟩ := h5
      have hok : ok = true := by
        cases ok with
        | true => rfl
        | false => obtain ⟨x, hx, _⟩ := p3.bad rfl; omega
      obtain ⟨rfl, p5⟩ := p4 hok
      refine ⟨⟨ok, rfl⟩, rfl, T', tv', S', p1, q2.trans p2, fun x => ?_⟩
      obtain ⟨U, eU, _⟩ := p3.pre
      rw [p3.done hok (fun x hx => by
        rcases hx with hx | hx
        · rw [eU]; exact List.mem_append_left _ hx
        · exact p5 x hx) x]
      exact ⟨der_mono fun y hy => hy.elim (q3 y) Der.base, der_mono fun y hy => .base (.inr hy)⟩)
  have HPU : Hid (∀ j wr, CloI w c n R off l V S j wr → wr.cell? ⟨c, 0, none⟩ = some (.slice fo (freeF R).length fc) ∧ (j < (freeF R).length → ∃ (r x gf go gl lc mR ga : Nat) (av : Value) (ac : Nat), fo = some ⟨gf, go, none⟩ ∧ wr.cell? ⟨gf, go + j, none⟩ = some (.int .i64 (r : Int)) ∧ wr.cell? ⟨c, 3, none⟩ = some (.slice (some ⟨gl, 0, none⟩) mR lc) ∧ r < mR ∧ mR ≤ 9223372036854775807 ∧
      wr.cell? ⟨gl, r, none⟩ = some (.int .i64 (x : Nat)) ∧ wr.cell? ⟨c, 2, none⟩ = some (.slice (some ⟨ga, 0, none⟩) mR ac) ∧ wr.cell? ⟨ga, r, none⟩ = some av ∧ 
      (x ≠ 0 → CloI w c n R off l V S (j + 1) wr) ∧
      (x = 0 → Calls Try.prog 70 #[.pointer (some ⟨c, 0, none⟩), av, .int .i64 0] wr fun e w' => (∃ b, e = .returned (.bool b)) ∧ CloI w c n R off l V S (j + 1) w'))) := hid_of (fun j wr hi => by
    obtain ⟨Tj, tv, Sj, q1, q2, q3, q4⟩ := hi
    have hfo := q1.fr
    rw [hfv] at hfo
    refine ⟨by have := q1.cell (j := 0) rfl; rw [hfv] at this; exact this, fun hj => ?_⟩
    obtain ⟨gf, rfl⟩ : ∃ g, fo = some ⟨g, 0, none⟩ := by
      rcases hfo.2 with ⟨_, h6⟩ | ⟨g, _, _, h5, _⟩
      · omega
      · simp only [Value.slice.injEq] at h5; exact ⟨g, h5.1⟩
    obtain ⟨r, hr⟩ : ∃ r, (freeF R)[j]? = some r := ⟨_, List.getElem?_eq_getElem hj⟩
    obtain ⟨hrR, hrp⟩ := mem_freeF.1 (List.mem_of_getElem? hr)
    obtain ⟨lo, lc, hlv⟩ := own_shape q1.la
    have hlo := q1.la
    rw [hlv] at hlo
    obtain ⟨gl, rfl⟩ : ∃ g, lo = some ⟨g, 0, none⟩ := by
      rcases hlo.2 with ⟨_, h6⟩ | ⟨g, _, _, h5, _⟩
      · omega
      · simp only [Value.slice.injEq] at h5; exact ⟨g, h5.1⟩
    obtain ⟨ao, ac, hav⟩ := own_shape q1.ad
    have hao := q1.ad
    rw [hav] at hao
    obtain ⟨ga, rfl⟩ : ∃ g, ao = some ⟨g, 0, none⟩ := by
      rcases hao.2 with ⟨_, h6⟩ | ⟨g, _, _, h5, _⟩
      · omega
      · simp only [Value.slice.injEq] at h5; exact ⟨g, h5.1⟩
    have hal : V.ar.length = R.length := by have := q1.ad.1; rw [Nat.mul_one] at this; exact this
    obtain ⟨cv, hcv⟩ : ∃ cv, V.ar[r]? = some cv := ⟨_, List.getElem?_eq_getElem (by omega)⟩
    have hai := q1.ai r cv hcv
    have hlen : R.length ≤ 9223372036854775807 := by
      rcases own_shape2 hlo with ⟨h5, _⟩ | ⟨_, _, h5, _, h6, h7⟩
      · cases h5
      · omega
    have hlk : lackR R off [] r = off r := by unfold lackR lackF; rw [hrp]; simp
    refine ⟨r, off r, gf, 0, gl, lc, R.length, ga, cv, ac, rfl, by rw [Nat.zero_add]; exact own_cell hfo (ints_get hr), by have := q1.cell (j := 3) rfl; rw [hlv] at this; exact this, hrR, hlen, ?_, by have := q1.cell (j := 2) rfl; rw [hav] at this; exact this, own_cell hao hcv, fun hx => ?_, fun hx => ?_⟩
    · have := own_cell hlo (lks_get _ hrR)
      rw [hlk] at this; exact this
    · refine ⟨Tj, tv, Sj, q1, q2, q3, fun i hi ho => ?_⟩
      rw [take_snoc_get hr, List.mem_append, List.mem_singleton] at hi
      rcases hi with hi | rfl
      · exact q4 i hi ho
      · exact absurd ho hx
    · refine (put_any c n 0 0 R (lackR R off []) Tj _ Sj (conc R r) cv wr q1 hai.1 (fun g hg => (hai.2 g hg).2) (fun y hy => h.rn r y hrR hy) (Nat.zero_le _) hn).mono fun e w' h5 => ?_
      obtain ⟨tv', S', rfl, p1, p2⟩ := h5
      obtain ⟨U, eU, hU, _⟩ := putF_pre 0 (conc R r) Tj
      refine ⟨⟨_, rfl⟩, _, tv', S', p1, q2.trans p2, fun y hy => ?_, fun i hi ho y hy => ?_⟩
      · rw [eU, List.mem_append] at hy
        rcases hy with hy | hy
        · exact q3 y hy
        · have hg : R[r]? = some R[r] := List.getElem?_eq_getElem hrR
          refine .rule (r := R[r]) ⟨r, hg, hx⟩ (fun z hz => ?_) (by rw [← conc_of hg]; exact (hU y hy).1)
          rw [← prem_of hg, hrp] at hz
          simp at hz
      · rw [take_snoc_get hr, List.mem_append, List.mem_singleton] at hi
        rcases hi with hi | rfl
        · rw [eU]; exact List.mem_append_left _ (q4 i hi ho y hy)
        · exact putF_true 0 (conc R i) Tj (putF_zero _ _) y hy)
  obtain ⟨m, hm⟩ : ∃ m, m = (freeF R).length := ⟨_, rfl⟩
  rw [← hm] at HGR HPU
  have hmb : Hid (∀ wr, CloI w c n R off l V S 0 wr → m ≤ 9223372036854775807) := hid_of (fun wr hi => by
    obtain ⟨Tj, tv, Sj, q1, q2, q3, q4⟩ := hi
    rcases own_shape2 q1.fr with ⟨_, h6⟩ | ⟨_, _, _, _, h6, h7⟩
    · omega
    · omega)
  clear h hk L hLS hl hn hR hrd hm hfv
  go_enter Try.func47, Try.ntmps47
  go_wp2_with (go_at_call 69; ((with_reducible refine (HSH.out).mono ?_); (rintro e w1 ⟨rfl, h5⟩)); have HI := hid_of h5; clear h5; have f1 := (HPU.out 0 w1 HI.out).1)
  have hm := hmb.out w1 HI.out
  go_loopw [5, 13] (fun xv iv wr => ∃ (j : Nat) (v : Value), xv = v ∧ j ≤ m ∧ iv = .int .i64 j ∧ Hid (CloI w c n R off l V S j wr)) (fun _ iv _ => m - (intOf iv).toNat)
  case atStart => exact ⟨0, _, rfl, Nat.zero_le _, rfl, HI⟩
  case round =>
    obtain ⟨j, v, rfl, hj, rfl, hi⟩ := hrel
    by_cases hlt : j < m
    · have hd : decide (j < m) = true := by simp; omega
      obtain ⟨r, x, gf, go, gl, lc, mR, ga, av, ac, e0, e1, e2, e3, e4, e5, e6, e7, e8, e9⟩ := (HPU.out j wr hi.out).2 hlt
      subst e0
      have HA := hid_of e8
      have HB := hid_of e9
      clear e8 e9 hi f1
      by_cases hx0 : x = 0
      · have t0 : ((x : Int) == 0) = true := by simp [hx0]
        have HC := hid_of (HB.out hx0)
        clear hx0
        go_wp2_with (go_at_call 70; ((with_reducible refine (HC.out).mono ?_); (rintro e w2 ⟨⟨b, rfl⟩, h5⟩)); have HH := hid_of h5; clear h5)
        go_roundw
        case rel => exact ⟨j + 1, _, rfl, by omega, by go_num, HH⟩
        case measure => simp [intOf]; omega
      · have t0 : ((x : Int) == 0) = false := by simp [hx0]
        have HC := hid_of (HA.out hx0)
        clear hx0
        go_wp2
        go_roundw
        case rel => exact ⟨j + 1, _, rfl, by omega, by go_num, HC⟩
        case measure => simp [intOf]; omega
    · have hd : decide (j < m) = false := by simp; omega
      obtain rfl : j = m := by omega
      have HC := hid_of (HGR.out wr hi.out)
      clear hi hlt f1
      go_wp2_with (go_at_call 71; ((with_reducible refine (HC.out).mono ?_); (rintro e w2 ⟨⟨b, rfl⟩, h5⟩)); have HE := hid_of h5; clear h5)
      go_end0
      exact HE.out
end Go.Proofs.Ytjponegeidiheaa
