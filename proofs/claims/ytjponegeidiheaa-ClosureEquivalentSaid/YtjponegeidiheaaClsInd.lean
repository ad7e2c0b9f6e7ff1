/- indices: a set of names as numbers; named: numbers as names. Bounds on sizes alone. -/
import Derived.Test.YtjponegeidiheaaNmBs
import Derived.Test.YtjponegeidiheaaClsPut
namespace Go.Proofs.Ytjponegeidiheaa
open Go.RowKit

/-- L are the places of the names s in U. -/
def Ix (U s : List Str) (L : List Nat) : Prop := L.map (fun i => U[i]?) = s.map some
theorem Ix.len {U s : List Str} {L : List Nat} (h : Ix U s L) : L.length = s.length := by
  have := congrArg List.length h
  simpa using this
theorem Ix.snoc {U s : List Str} {L : List Nat} {x : Str} {i : Nat} (h : Ix U s L) (hi : U[i]? = some x) : Ix U (s ++ [x]) (L ++ [i]) := by
  unfold Ix at *
  simp [h, hi]
theorem Ix.get {U s : List Str} {L : List Nat} (h : Ix U s L) {k i : Nat} (hi : L[k]? = some i) : ∃ x, s[k]? = some x ∧ U[i]? = some x := by
  have h1 : (L.map (fun i => U[i]?))[k]? = some (U[i]?) := by simp [hi]
  rw [h] at h1
  simp only [List.getElem?_map] at h1
  cases hs : s[k]? with
  | none => rw [hs] at h1; simp at h1
  | some x => rw [hs] at h1; simp at h1; exact ⟨x, rfl, h1.symm⟩
theorem Ix.back {U s : List Str} {L : List Nat} (h : Ix U s L) {k : Nat} {x : Str} (hx : s[k]? = some x) : ∃ i, L[k]? = some i ∧ U[i]? = some x := by
  have hk : k < L.length := by rw [h.len]; exact (List.getElem?_eq_some_iff.1 hx).1
  obtain ⟨y, h1, h2⟩ := h.get (List.getElem?_eq_getElem hk)
  rw [hx] at h1
  cases h1
  exact ⟨_, List.getElem?_eq_getElem hk, h2⟩
theorem Ix.mem {U s : List Str} {L : List Nat} (h : Ix U s L) {i : Nat} (hi : i ∈ L) : ∃ x, x ∈ s ∧ U[i]? = some x := by
  obtain ⟨k, hk⟩ := List.getElem?_of_mem hi
  obtain ⟨x, h1, h2⟩ := h.get hk
  exact ⟨x, List.mem_of_getElem? h1, h2⟩
theorem Ix.mem_back {U s : List Str} {L : List Nat} (h : Ix U s L) {x : Str} (hx : x ∈ s) : ∃ i, i ∈ L ∧ U[i]? = some x := by
  obtain ⟨k, hk⟩ := List.getElem?_of_mem hx
  obtain ⟨i, h1, h2⟩ := h.back hk
  exact ⟨i, List.mem_of_getElem? h1, h2⟩
theorem Ix.lt {U s : List Str} {L : List Nat} (h : Ix U s L) {i : Nat} (hi : i ∈ L) : i < U.length := by
  obtain ⟨x, _, h2⟩ := h.mem hi
  exact (List.getElem?_eq_some_iff.1 h2).1

def IndP (U s : List Str) (w : World) (e : Ending) (w' : World) : Prop :=
  (¬ SS s ∧ e = .returned (.tuple #[.slice none 0 0, .int .i64 1]) ∧ Below w.heap.size w w') ∨
  (SS s ∧ (¬ ∀ x, x ∈ s → x ∈ U) ∧ e = .returned (.tuple #[.slice none 0 0, .int .i64 3]) ∧ Below w.heap.size w w') ∨
  (SS s ∧ (∀ x, x ∈ s → x ∈ U) ∧ ∃ L ao cap, e = .returned (.tuple #[.slice ao s.length cap, .int .i64 0]) ∧ Ix U s L ∧ Ow 3 w.heap.size w w' (.slice ao s.length cap) (ints L))

set_option maxRecDepth 100000 in
set_option maxHeartbeats 800000 in
theorem ind_any (uo : Option Addr) (un uc : Nat) (U : List Str) (ao : Option Addr) (n cap : Nat) (s : List Str) (w : World) (RU : Rd w (.slice uo un uc) (ss U)) (R : Rd w (.slice ao n cap) (ss s)) (hU : SS U) (hun : un ≤ 1000000) (hn : n ≤ 1000000) :
    Calls Try.prog 60 #[.slice uo un uc, .slice ao n cap] w (IndP U s w) := by
  have HSO : Hid (Calls Try.prog 68 #[.slice ao n cap] w fun e w' => e = .returned (.bool (ssB s)) ∧ Below w.heap.size w w') := hid_of (sorted_any ao n cap s w R)
  obtain ⟨i0, hi, hz0, hz1, hz2⟩ := info_parts intsE.info
  by_cases hss : SS s
  · have hb : ssB s = true := decide_eq_true hss
    rw [hb] at HSO
    obtain ⟨hns, h1, h2, h3⟩ := rds_open R
    have HNS := hid_of hns
    have HUL : Hid (U.length ≤ 1000000) := hid_of (by have := (rds_open RU).1; omega)
    have HSS := hid_of hss
    have HBS : Hid (∀ x wx, Below w.heap.size w wx → Calls Try.prog 77 #[.slice uo un uc, .string (ba x)] wx (BsP U x wx)) := hid_of (fun x wx hb => bs_any uo un uc U x wx (RU.at hb) hU (by omega))
    have HC : Hid (∀ j x wx, Below w.heap.size w wx → s[j]? = some x → ∃ g o, ao = some ⟨g, o, none⟩ ∧ wx.cell? ⟨g, o + j, none⟩ = some (.string (ba x))) := hid_of (fun j x wx hb hx => by
      obtain ⟨_, _, _, q3⟩ := rds_open (R.at hb)
      rcases q3 with q3 | ⟨g, o, e, _, hc⟩
      · rw [q3] at hx; simp at hx
      · exact ⟨g, o, e, hc j x hx⟩)
    clear hb hns hss h3 R RU hU
    go_enter Try.func60, Try.ntmps60
    go_wp2_with (first
      | (go_at_call 68; ((with_reducible refine (HSO.out).mono ?_); (rintro e w1 ⟨rfl, h5⟩)); have B1 := hid_of h5; clear h5)
      | (at_make; (refine wpList_make_own _ rfl _ _ 56 rfl w1.heap.size 3 i0 (.int .i64 0) 1 Try.underlying56 hi hz0 hz1 .i64 .i64 _ n rfl rfl rfl (by rw [hz2]; omega) (by unfold maxLen; omega) (Nat.le_refl _) ?_); intro w2 hown hgrow; have HO := hid_of ((ow_made hown hgrow).start (Nat.le_refl _) B1.out B1.out.size); clear hown hgrow))
    go_loopw [6, 8, 19] (fun rv xv iv wr => ∃ (j : Nat) (v : Value) (ro : Option Addr) (rc : Nat) (L : List Nat), rv = .slice ro j rc ∧ xv = v ∧ j ≤ n ∧ iv = .int .i64 j ∧ Hid (Ix U (s.take j) L) ∧ Hid (Ow 3 w.heap.size w wr (.slice ro j rc) (ints L))) (fun _ _ iv _ => n - (intOf iv).toNat)
    case atStart => exact ⟨0, _, _, _, [], rfl, rfl, Nat.zero_le _, rfl, hid_of rfl, HO⟩
    case round =>
      obtain ⟨j, v, ro, rc, L, rfl, rfl, hj, rfl, hix, how⟩ := hrel
      have HLJ : Hid (L.length = j) := hid_of (by rw [hix.out.len, List.length_take]; have := HNS.out; omega)
      by_cases hlt : j < n
      · have hd : decide (j < n) = true := by simp; omega
        obtain ⟨x, hx⟩ : ∃ x, s[j]? = some x := ⟨_, List.getElem?_eq_getElem (by have := HNS.out; omega)⟩
        obtain ⟨g, o, rfl, c1⟩ := HC.out j x wr how.out.bel hx
        have HX := hid_of hx
        have HB := hid_of (HBS.out x wr how.out.bel)
        by_cases hxu : x ∈ U
        · have HY : Hid (Calls Try.prog 77 #[.slice uo un uc, .string (ba x)] wr fun e w' => (∃ i : Nat, e = .returned (.tuple #[.int .i64 i, .bool true]) ∧ U[i]? = some x ∧ i ≤ 1000000) ∧ wr = w') := hid_of (HB.out.mono fun e w' h => by
            obtain ⟨i, b, rfl, q1, q2, q3⟩ := h
            have hb : b = true := q1.2 hxu
            subst hb
            exact ⟨⟨i, rfl, q2 rfl, by have := (List.getElem?_eq_some_iff.1 (q2 rfl)).1; have := HUL.out; omega⟩, q3⟩)
          obtain ⟨bx, hbx⟩ : ∃ b, b = ba x := ⟨_, rfl⟩
          rw [← hbx] at HY c1
          clear hx hbx hxu HB
          go_wp2_with (first
            | (go_at_call 77; ((with_reducible refine (HY.out).mono ?_); (rintro e w3 ⟨⟨i, rfl, hi2, hi3⟩, rfl⟩)); have HI2 := hid_of hi2; clear hi2)
            | (at_builtin; (refine wpList_app intsE rfl (.tmp 31) (.tmp 33) rfl (v := .slice ro j rc) (l := ints L) rfl (how.out.alloc _) (vx := .slice (some ⟨wr.heap.size, 0, none⟩) 1 1) (m := [.int .i64 (i : Int)]) rfl (rd_new rfl rfl (by simp)) (by intro u hu; rw [List.mem_singleton.1 hu]; rfl) (by rw [ints_length]; simp only [List.length_singleton]; have := HLJ.out; omega) (by rw [ints_length]; simp only [List.length_singleton]; have := HLJ.out; omega) ?_); intro ao2 n2 cap2 w4 e1 h5; have HN2 : Hid (n2 = j + 1) := hid_of (by rw [ints_length] at e1; simp only [List.length_singleton] at e1; have := HLJ.out; omega); have HO2 := hid_of h5; clear e1 h5))
          go_roundw
          case rel => exact ⟨j + 1, _, ao2, cap2, L ++ [i], by rw [HN2.out], rfl, by omega, by go_num, hid_of (by rw [take_snoc_get HX.out]; exact hix.out.snoc HI2.out), hid_of (by rw [ints_append, ← HN2.out]; exact HO2.out)⟩
          case measure => simp [intOf]; omega
        · have HNo : Hid (Calls Try.prog 77 #[.slice uo un uc, .string (ba x)] wr fun e w' => (∃ i : Nat, e = .returned (.tuple #[.int .i64 i, .bool false])) ∧ wr = w') := hid_of (HB.out.mono fun e w' h => by
            obtain ⟨i, b, rfl, q1, q2, q3⟩ := h
            have hb : b = false := by cases b with
              | false => rfl
              | true => exact absurd (q1.1 rfl) hxu
            subst hb
            exact ⟨⟨i, rfl⟩, q3⟩)
          have HE : Hid (IndP U s w (.returned (.tuple #[.slice none 0 0, .int .i64 3])) wr) := hid_of (.inr (.inl ⟨HSS.out, fun h => hxu (h x (List.mem_of_getElem? HX.out)), rfl, how.out.bel⟩))
          obtain ⟨bx, hbx⟩ : ∃ b, b = ba x := ⟨_, rfl⟩
          rw [← hbx] at HNo c1
          clear hx hbx hxu HB
          go_wp2_with (go_at_call 77; ((with_reducible refine (HNo.out).mono ?_); (rintro e w3 ⟨⟨i, rfl⟩, rfl⟩)))
          go_ret2
          exact HE.out
      · have hd : decide (j < n) = false := by simp; omega
        obtain rfl : j = n := by omega
        have HE : Hid (IndP U s w (.returned (.tuple #[.slice ro s.length rc, .int .i64 0])) wr) := hid_of (by
          have e1 : s.take j = s := List.take_of_length_le (by have := HNS.out; omega)
          have hix2 := hix.out
          rw [e1] at hix2
          refine .inr (.inr ⟨HSS.out, fun x hx => ?_, L, ro, rc, rfl, hix2, by have h5 := how.out; rw [← HNS.out]; exact h5⟩)
          obtain ⟨i, _, hi⟩ := hix2.mem_back hx
          exact List.mem_of_getElem? hi)
        rw [← HNS.out] at HE
        go_wp2
        go_ret2
        exact HE.out
  · have hb : ssB s = false := decide_eq_false hss
    rw [hb] at HSO
    have HSS := hid_of hss
    clear hb hss R RU hU
    go_enter Try.func60, Try.ntmps60
    go_wp2_with (go_at_call 68; ((with_reducible refine (HSO.out).mono ?_); (rintro e w1 ⟨rfl, h5⟩)); have B1 := hid_of h5; clear h5)
    go_ret2
    exact .inl ⟨HSS.out, rfl, B1.out⟩
end Go.Proofs.Ytjponegeidiheaa
