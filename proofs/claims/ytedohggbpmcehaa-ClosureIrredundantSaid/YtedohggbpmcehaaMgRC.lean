/- Texts in one: NmBs, ClsInd, PrRow, ClsCmp, ClsNew, ClsMem, ClsNms, ClsTop. -/
import Derived.Test.YtedohggbpmcehaaMgRB
import Derived.Deep.OwnRows
/- slices.BinarySearch over a sorted list of strings. Bounds on sizes alone. -/
namespace Go.Proofs.Ytedohggbpmcehaa
open Go.RowKit

set_option maxRecDepth 100000 in
theorem nanC_any (b : ByteArray) (w : World) : Calls Try.prog 97 #[.string b] w fun e w' => e = .returned (.bool false) ∧ w = w' := by
  go_enter Try.func97, Try.ntmps97
  go_wp2
  go_ret
  exact ⟨by simp, rfl⟩
set_option maxRecDepth 100000 in
theorem nanS_any (b : ByteArray) (w : World) : Calls Try.prog 90 #[.string b] w fun e w' => e = .returned (.bool false) ∧ w = w' := by
  go_enter Try.func90, Try.ntmps90
  go_wp2
  go_ret
  exact ⟨by simp, rfl⟩
set_option maxRecDepth 100000 in
theorem less_any (x y : Str) (w : World) : Calls Try.prog 89 #[.string (ba x), .string (ba y)] w fun e w' => e = .returned (.bool (decide (x < y))) ∧ w = w' := by
  obtain ⟨bx, hbx⟩ : ∃ b, b = ba x := ⟨_, rfl⟩
  obtain ⟨bz, hby⟩ : ∃ b, b = ba y := ⟨_, rfl⟩
  rw [← hbx, ← hby]
  by_cases h : x < y
  · have t := lt_t hbx hby h
    have d : Hid (decide (x < y) = true) := hid_of (decide_eq_true h)
    clear hbx hby h
    go_enter Try.func89, Try.ntmps89
    go_wp2_with (go_at_call 97; ((with_reducible refine (nanC_any bx w).mono ?_); (rintro e w' ⟨rfl, rfl⟩)))
    go_ret
    exact ⟨by rw [d.out] <;> rfl, rfl⟩
  · have t := lt_f hbx hby h
    have d : Hid (decide (x < y) = false) := hid_of (decide_eq_false h)
    clear hbx hby h
    go_enter Try.func89, Try.ntmps89
    go_wp2_with (go_at_call 97; ((with_reducible refine (nanC_any bx w).mono ?_); (rintro e w' ⟨rfl, rfl⟩)))
    go_ret
    exact ⟨by rw [d.out] <;> rfl, rfl⟩

/-- What the search gives. -/
def BsP (l : List Str) (x : Str) (w : World) (e : Ending) (w' : World) : Prop :=
  ∃ (i : Nat) (b : Bool), e = .returned (.tuple #[.int .i64 i, .bool b]) ∧ (b = true ↔ x ∈ l) ∧ (b = true → l[i]? = some x) ∧ w = w'
structure BsI (l : List Str) (x : Str) (i j : Nat) : Prop where
  ij : i ≤ j
  jn : j ≤ l.length
  lo : ∀ p y, p < i → l[p]? = some y → y < x
  hi : ∀ p y, j ≤ p → l[p]? = some y → ¬ y < x

set_option maxRecDepth 100000 in
set_option maxHeartbeats 800000 in
theorem bs_any (ao : Option Addr) (n cap : Nat) (l : List Str) (x : Str) (w : World) (R : Rd w (.slice ao n cap) (ss l)) (hs : SS l) (hn : n ≤ 1000000000) :
    Calls Try.prog 77 #[.slice ao n cap, .string (ba x)] w (BsP l x w) := by
  obtain ⟨hnl, h1, h2, h3⟩ := rds_open R
  have HNL := hid_of hnl
  have HS := hid_of hs
  have H3 : Hid (∀ p y, l[p]? = some y → ∃ g o, ao = some ⟨g, o, none⟩ ∧ w.cell? ⟨g, o + p, none⟩ = some (.string (ba y))) := hid_of (fun p y hp => by
    rcases h3 with h3 | ⟨g, o, e, _, hc⟩
    · rw [h3] at hp; simp at hp
    · exact ⟨g, o, e, hc p y hp⟩)
  have LES : Hid (∀ y w, Calls Try.prog 89 #[.string (ba y), .string (ba x)] w fun e w' => e = .returned (.bool (decide (y < x))) ∧ w = w') := hid_of (fun y w => less_any y x w)
  obtain ⟨bx, hbx⟩ : ∃ b, b = ba x := ⟨_, rfl⟩
  rw [← hbx] at LES ⊢
  have HBX := hid_of hbx
  clear hnl hs h3 hbx R
  go_enter Try.func77, Try.ntmps77
  go_wp2
  go_loop [7, 8, 9] (fun iv jv hv => ∃ (i j : Nat) (v : Value), iv = .int .i64 i ∧ jv = .int .i64 j ∧ hv = v ∧ i ≤ j ∧ j ≤ n ∧ Hid (BsI l x i j)) (fun iv jv _ => (intOf jv).toNat - (intOf iv).toNat)
  case atStart => exact ⟨0, n, _, rfl, rfl, rfl, Nat.zero_le _, Nat.le_refl _, hid_of ⟨Nat.zero_le _, by rw [HNL.out]; exact Nat.le_refl _, fun p y hp => by omega, fun p y hp hy => by have := (List.getElem?_eq_some_iff.1 hy).1; have := HNL.out; omega⟩⟩
  case round =>
    obtain ⟨i, j, v, rfl, rfl, rfl, hij, hjn, hI⟩ := hrel
    by_cases hlt : i < j
    · have hd : decide (i < j) = true := by simp; omega
      obtain ⟨h, hh⟩ : ∃ h : Nat, h = (i + j) / 2 := ⟨_, rfl⟩
      have he : ((i : Int) + (j : Int)) / 2 = (h : Int) := by omega
      have hhn : h < n := by omega
      have hb1 : i ≤ h := by omega
      have hb2 : h < j := by omega
      obtain ⟨y, hy⟩ : ∃ y, l[h]? = some y := ⟨_, List.getElem?_eq_getElem (by have := HNL.out; omega)⟩
      obtain ⟨g, o, rfl, c1⟩ := H3.out h y hy
      have HY := hid_of hy
      have LY := hid_of (LES.out y)
      obtain ⟨q, hq⟩ : ∃ q, q = decide (y < x) := ⟨_, rfl⟩
      rw [← hq] at LY
      have HQ := hid_of hq
      obtain ⟨bz, hbz⟩ : ∃ b, b = ba y := ⟨_, rfl⟩
      rw [← hbz] at LY c1
      have HH := hid_of hh
      clear hy hq hbz hh
      cases q
      · have HN : Hid (BsI l x i h) := hid_of ⟨hb1, by have := hI.out.jn; omega, hI.out.lo, fun p z hp hz => by
          have h1 : ¬ y < x := of_decide_eq_false HQ.out.symm
          by_cases e : p = h
          · subst e; rw [HY.out] at hz; cases hz; exact h1
          · have h2 : y < z := (List.pairwise_iff_getElem.1 HS.out) h p (List.getElem?_eq_some_iff.1 HY.out).1 (List.getElem?_eq_some_iff.1 hz).1 (by omega) |> fun h5 => by
              rw [(List.getElem?_eq_some_iff.1 HY.out).2, (List.getElem?_eq_some_iff.1 hz).2] at h5; exact h5
            exact fun h3 => h1 (str_trans h2 h3)⟩
        go_wp2_with (go_at_call 89; ((with_reducible refine (LY.out w).mono ?_); (rintro e w' ⟨rfl, rfl⟩)))
        go_round
        case rel => exact ⟨i, h, _, rfl, rfl, rfl, hb1, by omega, HN⟩
        case measure => simp [intOf]; omega
      · have HN : Hid (BsI l x (h + 1) j) := hid_of ⟨by omega, hI.out.jn, fun p z hp hz => by
          have h1 : y < x := of_decide_eq_true HQ.out.symm
          by_cases e : p = h
          · subst e; rw [HY.out] at hz; cases hz; exact h1
          · have h2 : z < y := (List.pairwise_iff_getElem.1 HS.out) p h (List.getElem?_eq_some_iff.1 hz).1 (List.getElem?_eq_some_iff.1 HY.out).1 (by omega) |> fun h5 => by
              rw [(List.getElem?_eq_some_iff.1 HY.out).2, (List.getElem?_eq_some_iff.1 hz).2] at h5; exact h5
            exact str_trans h2 h1, hI.out.hi⟩
        go_wp2_with (go_at_call 89; ((with_reducible refine (LY.out w).mono ?_); (rintro e w' ⟨rfl, rfl⟩)))
        go_round
        case rel => exact ⟨h + 1, j, _, by go_num, rfl, rfl, by omega, by omega, HN⟩
        case measure => simp [intOf]; omega
    · have hd : decide (i < j) = false := by simp; omega
      obtain rfl : i = j := by omega
      by_cases hin : i < n
      · have hd2 : decide (i < n) = true := by simp; omega
        obtain ⟨y, hy⟩ : ∃ y, l[i]? = some y := ⟨_, List.getElem?_eq_getElem (by have := HNL.out; omega)⟩
        obtain ⟨g, o, rfl, c1⟩ := H3.out i y hy
        have HY := hid_of hy
        obtain ⟨bz, hbz⟩ : ∃ b, b = ba y := ⟨_, rfl⟩
        rw [← hbz] at c1
        by_cases e : y = x
        · have t1 := eq_t hbz HBX.out e
          have HE : Hid (BsP l x w (.returned (.tuple #[.int .i64 (i : Int), .bool true])) w) := hid_of ⟨i, true, rfl, ⟨fun _ => by rw [← e]; exact List.mem_of_getElem? HY.out, fun _ => rfl⟩, fun _ => by rw [HY.out, e], rfl⟩
          clear hy hbz e
          go_wp2
          go_ret2
          exact HE.out
        · have t1 := eq_f hbz HBX.out e
          have HE : Hid (BsP l x w (.returned (.tuple #[.int .i64 (i : Int), .bool false])) w) := hid_of ⟨i, false, rfl, ⟨(fun h => by cases h), fun hx => by
            obtain ⟨p, hp⟩ := List.getElem?_of_mem hx
            rcases Nat.lt_trichotomy p i with h5 | h5 | h5
            · exact absurd (hI.out.lo p x h5 hp) (str_irr x)
            · subst h5; rw [HY.out] at hp; cases hp; exact absurd rfl e
            · have h2 : y < x := (List.pairwise_iff_getElem.1 HS.out) i p (List.getElem?_eq_some_iff.1 HY.out).1 (List.getElem?_eq_some_iff.1 hp).1 h5 |> fun h5 => by
                rw [(List.getElem?_eq_some_iff.1 HY.out).2, (List.getElem?_eq_some_iff.1 hp).2] at h5; exact h5
              exact absurd h2 (hI.out.hi i y (Nat.le_refl _) HY.out)⟩, (fun h => by cases h), rfl⟩
          clear hy hbz e
          go_wp2_with (go_at_call 90; ((with_reducible refine (nanS_any bz w).mono ?_); (rintro e w' ⟨rfl, rfl⟩)))
          go_ret2
          exact HE.out
      · have hd2 : decide (i < n) = false := by simp; omega
        have HE : Hid (BsP l x w (.returned (.tuple #[.int .i64 (i : Int), .bool false])) w) := hid_of ⟨i, false, rfl, ⟨(fun h => by cases h), fun hx => by
          obtain ⟨p, hp⟩ := List.getElem?_of_mem hx
          have := (List.getElem?_eq_some_iff.1 hp).1
          exact absurd (hI.out.lo p x (by have := HNL.out; omega) hp) (str_irr x)⟩, (fun h => by cases h), rfl⟩
        go_wp2
        go_ret2
        exact HE.out
end Go.Proofs.Ytedohggbpmcehaa

/- indices: a set of names as numbers; named: numbers as names. Bounds on sizes alone. -/
namespace Go.Proofs.Ytedohggbpmcehaa
open Go.RowKit

/-- L are the places of the names s in U. -/
def Ix (U s : List Str) (L : List Nat) : Prop := L.map (fun i => U[i]?) = s.map some
theorem Ix.len {U s : List Str} {L : List Nat} (h : Ix U s L) : L.length = s.length := by
  have := congrArg List.length h
  simpa using this
theorem Ix.snoc {U s : List Str} {L : List Nat} {x : Str} {i : Nat} (h : Ix U s L) (hi : U[i]? = some x) : Ix U (s ++ [x]) (L ++ [i]) := by
  unfold Ix at *
  simp [h, hi]
theorem Ix.get {U s : List Str} {L : List Nat} (h : Ix U s L) {k i : Nat} (hi : L[k]? = some i) : ∃ x, s[k]? = some x ∧ U[i]? = some x := by
  have h1 : (L.map (fun i => U[i]?))[k]? = some (U[i]?) := by simp [hi]
  rw [h] at h1
  simp only [List.getElem?_map] at h1
  cases hs : s[k]? with
  | none => rw [hs] at h1; simp at h1
  | some x => rw [hs] at h1; simp at h1; exact ⟨x, rfl, h1.symm⟩
theorem Ix.back {U s : List Str} {L : List Nat} (h : Ix U s L) {k : Nat} {x : Str} (hx : s[k]? = some x) : ∃ i, L[k]? = some i ∧ U[i]? = some x := by
  have hk : k < L.length := by rw [h.len]; exact (List.getElem?_eq_some_iff.1 hx).1
  obtain ⟨y, h1, h2⟩ := h.get (List.getElem?_eq_getElem hk)
  rw [hx] at h1
  cases h1
  exact ⟨_, List.getElem?_eq_getElem hk, h2⟩
theorem Ix.mem {U s : List Str} {L : List Nat} (h : Ix U s L) {i : Nat} (hi : i ∈ L) : ∃ x, x ∈ s ∧ U[i]? = some x := by
  obtain ⟨k, hk⟩ := List.getElem?_of_mem hi
  obtain ⟨x, h1, h2⟩ := h.get hk
  exact ⟨x, List.mem_of_getElem? h1, h2⟩
theorem Ix.mem_back {U s : List Str} {L : List Nat} (h : Ix U s L) {x : Str} (hx : x ∈ s) : ∃ i, i ∈ L ∧ U[i]? = some x := by
  obtain ⟨k, hk⟩ := List.getElem?_of_mem hx
  obtain ⟨i, h1, h2⟩ := h.back hk
  exact ⟨i, List.mem_of_getElem? h1, h2⟩
theorem Ix.lt {U s : List Str} {L : List Nat} (h : Ix U s L) {i : Nat} (hi : i ∈ L) : i < U.length := by
  obtain ⟨x, _, h2⟩ := h.mem hi
  exact (List.getElem?_eq_some_iff.1 h2).1

def IndP (U s : List Str) (w : World) (e : Ending) (w' : World) : Prop :=
  (¬ SS s ∧ e = .returned (.tuple #[.slice none 0 0, .int .i64 1]) ∧ Below w.heap.size w w') ∨
  (SS s ∧ (¬ ∀ x, x ∈ s → x ∈ U) ∧ e = .returned (.tuple #[.slice none 0 0, .int .i64 3]) ∧ Below w.heap.size w w') ∨
  (SS s ∧ (∀ x, x ∈ s → x ∈ U) ∧ ∃ L ao cap, e = .returned (.tuple #[.slice ao s.length cap, .int .i64 0]) ∧ Ix U s L ∧ Ow 3 w.heap.size w w' (.slice ao s.length cap) (ints L))

set_option maxRecDepth 100000 in
set_option maxHeartbeats 800000 in
theorem ind_any (uo : Option Addr) (un uc : Nat) (U : List Str) (ao : Option Addr) (n cap : Nat) (s : List Str) (w : World) (RU : Rd w (.slice uo un uc) (ss U)) (R : Rd w (.slice ao n cap) (ss s)) (hU : SS U) (hun : un ≤ 1000000) (hn : n ≤ 1000000) :
    Calls Try.prog 60 #[.slice uo un uc, .slice ao n cap] w (IndP U s w) := by
  have HSO : Hid (Calls Try.prog 68 #[.slice ao n cap] w fun e w' => e = .returned (.bool (ssB s)) ∧ Below w.heap.size w w') := hid_of (sorted_any ao n cap s w R)
  obtain ⟨i0, hi, hz0, hz1, hz2⟩ := info_parts intsE.info
  by_cases hss : SS s
  · have hb : ssB s = true := decide_eq_true hss
    rw [hb] at HSO
    obtain ⟨hns, h1, h2, h3⟩ := rds_open R
    have HNS := hid_of hns
    have HUL : Hid (U.length ≤ 1000000) := hid_of (by have := (rds_open RU).1; omega)
    have HSS := hid_of hss
    have HBS : Hid (∀ x wx, Below w.heap.size w wx → Calls Try.prog 77 #[.slice uo un uc, .string (ba x)] wx (BsP U x wx)) := hid_of (fun x wx hb => bs_any uo un uc U x wx (RU.at hb) hU (by omega))
    have HC : Hid (∀ j x wx, Below w.heap.size w wx → s[j]? = some x → ∃ g o, ao = some ⟨g, o, none⟩ ∧ wx.cell? ⟨g, o + j, none⟩ = some (.string (ba x))) := hid_of (fun j x wx hb hx => by
      obtain ⟨_, _, _, q3⟩ := rds_open (R.at hb)
      rcases q3 with q3 | ⟨g, o, e, _, hc⟩
      · rw [q3] at hx; simp at hx
      · exact ⟨g, o, e, hc j x hx⟩)
    clear hb hns hss h3 R RU hU
    go_enter Try.func60, Try.ntmps60
    go_wp2_with (first
      | (go_at_call 68; ((with_reducible refine (HSO.out).mono ?_); (rintro e w1 ⟨rfl, h5⟩)); have B1 := hid_of h5; clear h5)
      | (at_make; (refine wpList_make_own _ rfl _ _ 56 rfl w1.heap.size 3 i0 (.int .i64 0) 1 Try.underlying56 hi hz0 hz1 .i64 .i64 _ n rfl rfl rfl (by rw [hz2]; omega) (by unfold maxLen; omega) (Nat.le_refl _) ?_); intro w2 hown hgrow; have HO := hid_of ((ow_made hown hgrow).start (Nat.le_refl _) B1.out B1.out.size); clear hown hgrow))
    go_loopw [6, 8, 19] (fun rv xv iv wr => ∃ (j : Nat) (v : Value) (ro : Option Addr) (rc : Nat) (L : List Nat), rv = .slice ro j rc ∧ xv = v ∧ j ≤ n ∧ iv = .int .i64 j ∧ Hid (Ix U (s.take j) L) ∧ Hid (Ow 3 w.heap.size w wr (.slice ro j rc) (ints L))) (fun _ _ iv _ => n - (intOf iv).toNat)
    case atStart => exact ⟨0, _, _, _, [], rfl, rfl, Nat.zero_le _, rfl, hid_of rfl, HO⟩
    case round =>
      obtain ⟨j, v, ro, rc, L, rfl, rfl, hj, rfl, hix, how⟩ := hrel
      have HLJ : Hid (L.length = j) := hid_of (by rw [hix.out.len, List.length_take]; have := HNS.out; omega)
      by_cases hlt : j < n
      · have hd : decide (j < n) = true := by simp; omega
        obtain ⟨x, hx⟩ : ∃ x, s[j]? = some x := ⟨_, List.getElem?_eq_getElem (by have := HNS.out; omega)⟩
        obtain ⟨g, o, rfl, c1⟩ := HC.out j x wr how.out.bel hx
        have HX := hid_of hx
        have HB := hid_of (HBS.out x wr how.out.bel)
        by_cases hxu : x ∈ U
        · have HY : Hid (Calls Try.prog 77 #[.slice uo un uc, .string (ba x)] wr fun e w' => (∃ i : Nat, e = .returned (.tuple #[.int .i64 i, .bool true]) ∧ U[i]? = some x ∧ i ≤ 1000000) ∧ wr = w') := hid_of (HB.out.mono fun e w' h => by
            obtain ⟨i, b, rfl, q1, q2, q3⟩ := h
            have hb : b = true := q1.2 hxu
            subst hb
            exact ⟨⟨i, rfl, q2 rfl, by have := (List.getElem?_eq_some_iff.1 (q2 rfl)).1; have := HUL.out; omega⟩, q3⟩)
          obtain ⟨bx, hbx⟩ : ∃ b, b = ba x := ⟨_, rfl⟩
          rw [← hbx] at HY c1
          clear hx hbx hxu HB
          go_wp2_with (first
            | (go_at_call 77; ((with_reducible refine (HY.out).mono ?_); (rintro e w3 ⟨⟨i, rfl, hi2, hi3⟩, rfl⟩)); have HI2 := hid_of hi2; clear hi2)
            | (at_builtin; (refine wpList_app intsE rfl (.tmp 31) (.tmp 33) rfl (v := .slice ro j rc) (l := ints L) rfl (how.out.alloc _) (vx := .slice (some ⟨wr.heap.size, 0, none⟩) 1 1) (m := [.int .i64 (i : Int)]) rfl (rd_new rfl rfl (by simp)) (by intro u hu; rw [List.mem_singleton.1 hu]; rfl) (by rw [ints_length]; simp only [List.length_singleton]; have := HLJ.out; omega) (by rw [ints_length]; simp only [List.length_singleton]; have := HLJ.out; omega) ?_); intro ao2 n2 cap2 w4 e1 h5; have HN2 : Hid (n2 = j + 1) := hid_of (by rw [ints_length] at e1; simp only [List.length_singleton] at e1; have := HLJ.out; omega); have HO2 := hid_of h5; clear e1 h5))
          go_roundw
          case rel => exact ⟨j + 1, _, ao2, cap2, L ++ [i], by rw [HN2.out], rfl, by omega, by go_num, hid_of (by rw [take_snoc_get HX.out]; exact hix.out.snoc HI2.out), hid_of (by rw [ints_append, ← HN2.out]; exact HO2.out)⟩
          case measure => simp [intOf]; omega
        · have HNo : Hid (Calls Try.prog 77 #[.slice uo un uc, .string (ba x)] wr fun e w' => (∃ i : Nat, e = .returned (.tuple #[.int .i64 i, .bool false])) ∧ wr = w') := hid_of (HB.out.mono fun e w' h => by
            obtain ⟨i, b, rfl, q1, q2, q3⟩ := h
            have hb : b = false := by cases b with
              | false => rfl
              | true => exact absurd (q1.1 rfl) hxu
            subst hb
            exact ⟨⟨i, rfl⟩, q3⟩)
          have HE : Hid (IndP U s w (.returned (.tuple #[.slice none 0 0, .int .i64 3])) wr) := hid_of (.inr (.inl ⟨HSS.out, fun h => hxu (h x (List.mem_of_getElem? HX.out)), rfl, how.out.bel⟩))
          obtain ⟨bx, hbx⟩ : ∃ b, b = ba x := ⟨_, rfl⟩
          rw [← hbx] at HNo c1
          clear hx hbx hxu HB
          go_wp2_with (go_at_call 77; ((with_reducible refine (HNo.out).mono ?_); (rintro e w3 ⟨⟨i, rfl⟩, rfl⟩)))
          go_ret2
          exact HE.out
      · have hd : decide (j < n) = false := by simp; omega
        obtain rfl : j = n := by omega
        have HE : Hid (IndP U s w (.returned (.tuple #[.slice ro s.length rc, .int .i64 0])) wr) := hid_of (by
          have e1 : s.take j = s := List.take_of_length_le (by have := HNS.out; omega)
          have hix2 := hix.out
          rw [e1] at hix2
          refine .inr (.inr ⟨HSS.out, fun x hx => ?_, L, ro, rc, rfl, hix2, by have h5 := how.out; rw [← HNS.out]; exact h5⟩)
          obtain ⟨i, _, hi⟩ := hix2.mem_back hx
          exact List.mem_of_getElem? hi)
        rw [← HNS.out] at HE
        go_wp2
        go_ret2
        exact HE.out
  · have hb : ssB s = false := decide_eq_false hss
    rw [hb] at HSO
    have HSS := hid_of hss
    clear hb hss R RU hU
    go_enter Try.func60, Try.ntmps60
    go_wp2_with (go_at_call 68; ((with_reducible refine (HSO.out).mono ?_); (rintro e w1 ⟨rfl, h5⟩)); have B1 := hid_of h5; clear h5)
    go_ret2
    exact .inl ⟨HSS.out, rfl, B1.out⟩
end Go.Proofs.Ytedohggbpmcehaa

/- Rows of structs of two cells: what a slice reads as, a slice of the call's own, append. Bounds on sizes alone. -/
namespace Go.Proofs.Ytedohggbpmcehaa
open Go.RowKit

abbrev PV := Value × Value
/-- The cells of a list of pairs. -/
def prs (l : List PV) : List Value := l.flatMap fun t => [t.1, t.2]
theorem prs_length (l : List PV) : (prs l).length = l.length * 2 := by
  induction l with
  | nil => rfl
  | cons t r ih => simp only [prs, List.flatMap_cons, List.length_append, List.length_cons, List.length_nil] at ih ⊢; omega
theorem prs_append (a b : List PV) : prs (a ++ b) = prs a ++ prs b := by simp [prs]
theorem prs_get : ∀ (l : List PV) (i : Nat) (t : PV), l[i]? = some t → (prs l)[i * 2]? = some t.1 ∧ (prs l)[i * 2 + 1]? = some t.2 := by
  intro l
  induction l with
  | nil => intro i t h; simp at h
  | cons s r ih =>
    intro i t h
    cases i with
    | zero => simp at h; subst h; exact ⟨rfl, rfl⟩
    | succ i =>
      have h1 := ih i t (by simpa using h)
      have e : prs (s :: r) = s.1 :: s.2 :: prs r := rfl
      rw [e, show (i + 1) * 2 = i * 2 + 1 + 1 by omega]
      exact h1
/-- The slice v reads as the pairs l. -/
def PRd (w : World) (v : Value) (l : List PV) : Prop :=
  ∃ ao cap, v = .slice ao l.length cap ∧ l.length ≤ cap ∧ cap ≤ 9223372036854775807 ∧ (0 < l.length → ∃ g o, ao = some ⟨g, o, none⟩ ∧ g < w.heap.size ∧ ∀ i t, l[i]? = some t → w.cell? ⟨g, o + i * 2, none⟩ = some t.1 ∧ w.cell? ⟨g, o + i * 2 + 1, none⟩ = some t.2)
theorem PRd.later {w w' : World} {v : Value} {l : List PV} {B : Nat} (h : PRd w v l) (hb : Below B w w') (hB : w.heap.size ≤ B) : PRd w' v l := by
  obtain ⟨ao, cap, h1, h2, h3, h4⟩ := h
  refine ⟨ao, cap, h1, h2, h3, fun h0 => ?_⟩
  obtain ⟨g, o, q1, q2, q3⟩ := h4 h0
  refine ⟨g, o, q1, Nat.lt_of_lt_of_le q2 hb.size, fun i t ht => ?_⟩
  obtain ⟨r1, r2⟩ := q3 i t ht
  exact ⟨(hb.cell (p := ⟨g, o + i * 2, none⟩) (by show g < B; omega)).trans r1, (hb.cell (p := ⟨g, o + i * 2 + 1, none⟩) (by show g < B; omega)).trans r2⟩
theorem PRd.at {w w' : World} {v : Value} {l : List PV} (h : PRd w v l) (hb : Below w.heap.size w w') : PRd w' v l := h.later hb (Nat.le_refl _)
theorem prd_nil (w : World) : PRd w (.slice none 0 0) [] := ⟨none, 0, rfl, Nat.le_refl _, by omega, fun h => by simp at h⟩
theorem PRd.cut {w : World} {ao : Option Addr} {n cap : Nat} {l : List PV} (h : PRd w (.slice ao n cap) l) : n = l.length ∧ n ≤ cap ∧ cap ≤ 9223372036854775807 := by
  obtain ⟨_, _, e, h2, h3, _⟩ := h
  simp only [Value.slice.injEq] at e
  omega
theorem PRd.get {w : World} {ao : Option Addr} {n cap : Nat} {l : List PV} (h : PRd w (.slice ao n cap) l) {i : Nat} {t : PV} (hi : l[i]? = some t) : ∃ g o, ao = some ⟨g, o, none⟩ ∧ w.cell? ⟨g, o + i * 2, none⟩ = some t.1 ∧ w.cell? ⟨g, o + i * 2 + 1, none⟩ = some t.2 := by
  obtain ⟨_, _, e, h2, h3, h4⟩ := h
  simp only [Value.slice.injEq] at e
  obtain ⟨rfl, _, rfl⟩ := e
  obtain ⟨g, o, q1, _, q3⟩ := h4 (by have := (List.getElem?_eq_some_iff.1 hi).1; omega)
  exact ⟨g, o, q1, q3 i t hi⟩

/-- A slice of the call's own that holds l; below B the world is as w0 was. -/
def OP (E : TypeId) (B : Nat) (w0 w : World) (v : Value) (l : List PV) : Prop := B ≤ w0.heap.size ∧ Below B w0 w ∧ w.ownsRow B E 2 v l.length (prs l)
section
variable {E : TypeId} {B : Nat} {w0 w w' : World} {v : Value} {l : List PV}
theorem OP.size (h : OP E B w0 w v l) : B ≤ w.heap.size := Nat.le_trans h.1 h.2.1.size
theorem OP.own (h : OP E B w0 w v l) : w.ownsRow B E 2 v l.length (prs l) := h.2.2
theorem OP.bel (h : OP E B w0 w v l) : Below B w0 w := h.2.1
theorem OP.app {n : Nat} {v' : Value} {m : List PV} (h : OP E B w0 w v l) (hown : w'.ownsRow B E 2 v' n (prs l ++ prs m)) (hn : n = l.length + m.length) (hg : w.grownBy w' v.ownBlock) : OP E B w0 w' v' (l ++ m) := by
  subst hn
  refine ⟨h.1, h.2.1.grown hg h.size (fun k hk => (h.own.lt k hk).1), ?_⟩
  rw [List.length_append, prs_append]
  exact hown
theorem own_same2 {w w' : World} {base e size n : Nat} {v : Value} {xs : List Value} (h : w.ownsRow base e size v n xs) (hs : ∀ k, v.ownBlock = some k → w'.heap[k]? = w.heap[k]?) : w'.ownsRow base e size v n xs := by
  obtain ⟨h1, h2⟩ := h
  refine ⟨h1, ?_⟩
  rcases h2 with h2 | ⟨g, cap, cur, hv, hb, hg, r⟩
  · exact .inl h2
  · exact .inr ⟨g, cap, cur, hv, hb, (hs g (by rw [hv]; rfl)).trans hg, r⟩
theorem OP.later (h : OP E B w0 w v l) (hb : Below w.heap.size w w') : OP E B w0 w' v l :=
  ⟨h.1, h.2.1.trans (hb.mono h.size), own_same2 h.own fun k hk => hb.block k (h.own.lt k hk).2⟩
theorem op_made {n g : Nat} (hown : w'.ownsRow w.heap.size E 2 (.slice (some ⟨g, 0, none⟩) 0 n) 0 []) (hgrow : w.grownBy w' none) : OP E w.heap.size w w' (.slice (some ⟨g, 0, none⟩) 0 n) [] :=
  ⟨Nat.le_refl _, (Below.refl _ _).grown hgrow (Nat.le_refl _) (fun k h => by cases h), hown⟩
theorem op_nil (E : TypeId) (w : World) : OP E w.heap.size w w (.slice none 0 0) [] := ⟨Nat.le_refl _, Below.refl _ _, ⟨by simp [prs], .inl ⟨rfl, rfl⟩⟩⟩
theorem op_empty (E : TypeId) (w : World) : OP E w.heap.size w (w.alloc (.cells #[] E)) (.slice (some ⟨w.heap.size, 0, none⟩) 0 0) [] :=
  ⟨Nat.le_refl _, bel_alloc w _, by simp [prs], .inr ⟨w.heap.size, 0, #[], rfl, Nat.le_refl _, heap_alloc_new w _, Nat.le_refl _, by unfold maxLen; omega, rfl, rfl⟩⟩
theorem OP.start (h : OP E B w0 w v l) {B2 : Nat} {w2 : World} (hB : B2 ≤ w2.heap.size) (hb : Below B2 w2 w0) (hle : B2 ≤ B) : OP E B2 w2 w v l := by
  refine ⟨hB, hb.trans (h.bel.mono hle), h.own.1, ?_⟩
  rcases h.own.2 with h2 | ⟨g, cap, cur, hv, hb2, hg, r⟩
  · exact .inl h2
  · exact .inr ⟨g, cap, cur, hv, Nat.le_trans hle hb2, hg, r⟩
theorem OP.prd (h : OP E B w0 w v l) : PRd w v l := by
  rcases h.own.2 with ⟨h1, h2⟩ | ⟨g, c, cur, h1, _, hg, hnc, hcm, _, ht⟩
  · exact ⟨none, 0, by rw [h1, h2], by omega, by omega, fun h => by omega⟩
  · unfold maxLen at hcm
    refine ⟨_, _, h1, hnc, by omega, fun h0 => ⟨g, 0, rfl, lt_of_block hg, fun i t hi => ?_⟩⟩
    have hil := (List.getElem?_eq_some_iff.1 hi).1
    obtain ⟨g1, g2⟩ := prs_get l i t hi
    have q : ∀ j u, (prs l)[j]? = some u → w.cell? ⟨g, 0 + j, none⟩ = some u := fun j u hu => by
      have := World.news_of_block hg j u (by
        rw [← ht, List.getElem?_take] at hu
        split at hu
        · exact hu
        · cases hu)
      rw [Addr.add_mid] at this
      exact this
    exact ⟨q _ _ g1, q _ _ g2⟩
end
theorem own_shapeP {w : World} {base e size n : Nat} {v : Value} {xs : List Value} (h : w.ownsRow base e size v n xs) : ∃ ao cap, v = .slice ao n cap := by
  rcases h.2 with ⟨h1, h2⟩ | ⟨g, cap, cur, h1, _⟩
  · exact ⟨none, 0, by rw [h1, h2]⟩
  · exact ⟨_, cap, h1⟩
/-- A slice type S over a struct type E of two cells. -/
structure Elem2 (P : Program) (S E : TypeId) (z : Value) (eb : Nat) : Prop where
  und : P.underlying S = some (.slice E)
  info : (P.info? E).map (fun i => (i.zero, i.size, i.bytes)) = some (some z, 2, eb)
  two : z.cells.size = 2
theorem PRd.src {P : Program} {S E : TypeId} {z : Value} {eb : Nat} (T : Elem2 P S E z eb) {w : World} {v : Value} {l : List PV} (h : PRd w v l) (h1 : ∀ u ∈ prs l, u.oneCell' = true) : Src P 2 S v l.length (prs l) w := by
  obtain ⟨ao, cap, rfl, h2, h3, h4⟩ := h
  by_cases h0 : 0 < l.length
  · obtain ⟨g, o, rfl, hg, hc⟩ := h4 h0
    refine Src.ofSlice _ T.und _ _ _ (prs l) (prs_length l) (fun j u hu => ?_) h1
    have hj : j < l.length * 2 := by rw [← prs_length]; exact (List.getElem?_eq_some_iff.1 hu).1
    obtain ⟨t, ht⟩ : ∃ t, l[j / 2]? = some t := ⟨_, List.getElem?_eq_getElem (by omega)⟩
    obtain ⟨c1, c2⟩ := hc _ t ht
    obtain ⟨g1, g2⟩ := prs_get l _ t ht
    rw [Addr.add_mid]
    rcases Nat.mod_two_eq_zero_or_one j with hm | hm
    · rw [show j / 2 * 2 = j by omega] at c1 g1
      rw [c1]; exact g1.symm.trans hu
    · rw [show o + j / 2 * 2 + 1 = o + j by omega] at c2
      rw [show j / 2 * 2 + 1 = j by omega] at g2
      rw [c2]; exact g2.symm.trans hu
  · obtain rfl : l = [] := by cases l with
      | nil => rfl
      | cons a r => simp at h0
    cases ao with
    | none => exact Src.ofNil _ T.und _
    | some a => exact Src.ofSlice _ T.und a _ _ [] rfl (fun j u hu => by simp at hu) (by simp)
/-- append of one pair that has just been laid. -/
theorem wpList_pr {P : Program} {S E : TypeId} {z : Value} {eb : Nat} (T : Elem2 P S E z eb) {ops : Array Oper} {rest : List Oper} {o : Oper} {a : Act} {w : World} {Q : Exit → Act → World → Prop} (hgd : o.guard = none) (s x : Operand)
    (ho : o.op = .call { callee := .builtin .append, args := #[s, x], argTypes := #[S, S] })
    {B : Nat} {w0 : World} {v : Value} {l : List PV} (hv : a.eval s = v) (H : OP E B w0 w v l) {vx : Value} {m : List PV} (hx : a.eval x = vx) (L : PRd w vx m) (h1 : ∀ u ∈ prs m, u.oneCell' = true) (hl : (l.length + m.length) * eb ≤ 140737488355328) (hl2 : l.length + m.length ≤ 140737488355328)
    (h : ∀ (ao : Option Addr) (n cap : Nat) (w' : World), n = l.length + m.length → OP E B w0 w' (.slice ao n cap) (l ++ m) → w.grownBy w' v.ownBlock → wpList P ops Q rest (a.put o.dst (.slice ao n cap)) w') :
    wpList P ops Q (o :: rest) a w := by
  obtain ⟨i0, hi, hz0, hz1, hz2⟩ := info_parts T.info
  refine wpList_append_src _ hgd s x S S ho B E i0 z 2 eb T.und hi hz0 hz1 hz2 T.two (by decide) v l.length (prs l) hv H.own vx m.length (prs m) hx (L.src T h1) (by unfold maxLen; omega) (by omega) H.size ?_
  intro v2 w2 hown hg _ _
  have H2 := H.app (m := m) hown rfl hg
  obtain ⟨ao, cap, rfl⟩ := own_shapeP hown
  exact h ao _ cap w2 rfl H2 hg
theorem prd_new {w : World} {u v : Value} {E : TypeId} {m : Nat × Nat} : PRd (w.alloc (.cells #[u, v] E m)) (.slice (some ⟨w.heap.size, 0, none⟩) 1 1) [(u, v)] := by
  refine ⟨_, _, rfl, Nat.le_refl _, by simp, fun _ => ⟨_, _, rfl, by simp, fun i t hi => ?_⟩⟩
  have : i = 0 := by have := (List.getElem?_eq_some_iff.1 hi).1; simp at this; omega
  subst this
  simp only [List.getElem?_cons_zero, Option.some.injEq] at hi
  subst hi
  have hb := heap_alloc_new w (.cells #[u, v] E m)
  have c0 := World.news_of_block hb 0 u rfl
  have c1 := World.news_of_block hb 1 v rfl
  rw [Addr.add_mid] at c0 c1
  exact ⟨c0, c1⟩
end Go.Proofs.Ytedohggbpmcehaa

/- compile: universe and rules are checked and become numbers. Bounds on sizes alone. -/
namespace Go.Proofs.Ytedohggbpmcehaa
open Go.RowKit

/-- A rule in names: its premises, its conclusion. -/
abbrev Gr := List Str × Str
def nameB (x : Str) : Bool := isName (strBytes (ba x))
/-- The error of a rule. -/
def ruE (U : List Str) (r : Gr) : Nat := if ¬ SS r.1 then 1 else if ¬ (∀ x ∈ r.1, x ∈ U) then 3 else if r.2 ∉ U then 3 else 0
def rusE (U : List Str) : List Gr → Nat
  | [] => 0
  | r :: rs => if ruE U r = 0 then rusE U rs else ruE U r
def chkE (U : List Str) (rs : List Gr) : Nat := if U.all nameB = false then 3 else if ¬ SS U then 1 else rusE U rs
/-- R are the rules rs in numbers. -/
structure Cmp (U : List Str) (rs : List Gr) (R : List Hrl) : Prop where
  len : R.length = rs.length
  at_ : ∀ (i : Nat) (r : Gr) (q : Hrl), rs[i]? = some r → R[i]? = some q → Ix U r.1 q.1 ∧ Ix U [r.2] q.2
/-- The slice v reads as rules in names. -/
def RuR (w : World) (v : Value) (rs : List Gr) : Prop := ∃ l : List PV, PRd w v l ∧ l.length = rs.length ∧ ∀ (i : Nat) (t : PV) (r : Gr), l[i]? = some t → rs[i]? = some r → Rd w t.1 (ss r.1) ∧ t.2 = .string (ba r.2)
theorem RuR.at {w w' : World} {v : Value} {rs : List Gr} (h : RuR w v rs) (hb : Below w.heap.size w w') : RuR w' v rs := by
  obtain ⟨l, h1, h2, h3⟩ := h
  exact ⟨l, h1.at hb, h2, fun i t r ht hr => ⟨(h3 i t r ht hr).1.at hb, (h3 i t r ht hr).2⟩⟩
/-- The pairs l are rules in numbers, rows of the call's own. -/
def CoL (B : Nat) (w : World) (l : List PV) (R : List Hrl) : Prop := l.length = R.length ∧ ∀ (i : Nat) (t : PV) (q : Hrl), l[i]? = some t → R[i]? = some q → w.ownsRow B 3 1 t.1 q.1.length (ints q.1) ∧ w.ownsRow B 3 1 t.2 q.2.length (ints q.2)
def CoR (B : Nat) (w : World) (v : Value) (R : List Hrl) : Prop := ∃ l : List PV, PRd w v l ∧ CoL B w l R
theorem own_weak {W : World} {B B' e s n : Nat} {v : Value} {xs : List Value} (h : W.ownsRow B e s v n xs) (hB : B' ≤ B) : W.ownsRow B' e s v n xs := by
  obtain ⟨h1, h2⟩ := h
  refine ⟨h1, ?_⟩
  rcases h2 with h2 | ⟨g, cap, cur, hv, h3, r⟩
  · exact .inl h2
  · exact .inr ⟨g, cap, cur, hv, Nat.le_trans hB h3, r⟩
theorem own_base {W : World} {B e s n : Nat} {v : Value} {xs : List Value} (h : W.ownsRow B e s v n xs) : W.ownsRow 0 e s v n xs := by
  obtain ⟨h1, h2⟩ := h
  refine ⟨h1, ?_⟩
  rcases h2 with h2 | ⟨g, cap, cur, hv, _, r⟩
  · exact .inl h2
  · exact .inr ⟨g, cap, cur, hv, Nat.zero_le _, r⟩
theorem CoL.at {B : Nat} {w w' : World} {l : List PV} {R : List Hrl} (h : CoL B w l R) (hb : Below w.heap.size w w') : CoL B w' l R :=
  ⟨h.1, fun i t q ht hq => ⟨own_same (h.2 i t q ht hq).1 fun k hk => hb.block k (own_lt (h.2 i t q ht hq).1 hk), own_same (h.2 i t q ht hq).2 fun k hk => hb.block k (own_lt (h.2 i t q ht hq).2 hk)⟩⟩
theorem CoR.at {B : Nat} {w w' : World} {v : Value} {R : List Hrl} (h : CoR B w v R) (hb : Below w.heap.size w w') : CoR B w' v R := by
  obtain ⟨l, h1, h2⟩ := h
  exact ⟨l, h1.at hb, h2.at hb⟩
theorem own_blkS {W : World} {B e s n k : Nat} {v : Value} {xs : List Value} (ho : W.ownsRow B e s v n xs) (hk : v.ownBlock = some k) : ∃ cur, W.heap[k]? = some (.cells cur e (0, 0)) := by
  rcases ho.2 with ⟨e, _⟩ | ⟨q, cap, cur, e, _, h2, _⟩
  · rw [e] at hk; cases hk
  · rw [e] at hk
    simp only [Value.ownBlock, Option.some.injEq] at hk
    subst hk
    exact ⟨_, h2⟩
/-- A row of numbers behind an append onto a row of another type. -/
theorem own_grown {W W' : World} {B B2 e2 s2 n n2 : Nat} {v v2 : Value} {xs xs2 : List Value} (ho : W.ownsRow B 3 1 v n xs) (ho2 : W.ownsRow B2 e2 s2 v2 n2 xs2) (he : 3 ≠ e2) (hg : W.grownBy W' v2.ownBlock) : W'.ownsRow B 3 1 v n xs :=
  own_same ho fun k hk => hg.block k (own_lt ho hk) (fun h => by
    obtain ⟨c1, h1⟩ := own_blk ho hk
    obtain ⟨c2, h2⟩ := own_blkS ho2 h.symm
    rw [h1] at h2
    simp only [Option.some.injEq, Obj.cells.injEq] at h2
    exact he h2.2.1)
theorem ruleE : Elem2 Try.prog 71 90 (.agg #[.slice none 0 0, .slice none 0 0]) 48 := ⟨Try.underlying71, by kernel_rfl, rfl⟩

def CmpP (U : List Str) (rs : List Gr) (w : World) (e : Ending) (w' : World) : Prop :=
  Below w.heap.size w w' ∧ ((chkE U rs ≠ 0 ∧ e = .returned (.tuple #[.slice none 0 0, .int .i64 (chkE U rs : Nat)])) ∨
  (chkE U rs = 0 ∧ ∃ (R : List Hrl) (ao : Option Addr) (cap : Nat), e = .returned (.tuple #[.slice ao rs.length cap, .int .i64 0]) ∧ Cmp U rs R ∧ CoR w.heap.size w' (.slice ao rs.length cap) R))
/-- A round of the second loop. -/
structure CmI (U : List Str) (rs : List Gr) (w : World) (j : Nat) (v : Value) (wr : World) : Prop where
  ex : ∃ (R : List Hrl) (l : List PV), l.length = j ∧ Cmp U (rs.take j) R ∧ CoL w.heap.size wr l R ∧ OP 90 w.heap.size w wr v l
  ok : ∀ r, r ∈ rs.take j → ruE U r = 0
theorem rusE_zero {U : List Str} : ∀ {rs : List Gr}, (∀ r ∈ rs, ruE U r = 0) → rusE U rs = 0
  | [], _ => rfl
  | r :: rs, h => by rw [rusE, if_pos (h r (by simp))]; exact rusE_zero fun q hq => h q (List.mem_cons_of_mem _ hq)
theorem rusE_first {U : List Str} : ∀ {rs : List Gr} {j : Nat} {r : Gr}, (∀ q, q ∈ rs.take j → ruE U q = 0) → rs[j]? = some r → ruE U r ≠ 0 → rusE U rs = ruE U r
  | [], _, _, _, h, _ => by simp at h
  | q :: rs, 0, r, _, h, hr => by
    simp at h; subst h
    rw [rusE, if_neg hr]
  | q :: rs, j + 1, r, hq, h, hr => by
    rw [rusE, if_pos (hq q (by simp))]
    exact rusE_first (j := j) (fun p hp => hq p (by simp [hp])) (by simpa using h) hr

theorem ruE_cases (U : List Str) (r : Gr) : (ruE U r = 1 ∧ ¬ SS r.1) ∨ (ruE U r = 3 ∧ SS r.1 ∧ ¬ ∀ x, x ∈ r.1 → x ∈ U) ∨ (ruE U r = 3 ∧ SS r.1 ∧ (∀ x, x ∈ r.1 → x ∈ U) ∧ r.2 ∉ U) ∨ (ruE U r = 0 ∧ SS r.1 ∧ (∀ x, x ∈ r.1 → x ∈ U) ∧ r.2 ∈ U) := by
  unfold ruE
  by_cases h1 : SS r.1
  · by_cases h2 : ∀ x, x ∈ r.1 → x ∈ U
    · by_cases h3 : r.2 ∈ U
      · exact .inr (.inr (.inr ⟨by rw [if_neg (by simpa using h1), if_neg (by simpa using h2), if_neg (by simpa using h3)], h1, h2, h3⟩))
      · exact .inr (.inr (.inl ⟨by rw [if_neg (by simpa using h1), if_neg (by simpa using h2), if_pos h3], h1, h2, h3⟩))
    · exact .inr (.inl ⟨by rw [if_neg (by simpa using h1), if_pos h2], h1, h2⟩)
  · exact .inl ⟨by rw [if_pos h1], h1⟩
theorem ss_single (x : Str) : SS [x] := List.pairwise_singleton _ _
/-- indices, by its outcome. -/
theorem ind_err {uo ao : Option Addr} {un uc n cap : Nat} {U s : List Str} {w : World} (h : Calls Try.prog 60 #[.slice uo un uc, .slice ao n cap] w (IndP U s w)) {q : Int} (hq : (q = 1 ∧ ¬ SS s) ∨ (q = 3 ∧ SS s ∧ ¬ ∀ x, x ∈ s → x ∈ U)) :
    Calls Try.prog 60 #[.slice uo un uc, .slice ao n cap] w fun e w' => e = .returned (.tuple #[.slice none 0 0, .int .i64 q]) ∧ Below w.heap.size w w' :=
  h.mono fun e w' h => by
    rcases h with ⟨h1, h2, h3⟩ | ⟨h1, h2, h3, h4⟩ | ⟨h1, h2, h3⟩
    · rcases hq with ⟨rfl, _⟩ | ⟨_, h5, _⟩
      · exact ⟨h2, h3⟩
      · exact absurd h5 h1
    · rcases hq with ⟨_, h5⟩ | ⟨rfl, _, h5⟩
      · exact absurd h1 h5
      · exact ⟨h3, h4⟩
    · rcases hq with ⟨_, h5⟩ | ⟨_, _, h5⟩
      · exact absurd h1 h5
      · exact absurd h2 h5
theorem ind_ok {uo ao : Option Addr} {un uc n cap : Nat} {U s : List Str} {w : World} (h : Calls Try.prog 60 #[.slice uo un uc, .slice ao n cap] w (IndP U s w)) (h1 : SS s) (h2 : ∀ x, x ∈ s → x ∈ U) :
    Calls Try.prog 60 #[.slice uo un uc, .slice ao n cap] w fun e w' => ∃ (L : List Nat) (ro : Option Addr) (rc : Nat), e = .returned (.tuple #[.slice ro s.length rc, .int .i64 0]) ∧ Ix U s L ∧ Ow 3 w.heap.size w w' (.slice ro s.length rc) (ints L) :=
  h.mono fun e w' h => by
    rcases h with ⟨h5, _⟩ | ⟨_, h5, _⟩ | ⟨_, _, L, ro, rc, h6, h7, h8⟩
    · exact absurd h1 h5
    · exact absurd h2 h5
    · exact ⟨L, ro, rc, h6, h7, h8⟩

set_option maxRecDepth 100000 in
set_option maxHeartbeats 1600000 in
theorem cmp_any (uo : Option Addr) (un uc : Nat) (U : List Str) (ao : Option Addr) (n cap : Nat) (rs : List Gr) (w : World) (RU : Rd w (.slice uo un uc) (ss U)) (R : RuR w (.slice ao n cap) rs) (hsz : ∀ x ∈ U, x.length ≤ 9223372036854775807) (hun : un ≤ 1000000) (hn : n ≤ 1000000) (hr : ∀ r ∈ rs, r.1.length ≤ 1000000) :
    Calls Try.prog 44 #[.slice uo un uc, .slice ao n cap] w (CmpP U rs w) := by
  obtain ⟨hul, hu1, hu2, _⟩ := rds_open RU
  obtain ⟨l0, hl0, hl1, hl2⟩ := R
  obtain ⟨hnl, hn1, hn2⟩ := hl0.cut
  have HUL := hid_of hul
  have HNL : Hid (n = rs.length) := hid_of (by omega)
  have HUC : Hid (∀ j x, U[j]? = some x → ∃ g o, uo = some ⟨g, o, none⟩ ∧ w.cell? ⟨g, o + j, none⟩ = some (.string (ba x))) := hid_of (fun j x hx => by
    obtain ⟨_, _, _, q3⟩ := rds_open RU
    rcases q3 with q3 | ⟨g, o, e, _, hc⟩
    · rw [q3] at hx; simp at hx
    · exact ⟨g, o, e, hc j x hx⟩)
  have HVA : Hid (∀ x, x ∈ U → ∀ wx, Calls Try.prog 67 #[.string (ba x)] wx fun e w' => e = .returned (.bool (nameB x)) ∧ wx = w') := hid_of (fun x hx wx => (valid_any (ba x) wx (by show x.toArray.size ≤ _; unfold maxLen; simpa using hsz x hx)).mono fun _ _ h => ⟨h.1, h.2.symm⟩)
  have HSO : Hid (Calls Try.prog 68 #[.slice uo un uc] w fun e w' => e = .returned (.bool (ssB U)) ∧ Below w.heap.size w w') := hid_of (sorted_any uo un uc U w RU)
  have HRR : Hid (∀ (j : Nat) (r : Gr) (wx : World), Below w.heap.size w wx → rs[j]? = some r → ∃ (g o : Nat) (io : Option Addr) (ic : Nat), ao = some ⟨g, o, none⟩ ∧ wx.cell? ⟨g, o + j * 2, none⟩ = some (.slice io r.1.length ic) ∧ wx.cell? ⟨g, o + j * 2 + 1, none⟩ = some (.string (ba r.2)) ∧ Rd wx (.slice io r.1.length ic) (ss r.1)) := hid_of (fun j r wx hb hr2 => by
    obtain ⟨t, ht⟩ : ∃ t, l0[j]? = some t := ⟨_, List.getElem?_eq_getElem (by have := (List.getElem?_eq_some_iff.1 hr2).1; omega)⟩
    obtain ⟨q1, q2⟩ := hl2 j t r ht hr2
    obtain ⟨g, o, e, c0, c1⟩ := (hl0.at hb).get ht
    have q3 := q1.at hb
    obtain ⟨io, ic, e2, q4⟩ := q1
    rw [ss_length] at e2
    rw [e2] at q3 c0
    rw [q2] at c1
    exact ⟨g, o, io, ic, e, c0, c1, q3⟩)
  have HRL : Hid (∀ (j : Nat) (r : Gr), rs[j]? = some r → r.1.length ≤ 1000000) := hid_of (fun j r h => hr r (List.mem_of_getElem? h))
  have HIN : Hid (SS U → ∀ (io : Option Addr) (m ic : Nat) (s : List Str) (wx : World), Below w.heap.size w wx → Rd wx (.slice io m ic) (ss s) → m ≤ 1000000 → Calls Try.prog 60 #[.slice uo un uc, .slice io m ic] wx (IndP U s wx)) := hid_of (fun hU io m ic s wx hb hR hm => ind_any uo un uc U io m ic s wx (RU.at hb) hR hU hun hm)
  obtain ⟨i0, hi, hz0, hz1, hz2⟩ := info_parts ruleE.info
  clear hul RU hl0 hl1 hl2 hsz hr hnl
  go_enter Try.func44, Try.ntmps44
  go_wp2
  go_loop [7, 16] (fun xv iv => ∃ (j : Nat) (v : Value), xv = v ∧ j ≤ un ∧ iv = .int .i64 j ∧ Hid (∀ x, x ∈ U.take j → nameB x = true)) (fun _ iv => un - (intOf iv).toNat)
  case atStart => exact ⟨0, _, rfl, Nat.zero_le _, rfl, hid_of (by simp)⟩
  case round =>
    obtain ⟨j, v, rfl, hj, rfl, hnm⟩ := hrel
    by_cases hlt : j < un
    · have hd : decide (j < un) = true := by simp; omega
      obtain ⟨x, hx⟩ : ∃ x, U[j]? = some x := ⟨_, List.getElem?_eq_getElem (by have := HUL.out; omega)⟩
      obtain ⟨g, o, rfl, c1⟩ := HUC.out j x hx
      have HX := hid_of hx
      have HV := hid_of (HVA.out x (List.mem_of_getElem? hx) w)
      obtain ⟨q, hq⟩ : ∃ q, q = nameB x := ⟨_, rfl⟩
      rw [← hq] at HV
      have HQ := hid_of hq
      clear hx hq
      cases q
      · have HE : Hid (CmpP U rs w (.returned (.tuple #[.slice none 0 0, .int .i64 3])) w) := hid_of (by
          have e : chkE U rs = 3 := by
            unfold chkE
            rw [if_pos]
            rw [List.all_eq_false]
            exact ⟨x, List.mem_of_getElem? HX.out, by rw [← HQ.out]; simp⟩
          exact ⟨Below.refl _ _, .inl ⟨by omega, by rw [e]; rfl⟩⟩)
        go_wp2_with (go_at_call 67; ((with_reducible refine (HV.out).mono ?_); (rintro e w' ⟨rfl, rfl⟩)))
        go_ret2
        exact HE.out
      · go_wp2_with (go_at_call 67; ((with_reducible refine (HV.out).mono ?_); (rintro e w' ⟨rfl, rfl⟩)))
        go_round
        case rel => exact ⟨j + 1, _, rfl, by omega, by go_num, hid_of (fun y hy => by
          rw [take_snoc_get HX.out, List.mem_append, List.mem_singleton] at hy
          rcases hy with hy | rfl
          · exact hnm.out y hy
          · exact HQ.out.symm)⟩
        case measure => simp [intOf]; omega
    · have hd : decide (j < un) = false := by simp; omega
      obtain rfl : un = j := by omega
      have HALL : Hid (U.all nameB = true) := hid_of (by
        rw [List.all_eq_true]
        intro x hx
        refine hnm.out x ?_
        rw [List.take_of_length_le (by have := HUL.out; omega)]; exact hx)
      clear hnm hlt HUC HVA
      by_cases hss : SS U
      · have hb : ssB U = true := decide_eq_true hss
        rw [hb] at HSO
        have HSS := hid_of hss
        have HI := hid_of (HIN.out hss)
        clear hss hb HIN
        go_wp2_with (first
          | (go_at_call 68; ((with_reducible refine (HSO.out).mono ?_); (rintro e w1 ⟨rfl, h5⟩)); have B1 := hid_of h5; clear h5)
          | (at_make; (refine wpList_make_own _ rfl _ _ 71 rfl w1.heap.size 90 i0 (.agg #[.slice none 0 0, .slice none 0 0]) 2 Try.underlying71 hi hz0 hz1 .i64 .i64 _ n rfl rfl rfl (by rw [hz2]; omega) (by unfold maxLen; omega) (Nat.le_refl _) ?_); intro w2 hown hgrow; have HO := hid_of ((op_made hown hgrow).start (Nat.le_refl _) B1.out B1.out.size); clear hown hgrow))
        go_loopw [8, 32] (fun rv iv wr => ∃ (j : Nat) (ro : Option Addr) (rc : Nat), rv = .slice ro j rc ∧ j ≤ n ∧ iv = .int .i64 j ∧ Hid (CmI U rs w j (.slice ro j rc) wr)) (fun _ iv _ => n - (intOf iv).toNat)
        case atStart => exact ⟨0, _, _, rfl, Nat.zero_le _, rfl, hid_of ⟨⟨[], [], rfl, ⟨rfl, by intro i r q hr2; simp at hr2⟩, ⟨rfl, by intro i t q ht; simp at ht⟩, HO.out⟩, by simp⟩⟩
        case round =>
          obtain ⟨j, ro, rc, rfl, hj, rfl, hci⟩ := hrel
          obtain ⟨R, l, hlj, hcm, hco, hop⟩ := hci.out.ex
          have HLJ := hid_of hlj
          have HCM := hid_of hcm
          have HCO := hid_of hco
          have HOP := hid_of hop
          clear hlj hcm hco hop
          by_cases hlt : j < n
          · have hd : decide (j < n) = true := by simp; omega
            obtain ⟨r, hr⟩ : ∃ r, rs[j]? = some r := ⟨_, List.getElem?_eq_getElem (by have := HNL.out; omega)⟩
            obtain ⟨g, o, io, ic, rfl, c0, c1, c2⟩ := HRR.out j r wr HOP.out.bel hr
            have HR := hid_of hr
            have hm0 := HRL.out j r hr
            obtain ⟨bt, hbt⟩ : ∃ b, b = ba r.2 := ⟨_, rfl⟩
            obtain ⟨m, hm⟩ : ∃ m, m = r.1.length := ⟨_, rfl⟩
            rw [← hbt] at c1
            rw [← hm] at c0 c2 hm0
            have HBT := hid_of hbt
            have HM := hid_of hm
            have HC2 := hid_of c2
            have hb1 := bel_alloc wr (.cells #[.slice io m ic, .string bt] 41)
            have HB1 := hid_of hb1
            have HI1 := hid_of (HI.out io m ic r.1 _ (HOP.out.bel.trans (hb1.mono HOP.out.size)) (c2.at hb1) hm0)
            have HCS := ruE_cases U r
            have HFAIL : Hid (∀ q, q ≠ 0 → ruE U r = q → ∀ wx, Below w.heap.size w wx → CmpP U rs w (.returned (.tuple #[.slice none 0 0, .int .i64 (q : Nat)])) wx) := hid_of (fun q hq0 hq wx hb => by
              have e : chkE U rs = q := by
                unfold chkE
                rw [if_neg (by rw [HALL.out]; simp), if_neg (by simpa using HSS.out), ← hq]
                exact rusE_first hci.out.ok HR.out (by omega)
              exact ⟨hb, .inl ⟨by omega, by rw [e]⟩⟩)
            have hB0 := hid_of (HOP.out.bel.trans (hb1.mono HOP.out.size))
            clear hr hbt hm c2 hb1
            rcases HCS with ⟨e1, e2⟩ | ⟨e1, e2, e3⟩ | ⟨e1, e2, e3, e4⟩ | ⟨e1, e2, e3, e4⟩
            · have HJ := hid_of (ind_err HI1.out (q := 1) (.inl ⟨rfl, e2⟩))
              have HE := hid_of (HFAIL.out 1 (by decide) e1)
              clear e1 e2
              go_wp2_with (go_at_call 60; ((with_reducible refine (HJ.out).mono ?_); (rintro e w3 ⟨rfl, h5⟩)); have B3 := hid_of h5; clear h5)
              go_ret2
              exact HE.out _ (hB0.out.trans (B3.out.mono hB0.out.size))
            · have HJ := hid_of (ind_err HI1.out (q := 3) (.inr ⟨rfl, e2, e3⟩))
              have HE := hid_of (HFAIL.out 3 (by decide) e1)
              clear e1 e2 e3
              go_wp2_with (go_at_call 60; ((with_reducible refine (HJ.out).mono ?_); (rintro e w3 ⟨rfl, h5⟩)); have B3 := hid_of h5; clear h5)
              go_ret2
              exact HE.out _ (hB0.out.trans (B3.out.mono hB0.out.size))
            · have HJ1 := hid_of (ind_ok HI1.out e2 e3)
              rw [← HM.out] at HJ1
              have HC3 : Hid (∀ w3, Below (wr.alloc (.cells #[.slice io m ic, .string bt] 41)).heap.size (wr.alloc (.cells #[.slice io m ic, .string bt] 41)) w3 → w3.cell? ⟨wr.heap.size, 1, none⟩ = some (.string bt)) := hid_of (fun w3 hb => by
                have q := heap_alloc_new wr (.cells #[.slice io m ic, .string bt] 41)
                have q2 := (hb.block wr.heap.size (by simp)).trans q
                exact blk_cell (cs := [.slice io m ic, .string bt]) q2 rfl)
              have HI2 : Hid (∀ w3, Below (wr.alloc (.cells #[.slice io m ic, .string bt] 41)).heap.size (wr.alloc (.cells #[.slice io m ic, .string bt] 41)) w3 → Calls Try.prog 60 #[.slice uo un uc, .slice (some ⟨w3.heap.size, 0, none⟩) 1 1] (w3.alloc (.cells #[.string bt] 9)) (IndP U [r.2] (w3.alloc (.cells #[.string bt] 9)))) := hid_of (fun w3 hb => by
                have q := hB0.out.trans (hb.mono hB0.out.size)
                refine HI.out _ 1 1 [r.2] _ (q.trans ((bel_alloc w3 _).mono q.size)) ?_ (by omega)
                rw [HBT.out]
                exact rd_new rfl rfl (by simp [ss]))
              have HJ2 : Hid (∀ w3, Below (wr.alloc (.cells #[.slice io m ic, .string bt] 41)).heap.size (wr.alloc (.cells #[.slice io m ic, .string bt] 41)) w3 → Calls Try.prog 60 #[.slice uo un uc, .slice (some ⟨w3.heap.size, 0, none⟩) 1 1] (w3.alloc (.cells #[.string bt] 9)) fun e w' => e = .returned (.tuple #[.slice none 0 0, .int .i64 3]) ∧ Below (w3.alloc (.cells #[.string bt] 9)).heap.size (w3.alloc (.cells #[.string bt] 9)) w') := hid_of (fun w3 hb => ind_err (HI2.out w3 hb) (q := 3) (.inr ⟨rfl, ss_single _, fun h => e4 (h _ (by simp))⟩))
              have HE := hid_of (HFAIL.out 3 (by decide) e1)
              clear e1 e2 e3 e4 HI2
              go_wp2_with (first
                | (go_at_call 60; ((with_reducible refine (HJ1.out).mono ?_); (rintro e w3 ⟨L1, po, pc, rfl, h5, h6⟩)); have B3 := hid_of h6.bel; have c3 := HC3.out w3 h6.bel; clear h5 h6)
                | (go_at_call 60; ((with_reducible refine (HJ2.out w3 B3.out).mono ?_); (rintro e w4 ⟨rfl, h5⟩)); have B4 := hid_of h5; clear h5))
              go_ret2
              have q := hB0.out.trans (B3.out.mono hB0.out.size)
              have q2 := q.trans ((bel_alloc w3 (.cells #[.string bt] 9)).mono q.size)
              exact HE.out _ (q2.trans (B4.out.mono q2.size))
            · have HJ1 := hid_of (ind_ok HI1.out e2 e3)
              rw [← HM.out] at HJ1
              have HC3 : Hid (∀ w3, Below (wr.alloc (.cells #[.slice io m ic, .string bt] 41)).heap.size (wr.alloc (.cells #[.slice io m ic, .string bt] 41)) w3 → w3.cell? ⟨wr.heap.size, 1, none⟩ = some (.string bt)) := hid_of (fun w3 hb => by
                have q := heap_alloc_new wr (.cells #[.slice io m ic, .string bt] 41)
                have q2 := (hb.block wr.heap.size (by simp)).trans q
                exact blk_cell (cs := [.slice io m ic, .string bt]) q2 rfl)
              have HI2 : Hid (∀ w3, Below (wr.alloc (.cells #[.slice io m ic, .string bt] 41)).heap.size (wr.alloc (.cells #[.slice io m ic, .string bt] 41)) w3 → Calls Try.prog 60 #[.slice uo un uc, .slice (some ⟨w3.heap.size, 0, none⟩) 1 1] (w3.alloc (.cells #[.string bt] 9)) (IndP U [r.2] (w3.alloc (.cells #[.string bt] 9)))) := hid_of (fun w3 hb => by
                have q := hB0.out.trans (hb.mono hB0.out.size)
                refine HI.out _ 1 1 [r.2] _ (q.trans ((bel_alloc w3 _).mono q.size)) ?_ (by omega)
                rw [HBT.out]
                exact rd_new rfl rfl (by simp [ss]))
              have HJ2 : Hid (∀ w3, Below (wr.alloc (.cells #[.slice io m ic, .string bt] 41)).heap.size (wr.alloc (.cells #[.slice io m ic, .string bt] 41)) w3 → Calls Try.prog 60 #[.slice uo un uc, .slice (some ⟨w3.heap.size, 0, none⟩) 1 1] (w3.alloc (.cells #[.string bt] 9)) fun e w' => ∃ (L : List Nat) (ro : Option Addr) (rc : Nat), e = .returned (.tuple #[.slice ro 1 rc, .int .i64 0]) ∧ Ix U [r.2] L ∧ Ow 3 (w3.alloc (.cells #[.string bt] 9)).heap.size (w3.alloc (.cells #[.string bt] 9)) w' (.slice ro 1 rc) (ints L)) := hid_of (fun w3 hb => ind_ok (HI2.out w3 hb) (ss_single _) (fun x hx => by rw [List.mem_singleton.1 hx]; exact e4))
              have HOK : Hid (∀ q, q ∈ rs.take (j + 1) → ruE U q = 0) := hid_of (fun q hq => by
                rw [take_snoc_get HR.out, List.mem_append, List.mem_singleton] at hq
                rcases hq with hq | rfl
                · exact hci.out.ok q hq
                · exact e1)
              have HST : Hid (∀ (w3 w4 w6 : World) (L1 L2 : List Nat) (po qo ao2 : Option Addr) (pc qc n2 c2 : Nat), Ix U r.1 L1 → Ow 3 (wr.alloc (.cells #[.slice io m ic, .string bt] 41)).heap.size (wr.alloc (.cells #[.slice io m ic, .string bt] 41)) w3 (.slice po m pc) (ints L1) → Ix U [r.2] L2 →
                  Ow 3 (w3.alloc (.cells #[.string bt] 9)).heap.size (w3.alloc (.cells #[.string bt] 9)) w4 (.slice qo 1 qc) (ints L2) → n2 = l.length + [(Value.slice po m pc, Value.slice qo 1 qc)].length → OP 90 w.heap.size w w6 (.slice ao2 n2 c2) (l ++ [(Value.slice po m pc, Value.slice qo 1 qc)]) → (w4.alloc (.cells #[.slice po m pc, .slice qo 1 qc] 90)).grownBy w6 (Value.slice ro j rc).ownBlock → n2 = j + 1 ∧ CmI U rs w (j + 1) (.slice ao2 n2 c2) w6) := hid_of (fun w3 w4 w6 L1 L2 po qo ao2 pc qc n2 c2 x1 o1 x2 o2 hn2 hop2 hg => by
                have l1 : L1.length = m := by rw [x1.len, HM.out]
                have l2 : L2.length = 1 := by rw [x2.len]; rfl
                have b3 := o1.bel
                have b4 := o2.bel
                have p1 := bel_alloc w3 (.cells #[.string bt] 9)
                have p2 := bel_alloc w4 (.cells #[.slice po m pc, .slice qo 1 qc] 90)
                have t1 : Below w3.heap.size w3 w4 := p1.trans (b4.mono p1.size)
                have t2 : Below w3.heap.size w3 (w4.alloc (.cells #[.slice po m pc, .slice qo 1 qc] 90)) := t1.trans (p2.mono t1.size)
                have t3 : Below wr.heap.size wr w3 := HB1.out.trans (b3.mono HB1.out.size)
                have t4 := t3.trans (t2.mono t3.size)
                have g1 : w3.ownsRow w.heap.size 3 1 (.slice po m pc) L1.length (ints L1) := by have := own_weak (B' := w.heap.size) o1.own (Nat.le_trans hB0.out.size (Nat.le_refl _)); rw [ints_length] at this; exact this
                have g2 : w4.ownsRow w.heap.size 3 1 (.slice qo 1 qc) L2.length (ints L2) := by have := own_weak (B' := w.heap.size) o2.own (by have z0 := hB0.out.size; have z := b3.size; have z2 := p1.size; omega); rw [ints_length] at this; exact this
                have g1' := own_same g1 fun k hk => t2.block k (own_lt g1 hk)
                have g2' := own_same g2 fun k hk => p2.block k (own_lt g2 hk)
                have hop3 := HOP.out.later t4
                have hn3 : n2 = j + 1 := by simp at hn2; have := HLJ.out; omega
                refine ⟨hn3, ⟨R ++ [(L1, L2)], l ++ [(Value.slice po m pc, Value.slice qo 1 qc)], by simp [HLJ.out], ?_, ?_, hop2⟩, HOK.out⟩
                · refine ⟨by rw [take_snoc_get HR.out]; simp [HCM.out.len], fun i r' q' hr' hq' => ?_⟩
                  rw [take_snoc_get HR.out] at hr'
                  have hlen := HCM.out.len
                  by_cases hi : i < R.length
                  · rw [List.getElem?_append_left (by omega)] at hr'
                    rw [List.getElem?_append_left hi] at hq'
                    exact HCM.out.at_ i r' q' hr' hq'
                  · have e : i = R.length := by have := (List.getElem?_eq_some_iff.1 hq').1; simp at this; omega
                    subst e
                    rw [List.getElem?_append_right (Nat.le_refl _)] at hq'
                    rw [List.getElem?_append_right (by omega)] at hr'
                    simp [← hlen] at hr' hq'
                    subst hr' hq'
                    exact ⟨x1, x2⟩
                · have hco := HCO.out
                  refine ⟨by simp [hco.1], fun i t' q' ht' hq' => ?_⟩
                  by_cases hi : i < R.length
                  · rw [List.getElem?_append_left (by rw [hco.1]; exact hi)] at ht'
                    rw [List.getElem?_append_left hi] at hq'
                    have := (hco.at t4).2 i t' q' ht' hq'
                    exact ⟨own_grown this.1 hop3.own (by decide) hg, own_grown this.2 hop3.own (by decide) hg⟩
                  · have e : i = R.length := by have := (List.getElem?_eq_some_iff.1 hq').1; simp at this; omega
                    subst e
                    rw [List.getElem?_append_right (Nat.le_refl _)] at hq'
                    rw [List.getElem?_append_right (by rw [hco.1]; exact Nat.le_refl _)] at ht'
                    simp [hco.1] at ht' hq'
                    subst ht' hq'
                    exact ⟨own_grown g1' hop3.own (by decide) hg, own_grown g2' hop3.own (by decide) hg⟩)
              have HOPW : Hid (∀ (w3 w4 : World) (o : Obj), Below (wr.alloc (.cells #[.slice io m ic, .string bt] 41)).heap.size (wr.alloc (.cells #[.slice io m ic, .string bt] 41)) w3 → Below (w3.alloc (.cells #[.string bt] 9)).heap.size (w3.alloc (.cells #[.string bt] 9)) w4 → OP 90 w.heap.size w (w4.alloc o) (.slice ro j rc) l) := hid_of (fun w3 w4 o b3 b4 => by
                have t1 := HB1.out.trans (b3.mono HB1.out.size)
                have t2 := t1.trans ((bel_alloc w3 (.cells #[.string bt] 9)).mono t1.size)
                have t3 := t2.trans (b4.mono t2.size)
                exact HOP.out.later (t3.trans ((bel_alloc w4 o).mono t3.size)))
              have HLB : Hid (l.length ≤ 1000000) := hid_of (by have := HLJ.out; omega)
              clear e1 e2 e3 e4 HI2
              go_wp2_with (first
                | (go_at_call 60; ((with_reducible refine (HJ1.out).mono ?_); (rintro e w3 ⟨L1, po, pc, rfl, h5, h6⟩)); have X1 := hid_of h5; have O1 := hid_of h6; have c3 := HC3.out w3 h6.bel; clear h5 h6)
                | (go_at_call 60; ((with_reducible refine (HJ2.out w3 O1.out.bel).mono ?_); (rintro e w4 ⟨L2, qo, qc, rfl, h5, h6⟩)); have X2 := hid_of h5; have O2 := hid_of h6; clear h5 h6)
                | (at_builtin; (refine wpList_pr ruleE rfl (.tmp 57) (.tmp 61) rfl (v := .slice ro j rc) (l := l) rfl (HOPW.out w3 w4 _ O1.out.bel O2.out.bel) (vx := .slice (some ⟨w4.heap.size, 0, none⟩) 1 1) (m := [(Value.slice po m pc, Value.slice qo 1 qc)]) rfl prd_new (by intro u hu; simp [prs] at hu; rcases hu with rfl | rfl <;> rfl) (by have := HLB.out; simp only [List.length_singleton]; omega) (by have := HLB.out; simp only [List.length_singleton]; omega) ?_); intro ao2 n2 c2 w6 h5 h6 h7; have SS6 := hid_of (HST.out w3 w4 w6 L1 L2 po qo ao2 pc qc n2 c2 X1.out O1.out X2.out O2.out h5 h6 h7); clear h5 h6 h7))
              go_roundw
              case rel => exact ⟨j + 1, ao2, c2, by rw [SS6.out.1], by omega, by go_num, hid_of (by rw [← SS6.out.1]; have h5 := SS6.out.2; rw [← SS6.out.1] at h5; exact h5)⟩
              case measure => simp [intOf]; omega
          · have hd : decide (j < n) = false := by simp; omega
            obtain rfl : j = n := by omega
            have HE : Hid (CmpP U rs w (.returned (.tuple #[.slice ro rs.length rc, .int .i64 0])) wr) := hid_of (by
              have e1 : rs.take j = rs := List.take_of_length_le (by have := HNL.out; omega)
              have hok := hci.out.ok
              have hcm := HCM.out
              rw [e1] at hok hcm
              have e : chkE U rs = 0 := by
                unfold chkE
                rw [if_neg (by rw [HALL.out]; simp), if_neg (by simpa using HSS.out)]
                exact rusE_zero hok
              refine ⟨HOP.out.bel, .inr ⟨e, R, ro, rc, rfl, hcm, l, ?_, HCO.out⟩⟩
              have := HOP.out.prd
              rw [← HNL.out]; exact this)
            rw [← HNL.out] at HE
            clear hlt
            go_wp2
            go_ret2
            exact HE.out
      · have hb : ssB U = false := decide_eq_false hss
        rw [hb] at HSO
        have HE : Hid (∀ w1, Below w.heap.size w w1 → CmpP U rs w (.returned (.tuple #[.slice none 0 0, .int .i64 1])) w1) := hid_of (fun w1 hb => by
          have e : chkE U rs = 1 := by
            unfold chkE
            rw [if_neg (by rw [HALL.out]; simp), if_pos hss]
          exact ⟨hb, .inl ⟨by omega, by rw [e]; rfl⟩⟩)
        clear hss hb
        go_wp2_with (go_at_call 68; ((with_reducible refine (HSO.out).mono ?_); (rintro e w1 ⟨rfl, h5⟩)); have B1 := hid_of h5; clear h5)
        go_ret2
        exact HE.out _ B1.out
end Go.Proofs.Ytedohggbpmcehaa

/- newChase: a chase with the rules of a list. Bounds on sizes alone. -/
namespace Go.Proofs.Ytedohggbpmcehaa
open Go.RowKit

theorem boolsE : Elem Try.prog 82 4 (.bool false) 1 := ⟨Try.underlying82, by kernel_rfl, rfl⟩
def off0 : Nat → Nat := fun _ => 0
def nilV : Value := .slice none 0 0
theorem ch_new {w w3 : World} {c n gu gh : Nat} (hb : Below w.heap.size w w3) (hn : n ≤ 1000000) (hc : w3.heap[c]? = some (.cells #[.slice none 0 0, .slice (some ⟨gu, 0, none⟩) n n, .slice none 0 0, .slice none 0 0, .slice (some ⟨gh, 0, none⟩) n n, .slice none 0 0, .int .i64 0] 84 (0, 0)))
    (hu : w3.heap[gu]? = some (.cells (madeCells #[.slice none 0 0] n) 56 (0, 0))) (hh : w3.heap[gh]? = some (.cells (madeCells #[.bool false] n) 4 (0, 0))) :
    CH w3 c n [] (lackR [] off0 []) (memB []) [] 0 ⟨.slice none 0 0, .slice none 0 0, .slice none 0 0, .slice none 0 0, gu, gh, List.replicate n (.slice none 0 0), []⟩ (fun b => b = c ∨ b = gu ∨ b = gh) := by
  have hnil : ∀ E, w3.ownsRow 0 E 1 (.slice none 0 0) 0 [] := fun E => World.ownsRow_nil w3 0 E 1
  have hno : ∀ g, (Value.slice none 0 0).ownBlock = some g → False := fun g hg => by cases hg
  have e1 : (madeCells #[Value.slice none 0 0] n) = (List.replicate n (Value.slice none 0 0)).toArray := by
    rw [← Array.toList_inj]; simp [toList_madeCells_one]
  have e2 : (madeCells #[Value.bool false] n) = (bools n (memB [])).toArray := by
    rw [← Array.toList_inj, toList_madeCells_one]
    apply List.ext_getElem?
    intro i
    by_cases hi : i < n
    · simp [bools, memB, hi]
    · simp [bools, hi]
  have hur : ∀ (i : Nat) (v : Value), (List.replicate n (Value.slice none 0 0))[i]? = some v → v = .slice none 0 0 := fun i v h => by
    have := List.eq_of_mem_replicate (List.mem_of_getElem? h); exact this
  refine ⟨hc, hnil _, by rw [hu, e1], by simp, fun i v hv => ?_, hnil _, fun i v hv => by simp at hv, hnil _, by rw [hh, e2], hnil _, .inl rfl, fun g hg => (hno g hg).elim, .inr (.inl rfl), fun i v hv g hg => ?_, fun g hg => (hno g hg).elim, fun g hg => (hno g hg).elim, .inr (.inr rfl), fun g hg => (hno g hg).elim, fun g hg => (hno g hg).elim, fun g hg => (hno g hg).elim, fun g hg => (hno g hg).elim,
    fun i v hv g hg => ?_, fun i v hv g hg => ?_, fun i v hv g hg => ?_, fun i j u v _ hu2 hv g hg => ?_, fun g hg => (hno g hg).elim, fun g hg => ?_, by simp, by simp, fun i x hi => by simp at hi, fun i hi => by simp at hi⟩
  · rw [hur i v hv]; exact hnil _
  · rw [hur i v hv] at hg; cases hg
  · rw [hur i v hv] at hg; cases hg
  · rw [hur i v hv] at hg; cases hg
  · rw [hur i v hv] at hg; cases hg
  · rw [hur i u hu2] at hg; cases hg
  · rcases hg with rfl | rfl | rfl
    · exact lt_of_block hc
    · exact lt_of_block hu
    · exact lt_of_block hh

theorem three_new (w : World) (a b c : Obj) : Below w.heap.size w ((((w.alloc a).alloc b).alloc c).drew) ∧ ((((w.alloc a).alloc b).alloc c).drew).heap[w.heap.size]? = some a ∧ ((((w.alloc a).alloc b).alloc c).drew).heap[w.heap.size + 1]? = some b ∧ ((((w.alloc a).alloc b).alloc c).drew).heap[w.heap.size + 1 + 1]? = some c := by
  have z1 : (w.alloc a).heap.size = w.heap.size + 1 := by simp
  have z2 : ((w.alloc a).alloc b).heap.size = w.heap.size + 1 + 1 := by simp
  have B1 := bel_alloc w a
  have B2 := bel_alloc (w.alloc a) b
  have B3 := bel_alloc ((w.alloc a).alloc b) c
  have n1 := heap_alloc_new w a
  have n2 := heap_alloc_new (w.alloc a) b
  have n3 := heap_alloc_new ((w.alloc a).alloc b) c
  rw [z1] at n2
  rw [z2] at n3
  refine ⟨((B1.trans (B2.mono (by omega))).trans (B3.mono (by omega))).drew, ?_, ?_, n3⟩
  · exact ((B3.block _ (by omega)).trans (B2.block _ (by omega))).trans n1
  · exact (B3.block _ (by omega)).trans n2
/-- The rules are of n names. -/
def RulesOk (n : Nat) (R : List Hrl) : Prop := ∀ (i : Nat) (q : Hrl), R[i]? = some q → q.1.Nodup ∧ (∀ x ∈ q.1, x < n) ∧ ∀ x ∈ q.2, x < n
def NewI (B : Nat) (w : World) (c n : Nat) (R : List Hrl) (wr : World) : Prop :=
  ∃ V S, CH wr c n R (lackR R off0 []) (memB []) [] 0 V S ∧ Below w.heap.size w wr ∧ (∀ b, S b → w.heap.size ≤ b) ∧ ∀ v ∈ V.ar, ∀ g, v.ownBlock = some g → B ≤ g
def NewP (B : Nat) (w : World) (n : Nat) (R : List Hrl) (e : Ending) (w' : World) : Prop := ∃ c, e = .returned (.pointer (some ⟨c, 0, none⟩)) ∧ w.heap.size ≤ c ∧ NewI B w c n R w'

set_option maxRecDepth 100000 in
set_option maxHeartbeats 800000 in
theorem new_any (B : Nat) (n : Nat) (R : List Hrl) (ao : Option Addr) (m cap : Nat) (w : World) (hco : CoR B w (.slice ao m cap) R) (hok : RulesOk n R) (hn : n ≤ 1000000) (hm : m ≤ 1000000) :
    Calls Try.prog 46 #[.int .i64 n, .slice ao m cap] w (NewP B w n R) := by
  obtain ⟨l, hl1, hl2⟩ := hco
  obtain ⟨hml, hm1, hm2⟩ := hl1.cut
  have hmk1 := run_make_row' (P := Try.prog) 81 56 (.slice none 0 0) 24 Try.underlying81 rowsE.info rfl .i64 .i64 n (by omega) (by omega)
  have hmk2 := run_make_row' (P := Try.prog) 82 4 (.bool false) 1 Try.underlying82 boolsE.info rfl .i64 .i64 n (by omega) (by omega)
  have HML : Hid (m = R.length) := hid_of (by rw [hml]; exact hl2.1)
  have HADD : Hid (∀ c wr j, j < m → NewI B w c n (R.take j) wr → ∃ (g o : Nat) (po qo : Option Addr) (pl pc ql qc : Nat), ao = some ⟨g, o, none⟩ ∧ wr.cell? ⟨g, o + j * 2, none⟩ = some (.slice po pl pc) ∧ wr.cell? ⟨g, o + j * 2 + 1, none⟩ = some (.slice qo ql qc) ∧
      Calls Try.prog 66 #[.pointer (some ⟨c, 0, none⟩), .agg #[.slice po pl pc, .slice qo ql qc]] (wr.alloc (.cells #[.slice po pl pc, .slice qo ql qc] 90)) fun e w' => e = .returned (.tuple #[]) ∧ NewI B w c n (R.take (j + 1)) w') := hid_of (fun c wr j hj hi => by
    obtain ⟨V, S, h1, h2, h3, h8⟩ := hi
    obtain ⟨t, ht⟩ : ∃ t, l[j]? = some t := ⟨_, List.getElem?_eq_getElem (by omega)⟩
    obtain ⟨q, hq⟩ : ∃ q, R[j]? = some q := ⟨_, List.getElem?_eq_getElem (by have := HML.out; omega)⟩
    obtain ⟨o1, o2⟩ := hl2.2 j t q ht hq
    obtain ⟨g, o, e, c0, c1⟩ := (hl1.at h2).get ht
    obtain ⟨po, pc, e1⟩ := own_shape o1
    obtain ⟨qo, qc, e2⟩ := own_shape o2
    rw [e1] at c0 o1
    rw [e2] at c1 o2
    obtain ⟨k1, k2, k3⟩ := hok j q hq
    have B1 := bel_alloc wr (.cells #[.slice po q.1.length pc, .slice qo q.2.length qc] 90)
    have B2 := h2.trans (B1.mono h2.size)
    have p1 := own_same o1 fun k hk => B2.block k (own_lt o1 hk)
    have p2 := own_same o2 fun k hk => B2.block k (own_lt o2 hk)
    refine ⟨g, o, po, qo, _, pc, _, qc, e, c0, c1, ?_⟩
    refine (add_any B c n (R.take j) off0 [] V S q.1 q.2 _ _ _ (h1.at B1) k1 k2 k3 (own_rd p1) (own_rd p2) (fun b hb => ⟨own_lt p1 hb, fun hs => ?_⟩) (fun b hb => ⟨own_lt p2 hb, fun hs => ?_⟩) hn (by rw [List.length_take]; omega) rfl h8 (fun g hg => (o2.lt g hg).1)).mono ?_
    · have := own_lt o1 hb; have := h3 b hs; omega
    · have := own_lt o2 hb; have := h3 b hs; omega
    · rintro ee w' ⟨rfl, V', S', h5, h6, h9⟩
      refine ⟨rfl, V', S', ?_, (h2.trans (B1.mono h2.size)).trans (h6.below (Nat.le_trans h2.size B1.size) h3), fun b hb => ?_, h9⟩
      · rw [take_snoc_get hq]; exact h5
      · rcases h6.sub b hb with h7 | h7
        · exact h3 b h7
        · have := h2.size; have := B1.size; omega)
  have HST : Hid (∀ c gu gh w3, Below w.heap.size w w3 → w.heap.size ≤ c → w.heap.size ≤ gu → w.heap.size ≤ gh → w3.heap[c]? = some (.cells #[.slice none 0 0, .slice (some ⟨gu, 0, none⟩) n n, .slice none 0 0, .slice none 0 0, .slice (some ⟨gh, 0, none⟩) n n, .slice none 0 0, .int .i64 0] 84 (0, 0)) →
      w3.heap[gu]? = some (.cells (madeCells #[.slice none 0 0] n) 56 (0, 0)) → w3.heap[gh]? = some (.cells (madeCells #[.bool false] n) 4 (0, 0)) → NewI B w c n (R.take 0) w3) := hid_of (fun c gu gh w3 hb h1 h2 h3 e1 e2 e3 => ⟨_, _, ch_new hb hn e1 e2 e3, hb, fun b hb2 => (by rcases hb2 with rfl | rfl | rfl <;> assumption), fun v hv => by simp at hv⟩)
  have hmm : m ≤ 9223372036854775807 := by omega
  clear hl1 hl2 hml hm1 hm2 hok hn
  go_enter Try.func46, Try.ntmps46
  go_wp2
  go_region
  · have h3 := three_new w (.cells (madeCells #[.slice none 0 0] n) 56) (.cells (madeCells #[.bool false] n) 4) (.cells #[.slice none 0 0, .slice (some ⟨w.heap.size, 0, none⟩) n n, .slice none 0 0, .slice none 0 0, .slice (some ⟨w.heap.size + 1, 0, none⟩) n n, .slice none 0 0, .int .i64 0] 84)
    have HI0 := hid_of (HST.out (w.heap.size + 1 + 1) w.heap.size (w.heap.size + 1) _ h3.1 (by omega) (Nat.le_refl _) (by omega) h3.2.2.2 h3.2.1 h3.2.2.1)
    have HCB : Hid (w.heap.size ≤ w.heap.size + 1 + 1) := hid_of (by omega)
    clear h3 hmk1 hmk2 HST
    generalize (((w.alloc (.cells (madeCells #[.slice none 0 0] n) 56)).alloc (.cells (madeCells #[.bool false] n) 4)).alloc (.cells #[.slice none 0 0, .slice (some ⟨w.heap.size, 0, none⟩) n n, .slice none 0 0, .slice none 0 0, .slice (some ⟨w.heap.size + 1, 0, none⟩) n n, .slice none 0 0, .int .i64 0] 84)).drew = W3 at *
    generalize hcb : w.heap.size + 1 + 1 = cb at *
    clear hcb
    go_wp2
    go_loopw [7, 16] (fun xv iv wr => ∃ (j : Nat) (v : Value), xv = v ∧ j ≤ m ∧ iv = .int .i64 j ∧ Hid (NewI B w cb n (R.take j) wr)) (fun _ iv _ => m - (intOf iv).toNat)
    case atStart => exact ⟨0, _, rfl, Nat.zero_le _, rfl, HI0⟩
    case round =>
      obtain ⟨j, v, rfl, hj, rfl, hi⟩ := hrel
      by_cases hlt : j < m
      · have hd : decide (j < m) = true := by simp; omega
        obtain ⟨g, o, po, qo, pl, pc, ql, qc, rfl, c0, c1, hcall⟩ := HADD.out cb wr j hlt hi.out
        have HC := hid_of hcall
        clear hcall hi
        go_wp2_with (go_at_call 66; ((with_reducible refine (HC.out).mono ?_); (rintro e w2 ⟨rfl, h5⟩)); have HH := hid_of h5; clear h5)
        go_roundw
        case rel => exact ⟨j + 1, _, rfl, by omega, by go_num, HH⟩
        case measure => simp [intOf]; omega
      · have hd : decide (j < m) = false := by simp; omega
        obtain rfl : m = j := by omega
        have HE : Hid (NewP B w n R (.returned (.pointer (some ⟨cb, 0, none⟩))) wr) := hid_of ⟨cb, rfl, HCB.out, by
          have h5 := hi.out
          rw [List.take_of_length_le (by have := HML.out; omega)] at h5; exact h5⟩
        go_wp2
        go_ret
        exact HE.out
  · have h3 := three_new w (.cells (madeCells #[.bool false] n) 4) (.cells (madeCells #[.slice none 0 0] n) 56) (.cells #[.slice none 0 0, .slice (some ⟨w.heap.size + 1, 0, none⟩) n n, .slice none 0 0, .slice none 0 0, .slice (some ⟨w.heap.size, 0, none⟩) n n, .slice none 0 0, .int .i64 0] 84)
    have HI0 := hid_of (HST.out (w.heap.size + 1 + 1) (w.heap.size + 1) w.heap.size _ h3.1 (by omega) (by omega) (Nat.le_refl _) h3.2.2.2 h3.2.2.1 h3.2.1)
    have HCB : Hid (w.heap.size ≤ w.heap.size + 1 + 1) := hid_of (by omega)
    clear h3 hmk1 hmk2 HST
    generalize (((w.alloc (.cells (madeCells #[.bool false] n) 4)).alloc (.cells (madeCells #[.slice none 0 0] n) 56)).alloc (.cells #[.slice none 0 0, .slice (some ⟨w.heap.size + 1, 0, none⟩) n n, .slice none 0 0, .slice none 0 0, .slice (some ⟨w.heap.size, 0, none⟩) n n, .slice none 0 0, .int .i64 0] 84)).drew = W3 at *
    generalize hcb : w.heap.size + 1 + 1 = cb at *
    clear hcb
    go_wp2
    go_loopw [7, 16] (fun xv iv wr => ∃ (j : Nat) (v : Value), xv = v ∧ j ≤ m ∧ iv = .int .i64 j ∧ Hid (NewI B w cb n (R.take j) wr)) (fun _ iv _ => m - (intOf iv).toNat)
    case atStart => exact ⟨0, _, rfl, Nat.zero_le _, rfl, HI0⟩
    case round =>
      obtain ⟨j, v, rfl, hj, rfl, hi⟩ := hrel
      by_cases hlt : j < m
      · have hd : decide (j < m) = true := by simp; omega
        obtain ⟨g, o, po, qo, pl, pc, ql, qc, rfl, c0, c1, hcall⟩ := HADD.out cb wr j hlt hi.out
        have HC := hid_of hcall
        clear hcall hi
        go_wp2_with (go_at_call 66; ((with_reducible refine (HC.out).mono ?_); (rintro e w2 ⟨rfl, h5⟩)); have HH := hid_of h5; clear h5)
        go_roundw
        case rel => exact ⟨j + 1, _, rfl, by omega, by go_num, HH⟩
        case measure => simp [intOf]; omega
      · have hd : decide (j < m) = false := by simp; omega
        obtain rfl : m = j := by omega
        have HE : Hid (NewP B w n R (.returned (.pointer (some ⟨cb, 0, none⟩))) wr) := hid_of ⟨cb, rfl, HCB.out, by
          have h5 := hi.out
          rw [List.take_of_length_le (by have := HML.out; omega)] at h5; exact h5⟩
        go_wp2
        go_ret
        exact HE.out
end Go.Proofs.Ytedohggbpmcehaa

/- members: the set in ascending order; named: numbers as names; entails. Bounds on sizes alone. -/
namespace Go.Proofs.Ytedohggbpmcehaa
open Go.RowKit

/-- The members of T below j, ascending. -/
def mems (T : List Nat) (j : Nat) : List Nat := (List.range j).filter fun i => decide (i ∈ T)
theorem mems_succ (T : List Nat) (j : Nat) : mems T (j + 1) = mems T j ++ (if j ∈ T then [j] else []) := by
  unfold mems
  rw [List.range_succ, List.filter_append]
  congr 1
  by_cases h : j ∈ T <;> simp [h]
theorem mem_mems {T : List Nat} {n i : Nat} : i ∈ mems T n ↔ i < n ∧ i ∈ T := by simp [mems]
theorem mems_length {T : List Nat} (hn : T.Nodup) (j : Nat) : (mems T j).length ≤ T.length := by
  have h1 : (mems T j).Nodup := List.Nodup.sublist List.filter_sublist List.nodup_range
  have : ∀ (A B : List Nat), A.Nodup → (∀ x ∈ A, x ∈ B) → A.length ≤ B.length := by
    intro A
    induction A with
    | nil => intro B _ _; simp
    | cons a A ih =>
      intro B hA hB
      have ⟨h1, h2⟩ := List.nodup_cons.1 hA
      have h3 := ih (B.erase a) h2 (fun x hx => (List.mem_erase_of_ne (by rintro rfl; exact h1 hx)).2 (hB x (List.mem_cons_of_mem _ hx)))
      have h4 := List.length_erase_of_mem (hB a List.mem_cons_self)
      have h5 : 0 < B.length := List.length_pos_of_mem (hB a List.mem_cons_self)
      simp only [List.length_cons]
      omega
  exact this _ _ h1 fun x hx => (mem_mems.1 hx).2

set_option maxRecDepth 100000 in
set_option maxHeartbeats 800000 in
theorem mem_any (c n k : Nat) (R : List Hrl) (lk : Nat → Nat) (T : List Nat) (V : CV) (S : Nat → Prop) (w : World) (h : CH w c n R lk (memB T) T k V S) (hn : n ≤ 1000000) :
    Calls Try.prog 49 #[.pointer (some ⟨c, 0, none⟩)] w fun e w' => ∃ ao cap, e = .returned (.slice ao (mems T n).length cap) ∧ Ow 3 w.heap.size w w' (.slice ao (mems T n).length cap) (ints (mems T n)) := by
  obtain ⟨ta, tc, htv⟩ := h.tvs
  have c5 := h.cell (j := 5) rfl
  rw [htv] at c5
  have c4 := h.cell (j := 4) rfl
  have hlen := h.len
  obtain ⟨i0, hi, hz0, hz1, hz2⟩ := info_parts intsE.info
  obtain ⟨m, hm⟩ : ∃ m, m = T.length := ⟨_, rfl⟩
  rw [← hm] at c5 hlen
  have HH : Hid (∀ w' i, Below w.heap.size w w' → i < n → w'.cell? ⟨c, 4, none⟩ = some (.slice (some ⟨V.gh, 0, none⟩) n n) ∧ w'.cell? ⟨V.gh, i, none⟩ = some (.bool (memB T i))) := hid_of (fun w' i hb hi => ⟨(h.at hb).cell (j := 4) rfl, (h.at hb).hasc hi⟩)
  have HC4 : Hid (∀ w', Below w.heap.size w w' → w'.cell? ⟨c, 4, none⟩ = some (.slice (some ⟨V.gh, 0, none⟩) n n)) := hid_of (fun w' hb => (h.at hb).cell (j := 4) rfl)
  clear h htv hm
  go_enter Try.func49, Try.ntmps49
  go_wp2_with (at_make; (refine wpList_make_own _ rfl _ _ 56 rfl w.heap.size 3 i0 (.int .i64 0) 1 Try.underlying56 hi hz0 hz1 .i64 .i64 _ m rfl rfl rfl (by rw [hz2]; omega) (by unfold maxLen; omega) (Nat.le_refl _) ?_); intro w2 hown hgrow; have HO := hid_of (ow_made hown hgrow); clear hown hgrow; have c4b := HC4.out _ HO.out.bel)
  clear c4 c5
  go_loopw [3, 4, 5, 17] (fun rv xv bv iv wr => ∃ (j l : Nat) (v u : Value) (ro : Option Addr) (rc : Nat), rv = .slice ro l rc ∧ xv = v ∧ bv = u ∧ j ≤ n ∧ iv = .int .i64 j ∧ l ≤ j ∧ Hid (l = (mems T j).length) ∧ Hid (Ow 3 w.heap.size w wr (.slice ro l rc) (ints (mems T j)))) (fun _ _ _ iv _ => n - (intOf iv).toNat)
  case atStart => exact ⟨0, 0, _, _, _, _, rfl, rfl, rfl, Nat.zero_le _, rfl, Nat.le_refl _, hid_of rfl, HO⟩
  case round =>
    obtain ⟨j, l, v, u, ro, rc, rfl, rfl, rfl, hj, rfl, hlj, hl, how⟩ := hrel
    by_cases hlt : j < n
    · have hd : decide (j < n) = true := by simp; omega
      have hc := (HH.out wr j how.out.bel hlt).2
      obtain ⟨b, hb⟩ : ∃ b, b = memB T j := ⟨_, rfl⟩
      rw [← hb] at hc
      have HB := hid_of hb
      clear hb
      cases b
      · have HE : Hid (mems T (j + 1) = mems T j) := hid_of (by rw [mems_succ, if_neg (of_decide_eq_false HB.out.symm), List.append_nil])
        go_wp2
        go_roundw
        case rel => exact ⟨j + 1, l, _, _, ro, rc, rfl, rfl, rfl, by omega, by go_num, by omega, hid_of (by rw [HE.out]; exact hl.out), hid_of (by rw [HE.out]; exact how.out)⟩
        case measure => simp [intOf]; omega
      · have HE : Hid (mems T (j + 1) = mems T j ++ [j]) := hid_of (by rw [mems_succ, if_pos (of_decide_eq_true HB.out.symm)])
        have HLL : Hid ((ints (mems T j)).length = l) := hid_of (by rw [ints_length]; exact hl.out.symm)
        go_wp2_with (at_builtin; (refine wpList_app intsE rfl (.tmp 23) (.tmp 25) rfl (v := .slice ro l rc) (l := ints (mems T j)) rfl (how.out.alloc _) (vx := .slice (some ⟨wr.heap.size, 0, none⟩) 1 1) (m := [.int .i64 (j : Int)]) rfl (rd_new rfl rfl (by simp)) (by intro u hu; rw [List.mem_singleton.1 hu]; rfl) (by rw [HLL.out]; simp only [List.length_singleton]; omega) (by rw [HLL.out]; simp only [List.length_singleton]; omega) ?_); intro ao2 n2 cap2 w4 e1 h5; have HN2 : Hid (n2 = l + 1) := hid_of (by rw [HLL.out] at e1; simpa using e1); have HO2 := hid_of h5; clear e1 h5)
        go_roundw
        case rel => exact ⟨j + 1, l + 1, _, _, ao2, cap2, by rw [HN2.out], rfl, rfl, by omega, by go_num, by omega, hid_of (by rw [HE.out, List.length_append, ← hl.out]; rfl), hid_of (by rw [HE.out, ints_append, ← HN2.out]; exact HO2.out)⟩
        case measure => simp [intOf]; omega
    · have hd : decide (j < n) = false := by simp; omega
      obtain rfl : n = j := by omega
      go_wp2
      go_ret
      exact ⟨ro, rc, by rw [← hl.out]; rfl, by rw [← hl.out]; exact how.out⟩

def nmF (U : List Str) (L : List Nat) : List Str := L.map fun i => U.getD i []
theorem nmF_snoc (U : List Str) (L : List Nat) (i : Nat) (x : Str) (h : U[i]? = some x) : nmF U (L ++ [i]) = nmF U L ++ [x] := by
  unfold nmF
  rw [List.map_append]
  simp [List.getD, h]
theorem nmF_length (U : List Str) (L : List Nat) : (nmF U L).length = L.length := by simp [nmF]
set_option maxRecDepth 100000 in
set_option maxHeartbeats 800000 in
theorem nmd_any (uo : Option Addr) (un uc : Nat) (U : List Str) (ao : Option Addr) (m cap : Nat) (L : List Nat) (w : World) (RU : Rd w (.slice uo un uc) (ss U)) (RL : Rd w (.slice ao m cap) (ints L)) (hL : ∀ i ∈ L, i < U.length) (hm : m ≤ 1000000) :
    Calls Try.prog 48 #[.slice uo un uc, .slice ao m cap] w fun e w' => ∃ ro rc, e = .returned (.slice ro m rc) ∧ Ow 9 w.heap.size w w' (.slice ro m rc) (ss (nmF U L)) := by
  obtain ⟨hun, hu1, hu2, _⟩ := rds_open RU
  have hml : m = L.length := by
    obtain ⟨_, _, e, _⟩ := RL
    simp only [Value.slice.injEq, ints_length] at e
    exact e.2.1
  have hmc : m ≤ 9223372036854775807 := by omega
  obtain ⟨i0, hi, hz0, hz1, hz2⟩ := info_parts strsE.info
  have HUN := hid_of hun
  have HML := hid_of hml
  have HR : Hid (∀ wx j, Below w.heap.size w wx → j < m → ∃ (a g o g2 o2 : Nat) (x : Str), L[j]? = some a ∧ a < un ∧ ao = some ⟨g, o, none⟩ ∧ uo = some ⟨g2, o2, none⟩ ∧ U[a]? = some x ∧ wx.cell? ⟨g, o + j, none⟩ = some (.int .i64 (a : Int)) ∧ wx.cell? ⟨g2, o2 + a, none⟩ = some (.string (ba x))) := hid_of (fun wx j hb hj => by
    obtain ⟨a, ha⟩ : ∃ a, L[j]? = some a := ⟨_, List.getElem?_eq_getElem (by omega)⟩
    have hau : a < U.length := hL a (List.mem_of_getElem? ha)
    obtain ⟨x, hx⟩ : ∃ x, U[a]? = some x := ⟨_, List.getElem?_eq_getElem hau⟩
    obtain ⟨_, _, _, q3⟩ := rds_open (RU.at hb)
    obtain ⟨ao2, cap2, e, _, _, q4⟩ := RL.at hb
    simp only [Value.slice.injEq] at e
    obtain ⟨rfl, _, rfl⟩ := e
    obtain ⟨g, o, rfl, _, hc⟩ := q4 (by rw [ints_length]; omega)
    rcases q3 with q3 | ⟨g2, o2, e2, _, hc2⟩
    · rw [q3] at hx; simp at hx
    · exact ⟨a, g, o, g2, o2, x, ha, by omega, rfl, e2, hx, hc j _ (ints_get ha), hc2 a x hx⟩)
  clear hun RU RL hL hml
  go_enter Try.func48, Try.ntmps48
  go_wp2_with (at_make; (refine wpList_make_own _ rfl _ _ 22 rfl w.heap.size 9 i0 (.string ⟨#[]⟩) 1 Try.underlying22 hi hz0 hz1 .i64 .i64 _ m rfl rfl rfl (by rw [hz2]; omega) (by unfold maxLen; omega) (Nat.le_refl _) ?_); intro w2 hown hgrow; have HO := hid_of (ow_made hown hgrow); clear hown hgrow)
  go_loopw [5, 7, 13] (fun rv xv iv wr => ∃ (j : Nat) (v : Value) (ro : Option Addr) (rc : Nat), rv = .slice ro j rc ∧ xv = v ∧ j ≤ m ∧ iv = .int .i64 j ∧ Hid (Ow 9 w.heap.size w wr (.slice ro j rc) (ss (nmF U (L.take j))))) (fun _ _ iv _ => m - (intOf iv).toNat)
  case atStart => exact ⟨0, _, _, _, rfl, rfl, Nat.zero_le _, rfl, HO⟩
  case round =>
    obtain ⟨j, v, ro, rc, rfl, rfl, hj, rfl, how⟩ := hrel
    by_cases hlt : j < m
    · have hd : decide (j < m) = true := by simp; omega
      obtain ⟨a, g, o, g2, o2, x, e1, e2, rfl, rfl, e5, c1, c2⟩ := HR.out wr j how.out.bel hlt
      have E1 := hid_of e1
      have E5 := hid_of e5
      have HLL : Hid ((ss (nmF U (L.take j))).length = j) := hid_of (by rw [ss_length, nmF_length, List.length_take]; have := HML.out; omega)
      obtain ⟨bx, hbx⟩ : ∃ b, b = ba x := ⟨_, rfl⟩
      rw [← hbx] at c2
      have HBX := hid_of hbx
      clear e1 e5 hbx
      go_wp2_with (at_builtin; (refine wpList_app strsE rfl (.tmp 17) (.tmp 22) rfl (v := .slice ro j rc) (l := ss (nmF U (L.take j))) rfl (how.out.alloc _) (vx := .slice (some ⟨wr.heap.size, 0, none⟩) 1 1) (m := [.string bx]) rfl (rd_new rfl rfl (by simp)) (by intro u hu; rw [List.mem_singleton.1 hu]; rfl) (by rw [HLL.out]; simp only [List.length_singleton]; omega) (by rw [HLL.out]; simp only [List.length_singleton]; omega) ?_); intro ao2 n2 cap2 w4 e1 h5; have HN2 : Hid (n2 = j + 1) := hid_of (by rw [HLL.out] at e1; simpa using e1); have HO2 := hid_of h5; clear e1 h5)
      go_roundw
      case rel => exact ⟨j + 1, _, ao2, cap2, by rw [HN2.out], rfl, by omega, by go_num, hid_of (by rw [take_snoc_get E1.out, nmF_snoc _ _ _ _ E5.out, ss_append, ← HN2.out]; have h5 := HO2.out; rw [HBX.out] at h5; exact h5)⟩
      case measure => simp [intOf]; omega
    · have hd : decide (j < m) = false := by simp; omega
      obtain rfl : m = j := by omega
      have HE : Hid (Ow 9 w.heap.size w wr (.slice ro m rc) (ss (nmF U L))) := hid_of (by
        have h5 := how.out
        rw [List.take_of_length_le (by have := HML.out; omega)] at h5; exact h5)
      go_wp2
      go_ret
      exact ⟨ro, rc, rfl, HE.out⟩

/-- What entails leaves. -/
def EntP (w : World) (c n : Nat) (R : List Hrl) (off : Nat → Nat) (p q : List Nat) (V : CV) (S : Nat → Prop) (e : Ending) (w' : World) : Prop :=
  ∃ b T' tv S', e = .returned (.bool b) ∧ (b = true ↔ ∀ x, x ∈ q → Der (On R off) (fun x => x ∈ p) x) ∧ CH w' c n R (lackR R off (T'.take T'.length)) (memB T') T' T'.length { V with tv := tv } S' ∧ Chg S S' w w'
set_option maxRecDepth 100000 in
set_option maxHeartbeats 800000 in
theorem ent_any (c n k : Nat) (R : List Hrl) (off : Nat → Nat) (T : List Nat) (V : CV) (S : Nat → Prop) (p q : List Nat) (pv cv : Value) (w : World) (h : CH w c n R (lackR R off (T.take k)) (memB T) T k V S) (hk : k ≤ T.length)
    (Lp : Rd w pv (ints p)) (Lq : Rd w cv (ints q)) (hpb : ∀ g, pv.ownBlock = some g → g < w.heap.size ∧ ¬ S g) (hqb : ∀ g, cv.ownBlock = some g → g < w.heap.size ∧ ¬ S g) (hpn : ∀ x ∈ p, x < n) (hqn : ∀ x ∈ q, x < n) (hn : n ≤ 1000000) (hR : ∀ i, off i ≤ 1) :
    Calls Try.prog 52 #[.pointer (some ⟨c, 0, none⟩), .agg #[pv, cv]] w (EntP w c n R off p q V S) := by
  have B0 := bel_alloc w (.cells #[pv, cv] 90)
  have hsz := h.sz
  have HCL := hid_of (clo_any c n k R off T V S p pv (w.alloc (.cells #[pv, cv] 90)) (h.at B0) hk (Lp.at B0) (fun g hg => ⟨by have := (hpb g hg).1; simp; omega, (hpb g hg).2⟩) hpn hn hR)
  obtain ⟨qo, qc, hcv, hq1, hq2, hq3⟩ := Lq
  subst hcv
  rw [ints_length] at hq1 hq3 hqb HCL B0 ⊢
  obtain ⟨m, hm⟩ : ∃ m, m = q.length := ⟨_, rfl⟩
  rw [← hm] at hq1 hq3 hqb HCL B0 ⊢
  have HM := hid_of hm
  obtain ⟨po, pl, pc, rfl⟩ : ∃ po pl pc, pv = .slice po pl pc := by obtain ⟨a, b, e, _⟩ := Lp; exact ⟨a, _, b, e⟩
  have HF : Hid (∀ w1, CloP (w.alloc (.cells #[.slice po pl pc, .slice qo m qc] 90)) c n R off p V S (.returned (.tuple #[])) w1 → w1.cell? ⟨w.heap.size, 1, none⟩ = some (.slice qo m qc) ∧ (∀ j, j < m → ∃ g o x, q[j]? = some x ∧ qo = some ⟨g, o, none⟩ ∧ w1.cell? ⟨g, o + j, none⟩ = some (.int .i64 (x : Nat)) ∧ x < n ∧ w1.cell? ⟨c, 4, none⟩ = some (.slice (some ⟨V.gh, 0, none⟩) n n) ∧
      ∃ b, w1.cell? ⟨V.gh, x, none⟩ = some (.bool b) ∧ (b = true ↔ Der (On R off) (fun x => x ∈ p) x)) ∧
      ∀ b, (b = true ↔ ∀ x, x ∈ q → Der (On R off) (fun x => x ∈ p) x) → EntP w c n R off p q V S (.returned (.bool b)) w1) := hid_of (fun w1 hi => by
    obtain ⟨_, T', tv, S', q1, q2, q3⟩ := hi
    have hbx : ¬ S w.heap.size := fun hs => by have := hsz _ hs; omega
    have hb := q2.blk (heap_alloc_new w (.cells #[.slice po pl pc, .slice qo m qc] 90)) hbx
    refine ⟨blk_cell (cs := [.slice po pl pc, .slice qo m qc]) hb rfl, fun j hj => ?_, fun b hb2 => ⟨b, T', tv, S', rfl, hb2, q1, (Chg.ofBelow B0).trans q2⟩⟩
    obtain ⟨x, hx⟩ : ∃ x, q[j]? = some x := ⟨_, List.getElem?_eq_getElem (by omega)⟩
    obtain ⟨g, o, rfl, hg, hc⟩ := hq3 (by omega)
    have hxn := hqn x (List.mem_of_getElem? hx)
    refine ⟨g, o, x, hx, rfl, ?_, hxn, q1.cell (j := 4) rfl, _, q1.hasc hxn, by rw [← q3 x]; simp [memB]⟩
    have h5 := hc j _ (ints_get hx)
    have h6 := B0.block g hg
    unfold World.cell? at h5 ⊢
    rw [q2.kept.block g (by have := B0.size; omega) (hqb g rfl).2, h6]; exact h5)
  clear h B0 hsz Lp hpb hqb hpn hqn hq3 hm hR hk
  go_enter Try.func52, Try.ntmps52
  go_wp2_with (go_at_call 47; ((with_reducible refine (HCL.out).mono ?_); (rintro e w1 h5; have h6 := h5.1; subst h6)); have HX := hid_of (HF.out w1 h5); clear h5; have x1 := HX.out.1)
  have hm2 : m ≤ 9223372036854775807 := by omega
  go_loop [6, 14] (fun xv iv => ∃ (j : Nat) (v : Value), xv = v ∧ j ≤ m ∧ iv = .int .i64 j ∧ Hid (∀ x, x ∈ q.take j → Der (On R off) (fun x => x ∈ p) x)) (fun _ iv => m - (intOf iv).toNat)
  case atStart => exact ⟨0, _, rfl, Nat.zero_le _, rfl, hid_of (by simp)⟩
  case round =>
    obtain ⟨j, v, rfl, hj, rfl, hall⟩ := hrel
    by_cases hlt : j < m
    · have hd : decide (j < m) = true := by simp; omega
      obtain ⟨g, o, x, y1, rfl, y3, y4, y5, b, y6, y7⟩ := HX.out.2.1 j hlt
      have Y1 := hid_of y1
      have Y7 := hid_of y7
      clear y1 y7
      cases b
      · have HE := hid_of (HX.out.2.2 false ⟨(fun h => by cases h), fun h => Y7.out.2 (h x (List.mem_of_getElem? Y1.out))⟩)
        go_wp2
        go_ret
        exact HE.out
      · go_wp2
        go_round
        case rel => exact ⟨j + 1, _, rfl, by omega, by go_num, hid_of (fun z hz => by
          rw [take_snoc_get Y1.out, List.mem_append, List.mem_singleton] at hz
          rcases hz with hz | rfl
          · exact hall.out z hz
          · exact Y7.out.1 rfl)⟩
        case measure => simp [intOf]; omega
    · have hd : decide (j < m) = false := by simp; omega
      have HE := hid_of (HX.out.2.2 true ⟨fun _ x hx => hall.out x (by rw [List.take_of_length_le (by have := HM.out; omega)]; exact hx), fun _ => rfl⟩)
      go_wp2
      go_ret
      exact HE.out
end Go.Proofs.Ytedohggbpmcehaa

/- Rules over names: derivations, and what they are in numbers. Plain mathematics. -/
namespace Go.Proofs.Ytedohggbpmcehaa
open Go.RowKit

inductive DerS (rs : List Gr) (S : Str → Prop) : Str → Prop
  | base {x : Str} : S x → DerS rs S x
  | rule {r : Gr} : r ∈ rs → (∀ y, y ∈ r.1 → DerS rs S y) → DerS rs S r.2
def CldS (rs : List Gr) (S : Str → Prop) : Prop := ∀ r ∈ rs, (∀ y, y ∈ r.1 → S y) → S r.2
theorem derS_least {rs : List Gr} {S C : Str → Prop} (hC : CldS rs C) (hS : ∀ x, S x → C x) {x : Str} (h : DerS rs S x) : C x := by
  induction h with
  | base h => exact hS _ h
  | rule hr _ ih => exact hC _ hr ih
theorem derS_closed (rs : List Gr) (S : Str → Prop) : CldS rs (DerS rs S) := fun _ hr hp => .rule hr hp
theorem derS_mono {rs : List Gr} {S S' : Str → Prop} (h : ∀ x, S x → DerS rs S' x) {x : Str} (hx : DerS rs S x) : DerS rs S' x := derS_least (derS_closed rs S') h hx
def setE (U s : List Str) : Nat := if ¬ SS s then 1 else if ¬ (∀ x ∈ s, x ∈ U) then 3 else 0
/-- The error of universe, rules and set. -/
def cwsE (U : List Str) (rs : List Gr) (s : List Str) : Nat := if chkE U rs = 0 then setE U s else chkE U rs
theorem setE_zero {U s : List Str} : setE U s = 0 ↔ SS s ∧ ∀ x, x ∈ s → x ∈ U := by
  unfold setE
  by_cases h1 : SS s
  · by_cases h2 : ∀ x ∈ s, x ∈ U
    · rw [if_neg (by simpa using h1), if_neg (by simpa using h2)]; exact ⟨fun _ => ⟨h1, h2⟩, fun _ => rfl⟩
    · rw [if_neg (by simpa using h1), if_pos h2]; exact ⟨(fun h => by cases h), fun h => absurd h.2 h2⟩
  · rw [if_pos h1]; exact ⟨(fun h => by cases h), fun h => absurd h.1 h1⟩
theorem setE_le (U s : List Str) : setE U s ≤ 3 := by
  unfold setE
  split
  · omega
  · split <;> omega
theorem ss_inj {U : List Str} (h : SS U) {i j : Nat} {x : Str} (hi : U[i]? = some x) (hj : U[j]? = some x) : i = j := by
  obtain ⟨a1, a2⟩ := List.getElem?_eq_some_iff.1 hi
  obtain ⟨b1, b2⟩ := List.getElem?_eq_some_iff.1 hj
  rcases Nat.lt_trichotomy i j with h5 | h5 | h5
  · have := (List.pairwise_iff_getElem.1 h) i j a1 b1 h5
    rw [a2, b2] at this; exact absurd this (str_irr x)
  · exact h5
  · have := (List.pairwise_iff_getElem.1 h) j i b1 a1 h5
    rw [a2, b2] at this; exact absurd this (str_irr x)
theorem chk_ok {U : List Str} {rs : List Gr} (h : chkE U rs = 0) : SS U ∧ ∀ r ∈ rs, SS r.1 ∧ (∀ x, x ∈ r.1 → x ∈ U) ∧ r.2 ∈ U := by
  unfold chkE at h
  split at h
  · cases h
  · split at h
    · cases h
    · rename_i h1 h2
      refine ⟨Classical.not_not.1 h2, ?_⟩
      have : ∀ {rs : List Gr}, rusE U rs = 0 → ∀ r ∈ rs, ruE U r = 0 := by
        intro rs
        induction rs with
        | nil => intro _ r hr; simp at hr
        | cons q rs ih =>
          intro h r hr
          rw [rusE] at h
          split at h
          · rcases List.mem_cons.1 hr with rfl | hr
            · assumption
            · exact ih h r hr
          · rename_i h5; exact absurd h h5
      intro r hr
      have h0 := this h r hr
      rcases ruE_cases U r with ⟨e, _⟩ | ⟨e, _⟩ | ⟨e, _⟩ | ⟨_, e1, e2, e3⟩
      · omega
      · omega
      · omega
      · exact ⟨e1, e2, e3⟩
/-- From numbers to names. -/
theorem der_toS {U : List Str} {rs : List Gr} {R : List Hrl} {s : List Str} {L : List Nat} (hc : Cmp U rs R) (hL : Ix U s L) {i : Nat} (h : Der (On R off0) (fun x => x ∈ L) i) : ∀ x, U[i]? = some x → DerS rs (fun x => x ∈ s) x := by
  induction h with
  | base h =>
    intro x hx
    obtain ⟨y, h1, h2⟩ := hL.mem h
    rw [hx] at h2; cases h2
    exact .base h1
  | @rule r i hr hp hx ih =>
    intro x hxU
    obtain ⟨k, hk, _⟩ := hr
    obtain ⟨g, hg⟩ : ∃ g, rs[k]? = some g := ⟨_, List.getElem?_eq_getElem (by have := (List.getElem?_eq_some_iff.1 hk).1; have := hc.len; omega)⟩
    obtain ⟨i1, i2⟩ := hc.at_ k g r hg hk
    obtain ⟨y, h1, h2⟩ := i2.mem hx
    rw [hxU] at h2; cases h2
    rw [List.mem_singleton.1 h1]
    refine .rule (List.mem_of_getElem? hg) fun y hy => ?_
    obtain ⟨j, hj, hjU⟩ := i1.mem_back hy
    exact ih j hj y hjU
/-- From names to numbers. -/
theorem derS_to {U : List Str} {rs : List Gr} {R : List Hrl} {s : List Str} {L : List Nat} (hU : SS U) (hc : Cmp U rs R) (hL : Ix U s L) (hok : ∀ r ∈ rs, (∀ x, x ∈ r.1 → x ∈ U) ∧ r.2 ∈ U) {x : Str} (h : DerS rs (fun x => x ∈ s) x) : ∃ i, U[i]? = some x ∧ Der (On R off0) (fun x => x ∈ L) i := by
  induction h with
  | base h =>
    obtain ⟨i, h1, h2⟩ := hL.mem_back h
    exact ⟨i, h2, .base h1⟩
  | @rule g hg hp ih =>
    obtain ⟨k, hk⟩ := List.getElem?_of_mem hg
    obtain ⟨r, hr⟩ : ∃ r, R[k]? = some r := ⟨_, List.getElem?_eq_getElem (by have := (List.getElem?_eq_some_iff.1 hk).1; have := hc.len; omega)⟩
    obtain ⟨i1, i2⟩ := hc.at_ k g r hk hr
    obtain ⟨i, h1, h2⟩ := i2.mem_back (List.mem_singleton.2 rfl)
    refine ⟨i, h2, .rule (r := r) ⟨k, hr, rfl⟩ (fun j hj => ?_) h1⟩
    obtain ⟨y, hy, hyU⟩ := i1.mem hj
    obtain ⟨j', hj', hd⟩ := ih y hy
    rw [ss_inj hU hyU hj']; exact hd
theorem cmp_ok {U : List Str} {rs : List Gr} {R : List Hrl} (hU : SS U) (hc : Cmp U rs R) (hok : ∀ r ∈ rs, SS r.1) : RulesOk U.length R := fun i q hq => by
  obtain ⟨g, hg⟩ : ∃ g, rs[i]? = some g := ⟨_, List.getElem?_eq_getElem (by have := (List.getElem?_eq_some_iff.1 hq).1; have := hc.len; omega)⟩
  obtain ⟨i1, i2⟩ := hc.at_ i g q hg hq
  refine ⟨?_, fun x hx => i1.lt hx, fun x hx => i2.lt hx⟩
  rw [List.nodup_iff_pairwise_ne, List.pairwise_iff_getElem]
  intro a b ha hb hab e
  obtain ⟨x, h1, h2⟩ := i1.get (List.getElem?_eq_getElem ha)
  obtain ⟨y, h3, h4⟩ := i1.get (List.getElem?_eq_getElem hb)
  rw [e] at h2
  rw [h2] at h4; cases h4
  have := ss_inj (hok g (List.mem_of_getElem? hg)) h1 h3
  omega
theorem ix_nodup {U s : List Str} {L : List Nat} (hs : SS s) (h : Ix U s L) : L.Nodup := by
  rw [List.nodup_iff_pairwise_ne, List.pairwise_iff_getElem]
  intro a b ha hb hab e
  obtain ⟨x, h1, h2⟩ := h.get (List.getElem?_eq_getElem ha)
  obtain ⟨y, h3, h4⟩ := h.get (List.getElem?_eq_getElem hb)
  rw [e] at h2
  rw [h2] at h4; cases h4
  have := ss_inj hs h1 h3
  omega
/-- The names of ascending numbers ascend. -/
theorem nmF_ss {U : List Str} (hU : SS U) (T : List Nat) : SS (nmF U (mems T U.length)) := by
  unfold SS nmF
  rw [List.pairwise_map]
  have h1 : (mems T U.length).Pairwise (· < ·) := List.Pairwise.sublist List.filter_sublist List.pairwise_lt_range
  refine List.Pairwise.imp_of_mem (fun {a b} ha hb hab => ?_) h1
  have ha2 := (mem_mems.1 ha).1
  have hb2 := (mem_mems.1 hb).1
  have := (List.pairwise_iff_getElem.1 hU) a b ha2 hb2 hab
  simpa [List.getD, ha2, hb2] using this
theorem mem_nmF {U : List Str} {T : List Nat} {x : Str} : x ∈ nmF U (mems T U.length) ↔ ∃ i, i ∈ T ∧ U[i]? = some x := by
  unfold nmF
  rw [List.mem_map]
  constructor
  · rintro ⟨i, hi, rfl⟩
    obtain ⟨h1, h2⟩ := mem_mems.1 hi
    exact ⟨i, h2, by simp [List.getD, h1]⟩
  · rintro ⟨i, hi, hx⟩
    have h1 := (List.getElem?_eq_some_iff.1 hx).1
    exact ⟨i, mem_mems.2 ⟨h1, hi⟩, by simp [List.getD, hx]⟩
end Go.Proofs.Ytedohggbpmcehaa

/- Check, Close, Closed, Entails of package closure. Bounds on sizes alone. -/
namespace Go.Proofs.Ytedohggbpmcehaa
open Go.RowKit

/-- The universe and the rules as they came in. -/
structure InU (w : World) (uo : Option Addr) (un uc : Nat) (U : List Str) (ro : Option Addr) (rn rc : Nat) (rs : List Gr) : Prop where
  ru : Rd w (.slice uo un uc) (ss U)
  rr : RuR w (.slice ro rn rc) rs
  hz : ∀ x ∈ U, x.length ≤ 9223372036854775807
  un : un ≤ 1000000
  rn : rn ≤ 1000000
  rl : ∀ r ∈ rs, r.1.length ≤ 1000000
section
variable {w w' : World} {uo : Option Addr} {un uc : Nat} {U : List Str} {ro : Option Addr} {rn rc : Nat} {rs : List Gr}
theorem InU.at (h : InU w uo un uc U ro rn rc rs) (hb : Below w.heap.size w w') : InU w' uo un uc U ro rn rc rs := ⟨h.ru.at hb, h.rr.at hb, h.hz, h.un, h.rn, h.rl⟩
theorem InU.ul (h : InU w uo un uc U ro rn rc rs) : un = U.length := (rds_open h.ru).1
theorem InU.rlen (h : InU w uo un uc U ro rn rc rs) : rn = rs.length := by
  obtain ⟨l, h1, h2, _⟩ := h.rr
  have := h1.cut.1; omega
theorem cmp_err (h : InU w uo un uc U ro rn rc rs) {q : Nat} (hq : chkE U rs = q) (h0 : q ≠ 0) : Calls Try.prog 44 #[.slice uo un uc, .slice ro rn rc] w fun e w' => e = .returned (.tuple #[.slice none 0 0, .int .i64 (q : Int)]) ∧ Below w.heap.size w w' :=
  (cmp_any uo un uc U ro rn rc rs w h.ru h.rr h.hz h.un h.rn h.rl).mono fun e w' ⟨h1, h2⟩ => by
    rcases h2 with ⟨_, h3⟩ | ⟨h3, _⟩
    · exact ⟨by rw [h3, hq], h1⟩
    · omega
theorem cmp_good (h : InU w uo un uc U ro rn rc rs) (hq : chkE U rs = 0) : Calls Try.prog 44 #[.slice uo un uc, .slice ro rn rc] w fun e w' => ∃ (R : List Hrl) (ao : Option Addr) (cap : Nat), e = .returned (.tuple #[.slice ao rn cap, .int .i64 0]) ∧ Cmp U rs R ∧ CoR w.heap.size w' (.slice ao rn cap) R ∧ Below w.heap.size w w' :=
  (cmp_any uo un uc U ro rn rc rs w h.ru h.rr h.hz h.un h.rn h.rl).mono fun e w' ⟨h1, h2⟩ => by
    rcases h2 with ⟨h3, _⟩ | ⟨_, R, ao, cap, h3, h4, h5⟩
    · omega
    · rw [← h.rlen] at h3 h5
      exact ⟨R, ao, cap, h3, h4, h5, h1⟩
theorem chk_le (U : List Str) (rs : List Gr) : chkE U rs ≤ 3 := by
  unfold chkE
  split
  · omega
  · split
    · omega
    · induction rs with
      | nil => simp [rusE]
      | cons r rs ih =>
        rw [rusE]
        split
        · exact ih
        · rcases ruE_cases U r with ⟨e, _⟩ | ⟨e, _⟩ | ⟨e, _⟩ | ⟨e, _⟩ <;> omega
end
set_option maxRecDepth 100000 in
theorem check_any (uo : Option Addr) (un uc : Nat) (U : List Str) (ro : Option Addr) (rn rc : Nat) (rs : List Gr) (w : World) (h : InU w uo un uc U ro rn rc rs) :
    Calls Try.prog 18 #[.slice uo un uc, .slice ro rn rc] w fun e w' => e = .returned (.int .i64 (chkE U rs : Nat)) ∧ Below w.heap.size w w' := by
  by_cases h0 : chkE U rs = 0
  · have HC := hid_of (cmp_good h h0)
    have HQ := hid_of h0
    clear h h0
    go_enter Try.func18, Try.ntmps18
    go_wp2_with (go_at_call 44; ((with_reducible refine (HC.out).mono ?_); (rintro e w1 ⟨R, ao, cap, rfl, _, _, h5⟩)); have B1 := hid_of h5; clear h5)
    go_ret
    exact ⟨by rw [HQ.out]; rfl, B1.out⟩
  · have HC := hid_of (cmp_err h rfl h0)
    obtain ⟨q, hq⟩ : ∃ q, q = chkE U rs := ⟨_, rfl⟩
    rw [← hq] at HC ⊢
    clear h h0 hq
    go_enter Try.func18, Try.ntmps18
    go_wp2_with (go_at_call 44; ((with_reducible refine (HC.out).mono ?_); (rintro e w1 ⟨rfl, h5⟩)); have B1 := hid_of h5; clear h5)
    go_ret
    exact ⟨rfl, B1.out⟩

def CwsP (U : List Str) (rs : List Gr) (s : List Str) (rn sn : Nat) (w : World) (e : Ending) (w' : World) : Prop :=
  ∃ (R : List Hrl) (L : List Nat) (ao lo : Option Addr) (cap lc : Nat), e = .returned (.tuple #[.slice ao rn cap, .slice lo sn lc, .int .i64 0]) ∧ Cmp U rs R ∧ CoR w.heap.size w' (.slice ao rn cap) R ∧ Ix U s L ∧ w'.ownsRow 0 3 1 (.slice lo sn lc) L.length (ints L) ∧ Below w.heap.size w w'
set_option maxRecDepth 100000 in
theorem cws_err (uo : Option Addr) (un uc : Nat) (U : List Str) (ro : Option Addr) (rn rc : Nat) (rs : List Gr) (so : Option Addr) (sn sc : Nat) (s : List Str) (w : World) (h : InU w uo un uc U ro rn rc rs) (hS : Rd w (.slice so sn sc) (ss s)) (hsn : sn ≤ 1000000) (q : Nat) (hq : cwsE U rs s = q) (hq0 : q ≠ 0) :
    Calls Try.prog 45 #[.slice uo un uc, .slice ro rn rc, .slice so sn sc] w fun e w' => e = .returned (.tuple #[.slice none 0 0, .slice none 0 0, .int .i64 (q : Int)]) ∧ Below w.heap.size w w' := by
  have t1 : ((q : Int) != 0) = true := by simp; omega
  have t2 : ((q : Int) == 0) = false := by simp; omega
  by_cases h0 : chkE U rs = 0
  · have e0 : setE U s = q := by unfold cwsE at hq; rwa [if_pos h0] at hq
    have HC := hid_of (cmp_good h h0)
    have HI : Hid (∀ w1, Below w.heap.size w w1 → Calls Try.prog 60 #[.slice uo un uc, .slice so sn sc] w1 fun e w' => e = .returned (.tuple #[.slice none 0 0, .int .i64 (q : Int)]) ∧ Below w1.heap.size w1 w') := hid_of (fun w1 hb => by
      refine ind_err (ind_any uo un uc U so sn sc s w1 (h.ru.at hb) (hS.at hb) (chk_ok h0).1 h.un hsn) ?_
      unfold setE at e0
      split at e0
      · exact .inl ⟨by omega, by assumption⟩
      · split at e0
        · rename_i h1 h2
          exact .inr ⟨by omega, Classical.not_not.1 h1, h2⟩
        · omega)
    clear h hS h0 hq e0 hq0
    go_enter Try.func45, Try.ntmps45
    go_wp2_with (first
      | (go_at_call 44; ((with_reducible refine (HC.out).mono ?_); (rintro e w1 ⟨R, ao, cap, rfl, _, _, h5⟩)); have B1 := hid_of h5; clear h5)
      | (go_at_call 60; ((with_reducible refine (HI.out w1 B1.out).mono ?_); (rintro e w2 ⟨rfl, h5⟩)); have B2 := hid_of h5; clear h5))
    go_ret3
    exact ⟨rfl, B1.out.trans (B2.out.mono B1.out.size)⟩
  · have e0 : chkE U rs = q := by unfold cwsE at hq; rwa [if_neg h0] at hq
    have HC := hid_of (cmp_err h e0 hq0)
    clear h hS h0 hq e0 hq0
    go_enter Try.func45, Try.ntmps45
    go_wp2_with (go_at_call 44; ((with_reducible refine (HC.out).mono ?_); (rintro e w1 ⟨rfl, h5⟩)); have B1 := hid_of h5; clear h5)
    go_ret3
    exact ⟨rfl, B1.out⟩
set_option maxRecDepth 100000 in
theorem cws_good (uo : Option Addr) (un uc : Nat) (U : List Str) (ro : Option Addr) (rn rc : Nat) (rs : List Gr) (so : Option Addr) (sn sc : Nat) (s : List Str) (w : World) (h : InU w uo un uc U ro rn rc rs) (hS : Rd w (.slice so sn sc) (ss s)) (hsn : sn ≤ 1000000) (hq : cwsE U rs s = 0) :
    Calls Try.prog 45 #[.slice uo un uc, .slice ro rn rc, .slice so sn sc] w (CwsP U rs s rn sn w) := by
  have h0 : chkE U rs = 0 := by unfold cwsE at hq; split at hq; assumption; assumption
  have e0 : setE U s = 0 := by unfold cwsE at hq; rwa [if_pos h0] at hq
  have e1 := setE_zero.1 e0
  have hsl : sn = s.length := (rds_open hS).1
  have HC := hid_of (cmp_good h h0)
  have HI : Hid (∀ w1, Below w.heap.size w w1 → Calls Try.prog 60 #[.slice uo un uc, .slice so sn sc] w1 fun e w' => ∃ (L : List Nat) (ro : Option Addr) (rc : Nat), e = .returned (.tuple #[.slice ro sn rc, .int .i64 0]) ∧ Ix U s L ∧ Ow 3 w1.heap.size w1 w' (.slice ro sn rc) (ints L)) := hid_of (fun w1 hb => by
    have := ind_ok (ind_any uo un uc U so sn sc s w1 (h.ru.at hb) (hS.at hb) (chk_ok h0).1 h.un hsn) e1.1 e1.2
    rw [← hsl] at this; exact this)
  clear h hS h0 hq e0 e1 hsl
  go_enter Try.func45, Try.ntmps45
  go_wp2_with (first
    | (go_at_call 44; ((with_reducible refine (HC.out).mono ?_); (rintro e w1 ⟨R, ao, cap, rfl, h4, h6, h5⟩)); have B1 := hid_of h5; have C1 := hid_of h4; have R1 := hid_of h6; clear h5 h4 h6)
    | (go_at_call 60; ((with_reducible refine (HI.out w1 B1.out).mono ?_); (rintro e w2 ⟨L, lo, lc, rfl, h5, h6⟩)); have X2 := hid_of h5; have O2 := hid_of h6; clear h5 h6))
  go_ret3
  refine ⟨R, L, ao, lo, cap, lc, rfl, C1.out, R1.out.at O2.out.bel, X2.out, ?_, B1.out.trans (O2.out.bel.mono B1.out.size)⟩
  have := own_base O2.out.own
  rw [ints_length] at this; exact this

/-- The closure of a set of names, as Close gives it. -/
def CloseP (U : List Str) (rs : List Gr) (s : List Str) (w : World) (e : Ending) (w' : World) : Prop :=
  ∃ (l : List Str) (ao : Option Addr) (cap : Nat), e = .returned (.tuple #[.slice ao l.length cap, .int .i64 0]) ∧ Ow 9 w.heap.size w w' (.slice ao l.length cap) (ss l) ∧ SS l ∧ (∀ x, x ∈ l ↔ DerS rs (fun x => x ∈ s) x) ∧ ∀ x ∈ l, x ∈ U
theorem ow_later0 {E : TypeId} {w w1 w2 : World} {v : Value} {l : List Value} (h : Ow E w1.heap.size w1 w2 v l) (hb : Below w.heap.size w w1) : Ow E w.heap.size w w2 v l := h.start (Nat.le_refl _) hb hb.size
/-- What a chase makes of a set, in names. -/
theorem clo_names {U : List Str} {rs : List Gr} {R : List Hrl} {s : List Str} {L T : List Nat} (hq : chkE U rs = 0) (hc : Cmp U rs R) (hL : Ix U s L) (hT : ∀ x, x ∈ T ↔ Der (On R off0) (fun x => x ∈ L) x) : (∀ x, x ∈ nmF U (mems T U.length) ↔ DerS rs (fun x => x ∈ s) x) ∧ ∀ x ∈ nmF U (mems T U.length), x ∈ U := by
  obtain ⟨hU, hok⟩ := chk_ok hq
  refine ⟨fun x => ?_, fun x hx => ?_⟩
  · rw [mem_nmF]
    constructor
    · rintro ⟨i, hi, hx⟩
      exact der_toS hc hL ((hT i).1 hi) x hx
    · intro hd
      obtain ⟨i, h1, h2⟩ := derS_to hU hc hL (fun r hr => ⟨(hok r hr).2.1, (hok r hr).2.2⟩) hd
      exact ⟨i, (hT i).2 h2, h1⟩
  · obtain ⟨i, _, h2⟩ := mem_nmF.1 hx
    exact List.mem_of_getElem? h2
/-- A chase that has been made, closed over a set. -/
theorem clo_made {w w1 : World} {c n : Nat} {R : List Hrl} {L : List Nat} {lv : Value} {B : Nat} (h : NewI B w c n R w1) (hn : n ≤ 1000000) (hL : w.ownsRow 0 3 1 lv L.length (ints L)) (hl : ∀ x ∈ L, x < n) :
    Calls Try.prog 47 #[.pointer (some ⟨c, 0, none⟩), lv] w1 fun e w' => e = .returned (.tuple #[]) ∧ ∃ T V S, CH w' c n R (lackR R off0 (T.take T.length)) (memB T) T T.length V S ∧ Below w.heap.size w w' ∧ (∀ b, S b → w.heap.size ≤ b) ∧ ∀ x, x ∈ T ↔ Der (On R off0) (fun x => x ∈ L) x := by
  obtain ⟨V, S, h1, h2, h3, _⟩ := h
  have hL1 := own_same hL fun k hk => h2.block k (own_lt hL hk)
  refine (clo_any c n 0 R off0 [] V S L lv w1 h1 (Nat.zero_le _) (own_rd hL1) (fun g hg => ⟨own_lt hL1 hg, fun hs => by have := own_lt hL hg; have := h3 g hs; omega⟩) hl hn (fun _ => by unfold off0; omega)).mono ?_
  rintro e w' ⟨rfl, T', tv, S', q1, q2, q3⟩
  refine ⟨rfl, T', _, S', q1, h2.trans (q2.below h2.size h3), fun b hb => ?_, q3⟩
  rcases q2.sub b hb with h5 | h5
  · exact h3 b h5
  · have := h2.size; omega
set_option maxRecDepth 100000 in
set_option maxHeartbeats 800000 in
theorem close_any (uo : Option Addr) (un uc : Nat) (U : List Str) (ro : Option Addr) (rn rc : Nat) (rs : List Gr) (so : Option Addr) (sn sc : Nat) (s : List Str) (w : World) (h : InU w uo un uc U ro rn rc rs) (hS : Rd w (.slice so sn sc) (ss s)) (hsn : sn ≤ 1000000) (hq : cwsE U rs s = 0) :
    Calls Try.prog 20 #[.slice uo un uc, .slice ro rn rc, .slice so sn sc] w (CloseP U rs s w) := by
  have h0 : chkE U rs = 0 := by unfold cwsE at hq; split at hq; assumption; assumption
  have HC := hid_of (cws_good uo un uc U ro rn rc rs so sn sc s w h hS hsn hq)
  have hul := h.ul
  have hun := h.un
  have hrn := h.rn
  have HN : Hid (∀ w1 R ao cap, Cmp U rs R → CoR w.heap.size w1 (.slice ao rn cap) R → Calls Try.prog 46 #[.int .i64 un, .slice ao rn cap] w1 (NewP w.heap.size w1 un R)) := hid_of (fun w1 R ao cap hc hco => new_any w.heap.size un R ao rn cap w1 hco (by rw [hul]; exact cmp_ok (chk_ok h0).1 hc fun r hr => ((chk_ok h0).2 r hr).1) hun hrn)
  have HCL : Hid (∀ w1 w2 c R L lv, Ix U s L → w1.ownsRow 0 3 1 lv L.length (ints L) → NewI w.heap.size w1 c un R w2 → Calls Try.prog 47 #[.pointer (some ⟨c, 0, none⟩), lv] w2 fun e w' => e = .returned (.tuple #[]) ∧ ∃ T V S, CH w' c un R (lackR R off0 (T.take T.length)) (memB T) T T.length V S ∧ Below w1.heap.size w1 w' ∧ (∀ b, S b → w1.heap.size ≤ b) ∧ ∀ x, x ∈ T ↔ Der (On R off0) (fun x => x ∈ L) x) := hid_of (fun w1 w2 c R L lv hix hl hni => clo_made hni hun hl fun x hx => by rw [hul]; exact hix.lt hx)
  have HME : Hid (∀ w3 c R lk T V S, CH w3 c un R lk (memB T) T T.length V S → Calls Try.prog 49 #[.pointer (some ⟨c, 0, none⟩)] w3 fun e w' => ∃ ao cap, e = .returned (.slice ao (mems T un).length cap) ∧ Ow 3 w3.heap.size w3 w' (.slice ao (mems T un).length cap) (ints (mems T un))) := hid_of (fun w3 c R lk T V S hch => mem_any c un T.length R lk T V S w3 hch hun)
  have HNM : Hid (∀ w4 T ao cap, Below w.heap.size w w4 → (mems T un).length ≤ 1000000 → Rd w4 (.slice ao (mems T un).length cap) (ints (mems T un)) → Calls Try.prog 48 #[.slice uo un uc, .slice ao (mems T un).length cap] w4 fun e w' => ∃ ro rc, e = .returned (.slice ro (mems T un).length rc) ∧ Ow 9 w4.heap.size w4 w' (.slice ro (mems T un).length rc) (ss (nmF U (mems T un)))) := hid_of (fun w4 T ao cap hb hml hr => nmd_any uo un uc U ao _ cap (mems T un) w4 (h.ru.at hb) hr (fun i hi => by rw [← hul]; exact (mem_mems.1 hi).1) hml)
  have HFIN : Hid (∀ w5 R L T ao cap, Cmp U rs R → Ix U s L → (∀ x, x ∈ T ↔ Der (On R off0) (fun x => x ∈ L) x) → Ow 9 w.heap.size w w5 (.slice ao (mems T un).length cap) (ss (nmF U (mems T un))) → CloseP U rs s w (.returned (.tuple #[.slice ao (mems T un).length cap, .int .i64 0])) w5) := hid_of (fun w5 R L T ao cap hc hix hT how => by
    obtain ⟨q1, q2⟩ := clo_names h0 hc hix hT
    have e := nmF_length U (mems T un)
    refine ⟨nmF U (mems T un), ao, cap, by rw [e], by rw [e]; exact how, by rw [hul]; exact nmF_ss (chk_ok h0).1 T, by rw [hul]; exact q1, by rw [hul]; exact q2⟩)
  have HUN := hid_of hun
  clear h hS h0 hq hul hrn
  have huc : un ≤ 9223372036854775807 := by omega
  clear hun
  go_enter Try.func20, Try.ntmps20
  go_wp2_with (first
    | (go_at_call 45; ((with_reducible refine (HC.out).mono ?_); (rintro e w1 ⟨R, L, ao, lo, cap, lc, rfl, h1, h2, h3, h4, h5⟩)); have C1 := hid_of h1; have C2 := hid_of h2; have C3 := hid_of h3; have C4 := hid_of h4; have B1 := hid_of h5; clear h1 h2 h3 h4 h5)
    | (go_at_call 46; ((with_reducible refine (HN.out w1 R ao cap C1.out C2.out).mono ?_); (rintro e w2 ⟨c, rfl, _, h1⟩)); have N2 := hid_of h1; clear h1)
    | (go_at_call 47; ((with_reducible refine (HCL.out w1 w2 c R L _ C3.out C4.out N2.out).mono ?_); (rintro e w3 ⟨rfl, T, V, S, h1, h2, h3, h4⟩)); have D1 := hid_of h1; have D2 := hid_of h2; have D4 := hid_of h4; clear h1 h2 h3 h4)
    | (go_at_call 49; ((with_reducible refine (HME.out w3 c R _ T V S D1.out).mono ?_); (rintro e w4 ⟨mo, mc, rfl, h1⟩)); have O4 := hid_of h1; have B4 : Hid (Below w.heap.size w w4) := hid_of (by
        have q := B1.out.trans (D2.out.mono B1.out.size)
        exact q.trans (h1.bel.mono q.size)); have R4 := hid_of (own_rd h1.own); have ML : Hid ((mems T un).length ≤ 1000000) := hid_of (Nat.le_trans (mems_length D1.out.nd un) (Nat.le_trans D1.out.len HUN.out)); clear h1)
    | (go_at_call 48; ((with_reducible refine (HNM.out w4 T mo mc B4.out ML.out R4.out).mono ?_); (rintro e w5 ⟨no, nc, rfl, h1⟩)); have O5 := hid_of (ow_later0 h1 B4.out); clear h1))
  go_ret2
  exact HFIN.out w5 R L T no nc C1.out C3.out D4.out O5.out
end Go.Proofs.Ytedohggbpmcehaa
