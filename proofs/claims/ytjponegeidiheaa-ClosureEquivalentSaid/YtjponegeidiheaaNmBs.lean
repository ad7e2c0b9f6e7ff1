/- slices.BinarySearch over a sorted list of strings. Bounds on sizes alone. -/
import Derived.Test.YtjponegeidiheaaNmSrt
namespace Go.Proofs.Ytjponegeidiheaa
open Go.RowKit

set_option maxRecDepth 100000 in
theorem nanC_any (b : ByteArray) (w : World) : Calls Try.prog 97 #[.string b] w fun e w' => e = .returned (.bool false) ∧ w = w' := by
  go_enter Try.func97, Try.ntmps97
  go_wp2
  go_ret
  exact ⟨by simp, rfl⟩
set_option maxRecDepth 100000 in
theorem nanS_any (b : ByteArray) (w : World) : Calls Try.prog 90 #[.string b] w fun e w' => e = .returned (.bool false) ∧ w = w' := by
  go_enter Try.func90, Try.ntmps90
  go_wp2
  go_ret
  exact ⟨by simp, rfl⟩
set_option maxRecDepth 100000 in
theorem less_any (x y : Str) (w : World) : Calls Try.prog 89 #[.string (ba x), .string (ba y)] w fun e w' => e = .returned (.bool (decide (x < y))) ∧ w = w' := by
  obtain ⟨bx, hbx⟩ : ∃ b, b = ba x := ⟨_, rfl⟩
  obtain ⟨bz, hby⟩ : ∃ b, b = ba y := ⟨_, rfl⟩
  rw [← hbx, ← hby]
  by_cases h : x < y
  · have t := lt_t hbx hby h
    have d : Hid (decide (x < y) = true) := hid_of (decide_eq_true h)
    clear hbx hby h
    go_enter Try.func89, Try.ntmps89
    go_wp2_with (go_at_call 97; ((with_reducible refine (nanC_any bx w).mono ?_); (rintro e w' ⟨rfl, rfl⟩)))
    go_ret
    exact ⟨by rw [d.out] <;> rfl, rfl⟩
  · have t := lt_f hbx hby h
    have d : Hid (decide (x < y) = false) := hid_of (decide_eq_false h)
    clear hbx hby h
    go_enter Try.func89, Try.ntmps89
    go_wp2_with (go_at_call 97; ((with_reducible refine (nanC_any bx w).mono ?_); (rintro e w' ⟨rfl, rfl⟩)))
    go_ret
    exact ⟨by rw [d.out] <;> rfl, rfl⟩

/-- What the search gives. -/
def BsP (l : List Str) (x : Str) (w : World) (e : Ending) (w' : World) : Prop :=
  ∃ (i : Nat) (b : Bool), e = .returned (.tuple #[.int .i64 i, .bool b]) ∧ (b = true ↔ x ∈ l) ∧ (b = true → l[i]? = some x) ∧ w = w'
structure BsI (l : List Str) (x : Str) (i j : Nat) : Prop where
  ij : i ≤ j
  jn : j ≤ l.length
  lo : ∀ p y, p < i → l[p]? = some y → y < x
  hi : ∀ p y, j ≤ p → l[p]? = some y → ¬ y < x

set_option maxRecDepth 100000 in
set_option maxHeartbeats 800000 in
theorem bs_any (ao : Option Addr) (n cap : Nat) (l : List Str) (x : Str) (w : World) (R : Rd w (.slice ao n cap) (ss l)) (hs : SS l) (hn : n ≤ 1000000000) :
    Calls Try.prog 77 #[.slice ao n cap, .string (ba x)] w (BsP l x w) := by
  obtain ⟨hnl, h1, h2, h3⟩ := rds_open R
  have HNL := hid_of hnl
  have HS := hid_of hs
  have H3 : Hid (∀ p y, l[p]? = some y → ∃ g o, ao = some ⟨g, o, none⟩ ∧ w.cell? ⟨g, o + p, none⟩ = some (.string (ba y))) := hid_of (fun p y hp => by
    rcases h3 with h3 | ⟨g, o, e, _, hc⟩
    · rw [h3] at hp; simp at hp
    · exact ⟨g, o, e, hc p y hp⟩)
  have LES : Hid (∀ y w, Calls Try.prog 89 #[.string (ba y), .string (ba x)] w fun e w' => e = .returned (.bool (decide (y < x))) ∧ w = w') := hid_of (fun y w => less_any y x w)
  obtain ⟨bx, hbx⟩ : ∃ b, b = ba x := ⟨_, rfl⟩
  rw [← hbx] at LES ⊢
  have HBX := hid_of hbx
  clear hnl hs h3 hbx R
  go_enter Try.func77, Try.ntmps77
  go_wp2
  go_loop [7, 8, 9] (fun iv jv hv => ∃ (i j : Nat) (v : Value), iv = .int .i64 i ∧ jv = .int .i64 j ∧ hv = v ∧ i ≤ j ∧ j ≤ n ∧ Hid (BsI l x i j)) (fun iv jv _ => (intOf jv).toNat - (intOf iv).toNat)
  case atStart => exact ⟨0, n, _, rfl, rfl, rfl, Nat.zero_le _, Nat.le_refl _, hid_of ⟨Nat.zero_le _, by rw [HNL.out]; exact Nat.le_refl _, fun p y hp => by omega, fun p y hp hy => by have := (List.getElem?_eq_some_iff.1 hy).1; have := HNL.out; omega⟩⟩
  case round =>
    obtain ⟨i, j, v, rfl, rfl, rfl, hij, hjn, hI⟩ := hrel
    by_cases hlt : i < j
    · have hd : decide (i < j) = true := by simp; omega
      obtain ⟨h, hh⟩ : ∃ h : Nat, h = (i + j) / 2 := ⟨_, rfl⟩
      have he : ((i : Int) + (j : Int)) / 2 = (h : Int) := by omega
      have hhn : h < n := by omega
      have hb1 : i ≤ h := by omega
      have hb2 : h < j := by omega
      obtain ⟨y, hy⟩ : ∃ y, l[h]? = some y := ⟨_, List.getElem?_eq_getElem (by have := HNL.out; omega)⟩
      obtain ⟨g, o, rfl, c1⟩ := H3.out h y hy
      have HY := hid_of hy
      have LY := hid_of (LES.out y)
      obtain ⟨q, hq⟩ : ∃ q, q = decide (y < x) := ⟨_, rfl⟩
      rw [← hq] at LY
      have HQ := hid_of hq
      obtain ⟨bz, hbz⟩ : ∃ b, b = ba y := ⟨_, rfl⟩
      rw [← hbz] at LY c1
      have HH := hid_of hh
      clear hy hq hbz hh
      cases q
      · have HN : Hid (BsI l x i h) := hid_of ⟨hb1, by have := hI.out.jn; omega, hI.out.lo, fun p z hp hz => by
          have h1 : ¬ y < x := of_decide_eq_false HQ.out.symm
          by_cases e : p = h
          · subst e; rw [HY.out] at hz; cases hz; exact h1
          · have h2 : y < z := (List.pairwise_iff_getElem.1 HS.out) h p (List.getElem?_eq_some_iff.1 HY.out).1 (List.getElem?_eq_some_iff.1 hz).1 (by omega) |> fun h5 => by
              rw [(List.getElem?_eq_some_iff.1 HY.out).2, (List.getElem?_eq_some_iff.1 hz).2] at h5; exact h5
            exact fun h3 => h1 (str_trans h2 h3)⟩
        go_wp2_with (go_at_call 89; ((with_reducible refine (LY.out w).mono ?_); (rintro e w' ⟨rfl, rfl⟩)))
        go_round
        case rel => exact ⟨i, h, _, rfl, rfl, rfl, hb1, by omega, HN⟩
        case measure => simp [intOf]; omega
      · have HN : Hid (BsI l x (h + 1) j) := hid_of ⟨by omega, hI.out.jn, fun p z hp hz => by
          have h1 : y < x := of_decide_eq_true HQ.out.symm
          by_cases e : p = h
          · subst e; rw [HY.out] at hz; cases hz; exact h1
          · have h2 : z < y := (List.pairwise_iff_getElem.1 HS.out) p h (List.getElem?_eq_some_iff.1 hz).1 (List.getElem?_eq_some_iff.1 HY.out).1 (by omega) |> fun h5 => by
              rw [(List.getElem?_eq_some_iff.1 HY.out).2, (List.getElem?_eq_some_iff.1 hz).2] at h5; exact h5
            exact str_trans h2 h1, hI.out.hi⟩
        go_wp2_with (go_at_call 89; ((with_reducible refine (LY.out w).mono ?_); (rintro e w' ⟨rfl, rfl⟩)))
        go_round
        case rel => exact ⟨h + 1, j, _, by go_num, rfl, rfl, by omega, by omega, HN⟩
        case measure => simp [intOf]; omega
    · have hd : decide (i < j) = false := by simp; omega
      obtain rfl : i = j := by omega
      by_cases hin : i < n
      · have hd2 : decide (i < n) = true := by simp; omega
        obtain ⟨y, hy⟩ : ∃ y, l[i]? = some y := ⟨_, List.getElem?_eq_getElem (by have := HNL.out; omega)⟩
        obtain ⟨g, o, rfl, c1⟩ := H3.out i y hy
        have HY := hid_of hy
        obtain ⟨bz, hbz⟩ : ∃ b, b = ba y := ⟨_, rfl⟩
        rw [← hbz] at c1
        by_cases e : y = x
        · have t1 := eq_t hbz HBX.out e
          have HE : Hid (BsP l x w (.returned (.tuple #[.int .i64 (i : Int), .bool true])) w) := hid_of ⟨i, true, rfl, ⟨fun _ => by rw [← e]; exact List.mem_of_getElem? HY.out, fun _ => rfl⟩, fun _ => by rw [HY.out, e], rfl⟩
          clear hy hbz e
          go_wp2
          go_ret2
          exact HE.out
        · have t1 := eq_f hbz HBX.out e
          have HE : Hid (BsP l x w (.returned (.tuple #[.int .i64 (i : Int), .bool false])) w) := hid_of ⟨i, false, rfl, ⟨(fun h => by cases h), fun hx => by
            obtain ⟨p, hp⟩ := List.getElem?_of_mem hx
            rcases Nat.lt_trichotomy p i with h5 | h5 | h5
            · exact absurd (hI.out.lo p x h5 hp) (str_irr x)
            · subst h5; rw [HY.out] at hp; cases hp; exact absurd rfl e
            · have h2 : y < x := (List.pairwise_iff_getElem.1 HS.out) i p (List.getElem?_eq_some_iff.1 HY.out).1 (List.getElem?_eq_some_iff.1 hp).1 h5 |> fun h5 => by
                rw [(List.getElem?_eq_some_iff.1 HY.out).2, (List.getElem?_eq_some_iff.1 hp).2] at h5; exact h5
              exact absurd h2 (hI.out.hi i y (Nat.le_refl _) HY.out)⟩, (fun h => by cases h), rfl⟩
          clear hy hbz e
          go_wp2_with (go_at_call 90; ((with_reducible refine (nanS_any bz w).mono ?_); (rintro e w' ⟨rfl, rfl⟩)))
          go_ret2
          exact HE.out
      · have hd2 : decide (i < n) = false := by simp; omega
        have HE : Hid (BsP l x w (.returned (.tuple #[.int .i64 (i : Int), .bool false])) w) := hid_of ⟨i, false, rfl, ⟨(fun h => by cases h), fun hx => by
          obtain ⟨p, hp⟩ := List.getElem?_of_mem hx
          have := (List.getElem?_eq_some_iff.1 hp).1
          exact absurd (hI.out.lo p x (by have := HNL.out; omega) hp) (str_irr x)⟩, (fun h => by cases h), rfl⟩
        go_wp2
        go_ret2
        exact HE.out
end Go.Proofs.Ytjponegeidiheaa
