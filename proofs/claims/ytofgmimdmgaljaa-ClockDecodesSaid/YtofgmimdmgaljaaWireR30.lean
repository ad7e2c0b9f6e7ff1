/- NewReader, End, Count of package wire; a Reader's state as a number. No condition but bounds on sizes. -/
import Derived.Test.YtofgmimdmgaljaaWireR0
namespace Go.Proofs.Ytofgmimdmgaljaa.Wr
open Go.RowKit

theorem ret_i64 {a b : Int} (h : a = b) : Ending.returned (.int .i64 a) = Ending.returned (.int .i64 b) := by rw [h]

set_option maxHeartbeats 400000 in
theorem newReader_any (ao : Option Addr) (l : List Int) (cap : Nat) (w : World) (hr : ∀ x ∈ l, 0 ≤ x ∧ x ≤ 255) (hl : l.length ≤ 140737488351232)
    (hpos : 0 < l.length → ∃ ad, ao = some ad ∧ ∀ j v, (bs l)[j]? = some v → w.cell? (ad.add j) = some v) :
    Calls Try.prog 42 #[.slice ao l.length cap] w fun e w' => ∃ b g, e = .returned (.pointer (some ⟨b, 0, none⟩)) ∧ Rst w' b g l 0 0 0 ∧ Below w.heap.size w w' ∧ w.heap.size ≤ b ∧ w.heap.size ≤ g := by
  have HC := hid_of (clone_any ao l cap w hl hpos)
  clear hpos
  go_enter Try.func42, Try.ntmps42
  go_wp2_with (go_at_call 50; refine HC.out.mono ?_; rintro e w1 ⟨rfl, h1, h2⟩; have H1 := hid_of h1; clear h1)
  go_ret
  have hs := lt_of_block H1.out
  refine ⟨_, _, rfl, ⟨heap_alloc_new _ _, ?_, hr, by omega, hl⟩, h2.alloc h2.size _, h2.size, Nat.le_refl _⟩
  rw [Below.heap_alloc _ _ _ hs]
  exact H1.out

set_option maxHeartbeats 400000 in
theorem left_any (b g off last : Nat) (d : List Int) (err : Int) (w : World) (h : Rst w b g d off last err) :
    Calls Try.prog 53 #[.pointer (some ⟨b, 0, none⟩)] w fun e w' => e = .returned (.int .i64 ((d.length - off : Nat) : Int)) ∧ Drew w w' := by
  have c0 := h.c0
  have c1 := h.c1
  have hle := h.le
  have hsm := h.small
  go_enter Try.func53, Try.ntmps53
  have a1 : IntKind.i64.wrap ((d.length : Int) - (off : Int)) = (d.length : Int) - (off : Int) := IntWalk.i64_in _ (by omega)
  go_wp2
  go_quiet (fail)
  go_wp2
  go_ret
  exact ⟨ret_i64 (by omega), nq, rfl⟩

set_option maxHeartbeats 400000 in
theorem end_ok (b g off last : Nat) (d : List Int) (w : World) (h : Rst w b g d off last 0) (ho : off = d.length) :
    Calls Try.prog 45 #[.pointer (some ⟨b, 0, none⟩)] w fun e w' => e = .returned (.int .i64 0) ∧ Drew w w' := by
  have c3 := h.c3
  have HC := hid_of (left_any b g off last d 0 w h)
  have hb : (((d.length - off : Nat) : Int) != 0) = false := by simp; omega
  have H := hid_of h
  clear h ho
  go_enter Try.func45, Try.ntmps45
  go_wp2_with (go_at_call 53; refine HC.out.mono ?_; rintro e w1 ⟨rfl, m, rfl⟩)
  go_ret
  exact ⟨rfl, m, rfl⟩

set_option maxHeartbeats 400000 in
theorem end_bad (b g off last : Nat) (d : List Int) (err : Int) (w : World) (h : Rst w b g d off last err) (ho : err = 2 ∨ (err = 0 ∧ off ≠ d.length)) :
    Calls Try.prog 45 #[.pointer (some ⟨b, 0, none⟩)] w fun e w' => e = .returned (.int .i64 2) ∧ Drew w w' := by
  have c3 := h.c3
  have hle := h.le
  have HC := hid_of (left_any b g off last d err w h)
  rcases ho with rfl | ⟨rfl, ho⟩
  · clear h
    go_enter Try.func45, Try.ntmps45
    go_wp2_with (go_at_call 53; refine HC.out.mono ?_; rintro e w1 ⟨rfl, m, rfl⟩)
    go_ret
    exact ⟨rfl, 0, rfl⟩
  · have hb : (((d.length - off : Nat) : Int) != 0) = true := by simp; omega
    have H := hid_of h
    clear h ho
    go_enter Try.func45, Try.ntmps45
    go_wp2_with (go_at_call 53; refine HC.out.mono ?_; rintro e w1 ⟨rfl, m, rfl⟩)
    go_ret
    exact ⟨rfl, m, rfl⟩

set_option maxHeartbeats 400000 in
theorem rcount_ok (b g off last n k : Nat) (d : List Int) (w : World) (h : Rst w b g d off last 0) (hd : dec (d.drop off) = some (n, k)) (hn : off + k + n ≤ d.length) :
    Calls Try.prog 43 #[.pointer (some ⟨b, 0, none⟩)] w fun e w' => e = .returned (.int .i64 n) ∧ RTo w w' b g d (off + k) off 0 := by
  obtain ⟨hb0, hb1, hb2, hb3⟩ := h.dec_bound hd
  have hsm := h.small
  have c0 := h.c0
  have HC := hid_of (number_some b g off last n k d 0 w h hd)
  have H := hid_of h
  have hdd : decide ((n : Int) ≤ (d.length : Int) - ((off : Int) + (k : Int))) = true := by simp; omega
  have hok : off + k ≤ d.length := hb1
  clear hd h
  go_enter Try.func43, Try.ntmps43
  go_wp2_with (first
    | (go_at_call 51; refine HC.out.mono ?_; rintro e w1 ⟨rfl, m, rfl⟩)
    | (go_at_call 52; refine (settle_ok b g off last (off + k) d _ (H.out.drewN _) hok).mono ?_; rintro e w2 ⟨rfl, h2⟩; have R := hid_of h2.ofDrewN; clear h2))
  go_ret
  exact ⟨rfl, R.out⟩

set_option maxHeartbeats 400000 in
theorem rcount_far (b g off last n k : Nat) (d : List Int) (w : World) (h : Rst w b g d off last 0) (hd : dec (d.drop off) = some (n, k)) (hn : ¬ off + k + n ≤ d.length) :
    Calls Try.prog 43 #[.pointer (some ⟨b, 0, none⟩)] w fun e w' => e = .returned (.int .i64 0) ∧ RTo w w' b g d off off 2 := by
  obtain ⟨hb0, hb1, hb2, hb3⟩ := h.dec_bound hd
  have hsm := h.small
  have c0 := h.c0
  have HC := hid_of (number_some b g off last n k d 0 w h hd)
  have H := hid_of h
  have hdd : decide ((n : Int) ≤ (d.length : Int) - ((off : Int) + (k : Int))) = false := by simp; omega
  clear hd h
  go_enter Try.func43, Try.ntmps43
  go_wp2_with (first
    | (go_at_call 51; refine HC.out.mono ?_; rintro e w1 ⟨rfl, m, rfl⟩)
    | (go_at_call 52; refine (settle_bad b g off last _ d _ (H.out.drewN _)).mono ?_; rintro e w2 ⟨rfl, h2⟩; have R := hid_of h2.ofDrewN; clear h2))
  go_ret
  exact ⟨rfl, R.out⟩
set_option maxHeartbeats 400000 in
theorem rcount_bad (b g off last : Nat) (d : List Int) (w : World) (h : Rst w b g d off last 0) (hd : dec (d.drop off) = none) :
    Calls Try.prog 43 #[.pointer (some ⟨b, 0, none⟩)] w fun e w' => e = .returned (.int .i64 0) ∧ RTo w w' b g d off off 2 := by
  have c0 := h.c0
  have HC := hid_of (number_none b g off last d 0 w h hd)
  have H := hid_of h
  clear hd h
  go_enter Try.func43, Try.ntmps43
  go_wp2_with (first
    | (go_at_call 51; refine HC.out.mono ?_; rintro e w1 ⟨rfl, m, rfl⟩)
    | (go_at_call 52; refine (settle_bad b g off last _ d _ (H.out.drewN _)).mono ?_; rintro e w2 ⟨rfl, h2⟩; have R := hid_of h2.ofDrewN; clear h2))
  go_ret
  exact ⟨rfl, R.out⟩

/-- The Reader in block b: at an offset, or dead. -/
def RS (w : World) (b g : Nat) (d : List Int) : Option Nat → Prop
  | some off => ∃ last, Rst w b g d off last 0
  | none => ∃ off last, Rst w b g d off last 2
def uR (d : List Int) : Option Nat → Nat × Option Nat
  | none => (0, none)
  | some off => match dec (d.drop off) with
    | some (n, k) => (n, some (off + k))
    | none => (0, none)
def cR (d : List Int) (off : Nat) : Nat × Option Nat :=
  match dec (d.drop off) with
  | some (n, k) => if off + k + n ≤ d.length then (n, some (off + k)) else (0, none)
  | none => (0, none)
def eR (d : List Int) : Option Nat → Int
  | none => 2
  | some off => if off = d.length then 0 else 2
theorem uR_any (b g : Nat) (d : List Int) (s : Option Nat) (w : World) (h : RS w b g d s) :
    Calls Try.prog 44 #[.pointer (some ⟨b, 0, none⟩)] w fun e w' => e = .returned (.int .u64 (uR d s).1) ∧ RS w' b g d (uR d s).2 ∧ Kept (fun k => k = b) w w' ∧ w'.heap.size = w.heap.size ∧ (uR d s).1 < 18446744073709551616 := by
  cases s with
  | none =>
    obtain ⟨off, last, h⟩ := h
    exact (ruint_dead b g off last d w h).mono fun e w' ⟨he, h1, h2, h3⟩ => ⟨he, ⟨_, _, h1⟩, h2, h3, by show 0 < _; omega⟩
  | some off =>
    obtain ⟨last, h⟩ := h
    cases hd : dec (d.drop off) with
    | none =>
      have e1 : uR d (some off) = (0, none) := by simp only [uR, hd]
      rw [e1]
      exact (ruint_bad b g off last d w h hd).mono fun e w' ⟨he, h1, h2, h3⟩ => ⟨he, ⟨_, _, h1⟩, h2, h3, by show 0 < _; omega⟩
    | some x =>
      obtain ⟨n, k⟩ := x
      have e1 : uR d (some off) = (n, some (off + k)) := by simp only [uR, hd]
      have hb := h.dec_bound hd
      rw [e1]
      exact (ruint_ok b g off last n k d w h hd).mono fun e w' ⟨he, h1, h2, h3⟩ => ⟨he, ⟨_, h1⟩, h2, h3, hb.2.2.2⟩
theorem cR_any (b g off last : Nat) (d : List Int) (w : World) (h : Rst w b g d off last 0) :
    Calls Try.prog 43 #[.pointer (some ⟨b, 0, none⟩)] w fun e w' => e = .returned (.int .i64 (cR d off).1) ∧ RS w' b g d (cR d off).2 ∧ Kept (fun k => k = b) w w' ∧ w'.heap.size = w.heap.size := by
  cases hd : dec (d.drop off) with
  | none =>
    have e1 : cR d off = (0, none) := by simp only [cR, hd]
    rw [e1]
    exact (rcount_bad b g off last d w h hd).mono fun e w' ⟨he, h1, h2, h3⟩ => ⟨he, ⟨_, _, h1⟩, h2, h3⟩
  | some x =>
    obtain ⟨n, k⟩ := x
    by_cases hn : off + k + n ≤ d.length
    · have e1 : cR d off = (n, some (off + k)) := by simp only [cR, hd, if_pos hn]
      rw [e1]
      exact (rcount_ok b g off last n k d w h hd hn).mono fun e w' ⟨he, h1, h2, h3⟩ => ⟨he, ⟨_, h1⟩, h2, h3⟩
    · have e1 : cR d off = (0, none) := by simp only [cR, hd, if_neg hn]
      rw [e1]
      exact (rcount_far b g off last n k d w h hd hn).mono fun e w' ⟨he, h1, h2, h3⟩ => ⟨he, ⟨_, _, h1⟩, h2, h3⟩
theorem eR_any (b g : Nat) (d : List Int) (s : Option Nat) (w : World) (h : RS w b g d s) :
    Calls Try.prog 45 #[.pointer (some ⟨b, 0, none⟩)] w fun e w' => e = .returned (.int .i64 (eR d s)) ∧ Drew w w' := by
  cases s with
  | none =>
    obtain ⟨off, last, h⟩ := h
    exact end_bad b g off last d 2 w h (.inl rfl)
  | some off =>
    obtain ⟨last, h⟩ := h
    by_cases ho : off = d.length
    · have e1 : eR d (some off) = 0 := if_pos ho
      rw [e1]
      exact end_ok b g off last d w h ho
    · have e1 : eR d (some off) = 2 := if_neg ho
      rw [e1]
      exact end_bad b g off last d 0 w h (.inr ⟨rfl, ho⟩)
end Go.Proofs.Ytofgmimdmgaljaa.Wr
