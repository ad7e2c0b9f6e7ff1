/- The last contracts of the Reader of package wire. No condition but bounds on sizes. -/
import Derived.Test.YtoogcafceghdjaaWireRdB
namespace Go.Proofs.Ytoogcafceghdjaa.Wr
open Go.RowKit

set_option maxHeartbeats 400000 in
theorem newReader_any (ao : Option Addr) (l : List Int) (cap : Nat) (w : World) (hr : ∀ x ∈ l, 0 ≤ x ∧ x ≤ 255) (hl : l.length ≤ 140737488351232)
    (hpos : 0 < l.length → ∃ ad, ao = some ad ∧ ∀ j v, (bs l)[j]? = some v → w.cell? (ad.add j) = some v) :
    Calls Try.prog 23 #[.slice ao l.length cap] w fun e w' => ∃ b g, e = .returned (.pointer (some ⟨b, 0, none⟩)) ∧ Rst w' b g l 0 0 0 ∧ Below w.heap.size w w' ∧ w.heap.size ≤ b ∧ w.heap.size ≤ g := by
  have HC := hid_of (clone_any ao l cap w hl hpos)
  clear hpos
  go_enter Try.func23, Try.ntmps23
  go_wp2_with (go_at_call 49; refine HC.out.mono ?_; rintro e w1 ⟨rfl, h1, h2⟩; have H1 := hid_of h1; clear h1)
  go_ret
  have hs := lt_of_block H1.out
  refine ⟨_, _, rfl, ⟨heap_alloc_new _ _, ?_, hr, by omega, hl⟩, h2.alloc h2.size _, h2.size, Nat.le_refl _⟩
  rw [Below.heap_alloc _ _ _ hs]
  exact H1.out

set_option maxHeartbeats 400000 in
theorem left_any (b g off last : Nat) (d : List Int) (err : Int) (w : World) (h : Rst w b g d off last err) :
    Calls Try.prog 56 #[.pointer (some ⟨b, 0, none⟩)] w fun e w' => e = .returned (.int .i64 ((d.length - off : Nat) : Int)) ∧ Drew w w' := by
  have c0 := h.c0
  have c1 := h.c1
  have hle := h.le
  have hsm := h.small
  go_enter Try.func56, Try.ntmps56
  have a1 : IntKind.i64.wrap ((d.length : Int) - (off : Int)) = (d.length : Int) - (off : Int) := IntWalk.i64_in _ (by omega)
  go_wp2
  go_quiet (fail)
  go_wp2
  go_ret
  exact ⟨ret_i64 (by omega), nq, rfl⟩
set_option maxHeartbeats 400000 in
theorem end_ok (b g off last : Nat) (d : List Int) (w : World) (h : Rst w b g d off last 0) (ho : off = d.length) :
    Calls Try.prog 25 #[.pointer (some ⟨b, 0, none⟩)] w fun e w' => e = .returned (.int .i64 0) ∧ Drew w w' := by
  have c3 := h.c3
  have HC := hid_of (left_any b g off last d 0 w h)
  have hb : (((d.length - off : Nat) : Int) != 0) = false := by simp; omega
  have H := hid_of h
  clear h ho
  go_enter Try.func25, Try.ntmps25
  go_wp2_with (go_at_call 56; refine HC.out.mono ?_; rintro e w1 ⟨rfl, m, rfl⟩)
  go_ret
  exact ⟨rfl, m, rfl⟩
set_option maxHeartbeats 400000 in
theorem end_bad (b g off last : Nat) (d : List Int) (err : Int) (w : World) (h : Rst w b g d off last err) (ho : err = 2 ∨ (err = 0 ∧ off ≠ d.length)) :
    Calls Try.prog 25 #[.pointer (some ⟨b, 0, none⟩)] w fun e w' => e = .returned (.int .i64 2) ∧ Drew w w' := by
  have c3 := h.c3
  have hle := h.le
  have HC := hid_of (left_any b g off last d err w h)
  rcases ho with rfl | ⟨rfl, ho⟩
  · clear h
    go_enter Try.func25, Try.ntmps25
    go_wp2_with (go_at_call 56; refine HC.out.mono ?_; rintro e w1 ⟨rfl, m, rfl⟩)
    go_ret
    exact ⟨rfl, 0, rfl⟩
  · have hb : (((d.length - off : Nat) : Int) != 0) = true := by simp; omega
    have H := hid_of h
    clear h ho
    go_enter Try.func25, Try.ntmps25
    go_wp2_with (go_at_call 56; refine HC.out.mono ?_; rintro e w1 ⟨rfl, m, rfl⟩)
    go_ret
    exact ⟨rfl, m, rfl⟩

theorem clone_n (ao : Option Addr) (l : List Int) (n cap : Nat) (w : World) (hn : l.length = n) (hl : l.length ≤ 140737488351232)
    (hpos : 0 < l.length → ∃ ad, ao = some ad ∧ ∀ j v, (bs l)[j]? = some v → w.cell? (ad.add j) = some v) :
    Calls Try.prog 49 #[.slice ao n cap] w fun e w' => e = .returned (.slice (some ⟨w.heap.size, 0, none⟩) n n) ∧
      w'.heap[w.heap.size]? = some (.cells (bs l).toArray 5 (0, 0)) ∧ Below w.heap.size w w' := by
  subst hn; exact clone_any ao l cap w hl hpos

/-- The cells of a part of the Reader's bytes. -/
theorem Rst.part {w : World} {b g off last : Nat} {d : List Int} {err : Int} (h : Rst w b g d off last err) (s n : Nat) (a : Nat) (ha : s < d.length → a = s) :
    0 < ((d.drop s).take n).length → ∃ ad, (some (⟨g, a, none⟩ : Addr)) = some ad ∧ ∀ j v, (bs ((d.drop s).take n))[j]? = some v → w.cell? (ad.add j) = some v := by
  intro h0
  have hs : s < d.length := by
    rcases Nat.lt_or_ge s d.length with h1 | h1
    · exact h1
    · rw [List.drop_eq_nil_of_le h1] at h0; simp at h0
  obtain rfl := ha hs
  refine ⟨_, rfl, fun j v hv => ?_⟩
  have hp : (⟨g, a, none⟩ : Addr).add j = ⟨g, a + j, none⟩ := by unfold Addr.add; split <;> simp_all
  rw [hp, cell_of_row _ _ _ _ _ _ h.row]
  simp only [bs, List.map_take, List.map_drop, List.getElem?_take, List.getElem?_drop] at hv
  split at hv
  · simpa [bs] using hv
  · cases hv

theorem ret_slice {a b n : Nat} (h : a = b) : Ending.returned (.slice (some ⟨a, 0, none⟩) n n) = Ending.returned (.slice (some ⟨b, 0, none⟩) n n) := by rw [h]

theorem rbytes_end {w w2 w3 : World} {b g off off' : Nat} {d l : List Int} (R : RTo w w2 b g d off' off 0) (R3 : w3.heap[w2.heap.size]? = some (.cells (bs l).toArray 5 (0, 0)) ∧ Below w2.heap.size w2 w3) :
    Rst w3 b g d off' off 0 ∧ w3.heap[w.heap.size]? = some (.cells (bs l).toArray 5 (0, 0)) ∧ Kept (fun k => k = b) w w3 := by
  obtain ⟨r1, r2, r3⟩ := R
  obtain ⟨q1, q2⟩ := R3
  have hg := r1.glt
  have hb := r1.blt
  rw [r3] at q1
  refine ⟨r1.same (q2.block b hb) (q2.block g hg), q1, ⟨q2.os.trans r2.os, q2.tape.trans r2.tape, q2.output.trans r2.output, Nat.le_trans r2.size q2.size, fun q hq hS => (q2.block q (by omega)).trans (r2.block q hq hS)⟩⟩

theorem RTo.st {w w' : World} {b g off last : Nat} {d : List Int} {err : Int} (h : RTo w w' b g d off last err) : Rst w' b g d off last err := h.1
theorem part_q {w : World} {b g off last s n : Nat} {d q : List Int} {err : Int} (hq : q = (d.drop s).take n) (h : Rst w b g d off last err) :
    0 < q.length → ∃ ad, (some (⟨g, s, none⟩ : Addr)) = some ad ∧ ∀ j v, (bs q)[j]? = some v → w.cell? (ad.add j) = some v := by
  rw [hq]; exact h.part s n s (fun _ => rfl)

set_option maxHeartbeats 400000 in
theorem rtext_ok (b g off last k n : Nat) (d : List Int) (w : World) (h : Rst w b g d off last 0) (hd : decRun (d.drop off) = some (k, n)) :
    Calls Try.prog 55 #[.pointer (some ⟨b, 0, none⟩)] w fun e w' => e = .returned (.string (strOfNums ((d.drop (off + k)).take n))) ∧ RTo w w' b g d (off + k + n) off 0 := by
  obtain ⟨hd1, hd2⟩ := decRun_some hd
  obtain ⟨hb0, hb1, hb2, hb3⟩ := h.dec_bound hd1
  rw [List.length_drop] at hd2
  have hsm := h.small
  have c0 := h.c0
  have HC := hid_of (run_some b g off last k n d 0 w h hd)
  have H := hid_of h
  have hen : off + k + n ≤ d.length := by omega
  clear hd hd1 h
  have hpl : ((d.drop (off + k)).take n).length = n := by rw [List.length_take, List.length_drop]; omega
  have HPL := hid_of hpl
  clear hpl
  by_cases hs : off + k = d.length
  · have hn0 : n = 0 := by omega
    subst hn0
    have HS := hid_of hs
    have hi1 : d.length ≤ off + k := by omega
    clear hs
    go_enter Try.func55, Try.ntmps55
    go_wp2_with (first
      | (go_at_call 76; refine HC.out.mono ?_; rintro e w1 ⟨rfl, m, rfl⟩)
      | (go_at_call 74; refine (settle_ok b g off last (off + k + 0) d _ (H.out.drewN _) hen).mono ?_; rintro e w2 ⟨rfl, h2⟩; have R := hid_of h2.ofDrewN; have c0' := h2.1.c0; clear h2)
      | (with_reducible refine wpList_str _ rfl 30 9 _ rfl 5 Try.underlying30 Try.underlying5 Try.underlying9 _ [] _ rfl (fun h0 => by simp at h0) ?_))
    go_ret
    refine ⟨?_, R.out⟩
    simp
  · have hs1 : off + k < d.length := by omega
    clear hs
    go_enter Try.func55, Try.ntmps55
    obtain ⟨q, hq⟩ : ∃ q, q = (d.drop (off + k)).take n := ⟨_, rfl⟩
    have HQ := hid_of hq
    rw [← hq]
    rw [← hq] at HPL
    have HPN : Hid (q.length = off + k + n - (off + k)) := hid_of (by have := HPL.out; omega)
    clear hq
    go_wp2_with (first
      | (go_at_call 76; refine HC.out.mono ?_; rintro e w1 ⟨rfl, m, rfl⟩)
      | (go_at_call 74; refine (settle_ok b g off last (off + k + n) d _ (H.out.drewN _) hen).mono ?_; rintro e w2 ⟨rfl, h2⟩; have R := hid_of h2.ofDrewN; have c0' := h2.1.c0; clear h2)
      | (with_reducible refine wpList_str_n _ rfl 30 9 _ rfl 5 Try.underlying30 Try.underlying5 Try.underlying9 (some ⟨g, off + k, none⟩) q (off + k + n - (off + k)) (d.length - (off + k)) HPN.out rfl (part_q HQ.out (RTo.st R.out)) ?_))
    go_ret
    exact ⟨rfl, R.out⟩

set_option maxHeartbeats 400000 in
theorem rtext_bad (b g off last : Nat) (d : List Int) (w : World) (h : Rst w b g d off last 0) (hd : decRun (d.drop off) = none) :
    Calls Try.prog 55 #[.pointer (some ⟨b, 0, none⟩)] w fun e w' => e = .returned (.string (strOfNums [])) ∧ RTo w w' b g d off off 2 := by
  have HC := hid_of (run_none b g off last d 0 w h hd)
  have H := hid_of h
  clear hd h
  go_enter Try.func55, Try.ntmps55
  go_wp2_with (first
    | (go_at_call 76; refine HC.out.mono ?_; rintro e w1 ⟨rfl, m, rfl⟩)
    | (go_at_call 74; refine (settle_bad b g off last 0 d _ (H.out.drewN _)).mono ?_; rintro e w2 ⟨rfl, h2⟩; have R := hid_of h2.ofDrewN; clear h2))
  go_ret
  exact ⟨rfl, R.out⟩

set_option maxHeartbeats 400000 in
theorem rtext_dead (b g off last : Nat) (d : List Int) (w : World) (h : Rst w b g d off last 2) :
    Calls Try.prog 55 #[.pointer (some ⟨b, 0, none⟩)] w fun e w' => e = .returned (.string (strOfNums [])) ∧ RTo w w' b g d off last 2 := by
  have H := hid_of h
  rcases hd : decRun (d.drop off) with _ | ⟨k, n⟩
  · have HC := hid_of (run_none b g off last d 2 w h hd)
    clear hd h
    go_enter Try.func55, Try.ntmps55
    go_wp2_with (first
      | (go_at_call 76; refine HC.out.mono ?_; rintro e w1 ⟨rfl, m, rfl⟩)
      | (go_at_call 74; refine (settle_dead b g off last _ _ d _ (H.out.drewN _)).mono ?_; rintro e w2 ⟨rfl, h2⟩; have R := hid_of h2.ofDrewN; clear h2))
    go_ret
    exact ⟨rfl, R.out⟩
  · have HC := hid_of (run_some b g off last k n d 2 w h hd)
    clear hd h
    go_enter Try.func55, Try.ntmps55
    go_wp2_with (first
      | (go_at_call 76; refine HC.out.mono ?_; rintro e w1 ⟨rfl, m, rfl⟩)
      | (go_at_call 74; refine (settle_dead b g off last _ _ d _ (H.out.drewN _)).mono ?_; rintro e w2 ⟨rfl, h2⟩; have R := hid_of h2.ofDrewN; clear h2))
    go_ret
    exact ⟨rfl, R.out⟩

set_option maxHeartbeats 400000 in
theorem rcount_ok (b g off last n k : Nat) (d : List Int) (w : World) (h : Rst w b g d off last 0) (hd : dec (d.drop off) = some (n, k)) (hn : off + k + n ≤ d.length) :
    Calls Try.prog 75 #[.pointer (some ⟨b, 0, none⟩)] w fun e w' => e = .returned (.int .i64 n) ∧ RTo w w' b g d (off + k) off 0 := by
  obtain ⟨hb0, hb1, hb2, hb3⟩ := h.dec_bound hd
  have hsm := h.small
  have c0 := h.c0
  have HC := hid_of (number_some b g off last n k d 0 w h hd)
  have H := hid_of h
  have hdd : decide ((n : Int) ≤ (d.length : Int) - ((off : Int) + (k : Int))) = true := by simp; omega
  have hok : off + k ≤ d.length := hb1
  clear hd h
  go_enter Try.func75, Try.ntmps75
  go_wp2_with (first
    | (go_at_call 73; refine HC.out.mono ?_; rintro e w1 ⟨rfl, m, rfl⟩)
    | (go_at_call 74; refine (settle_ok b g off last (off + k) d _ (H.out.drewN _) hok).mono ?_; rintro e w2 ⟨rfl, h2⟩; have R := hid_of h2.ofDrewN; clear h2))
  go_ret
  exact ⟨rfl, R.out⟩

end Go.Proofs.Ytoogcafceghdjaa.Wr
