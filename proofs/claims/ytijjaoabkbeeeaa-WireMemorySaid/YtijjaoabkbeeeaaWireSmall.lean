/- small: whether a list of items is within the bounds. No condition. -/
import Derived.Test.YtijjaoabkbeeeaaWireShort
namespace Go.Proofs.Ytijjaoabkbeeeaa
open Go.RowKit

/-- The bytes of the first k items. -/
def tot (its : List It) : Nat := (its.map fun x => x.m.length).sum
theorem tot_take (its : List It) (k : Nat) (x : It) (h : its[k]? = some x) : tot (its.take (k + 1)) = tot (its.take k) + x.m.length := by
  unfold tot
  rw [List.take_add_one, h]
  simp
theorem tot_le (its : List It) (k : Nat) : tot (its.take k) ≤ tot its := by
  have : tot its = tot (its.take k) + tot (its.drop k) := by
    unfold tot
    rw [← List.sum_append, ← List.map_append, List.take_append_drop]
  omega


def Small (its : List It) : Prop := its.length ≤ 40 ∧ tot its ≤ 2000

theorem small_no {its : List It} (h : 40 < its.length ∨ 2000 < tot its) : (false = true ↔ Small its) := ⟨fun h => (by cases h), fun hs => by have := hs.1; have := hs.2; omega⟩

def SmallPost (its : List It) (w : World) (e : Ending) (w' : World) : Prop := ∃ r : Bool, e = .returned (.bool r) ∧ (r = true ↔ Small its) ∧ w = w'

set_option maxHeartbeats 800000 in
theorem small_any (a o : Nat) (its : List It) (cap : Nat) (w : World) (hn : its.length ≤ 9223372036854775807)
    (hc : ∀ i x, its[i]? = some x → w.cell? ⟨a, o + i * 3 + 2, none⟩ = some (.slice x.ao x.m.length x.cap)) (hm : ∀ x ∈ its, x.m.length ≤ 9223372036854775807) :
    Calls Try.prog 11 #[.slice (some ⟨a, o, none⟩) its.length cap] w (SmallPost its w) := by
  have HC := hid_of hc
  have HM := hid_of hm
  clear hc hm
  go_enter Try.func11, Try.ntmps11
  go_wp2
  go_loop [3, 4] (fun nv iv => ∃ k t : Nat, k ≤ its.length ∧ k ≤ 40 ∧ t ≤ 2000 * k ∧ iv = .int .i64 k ∧ nv = .int .i64 t ∧ Hid (t = tot (its.take k))) (fun _ i => its.length - (intOf i).toNat)
  case atStart => exact ⟨0, 0, by omega, by omega, by omega, rfl, rfl, hid_of rfl⟩
  case round =>
    obtain ⟨k, t, hk, hk4, ht, rfl, rfl, htot⟩ := hrel
    by_cases hlt : k < its.length
    · obtain ⟨x, hx⟩ : ∃ x, its[k]? = some x := ⟨its[k], by simp [hlt]⟩
      have c2 := HC.out k x hx
      have hxm := HM.out x (List.mem_of_getElem? hx)
      have hts := tot_take its k x hx
      have HT := hid_of hts
      have htl := tot_le its (k + 1)
      have HL := hid_of htl
      clear hx hts htl
      by_cases h40 : 40 ≤ k
      · go_wp2
        go_ret
        exact ⟨false, rfl, small_no (by omega), rfl⟩
      · by_cases h2 : 2000 < x.m.length
        · go_wp2
          go_ret
          exact ⟨false, rfl, small_no (by have := HT.out; have := HL.out; omega), rfl⟩
        · go_wp2
          go_round
          case rel => exact ⟨k + 1, t + x.m.length, by omega, by omega, by omega, by go_num, by go_num, hid_of (by rw [HT.out, htot.out])⟩
          case measure => simp [intOf]; omega
    · obtain rfl : k = its.length := by omega
      have hT := htot.out
      rw [List.take_length] at hT
      have HT := hid_of hT
      clear hT
      by_cases h3 : t ≤ 2000
      · go_wp2
        go_ret
        exact ⟨true, by simp; omega, ⟨fun _ => ⟨by omega, by have := HT.out; omega⟩, fun _ => rfl⟩, rfl⟩
      · go_wp2
        go_ret
        exact ⟨false, by simp; omega, small_no (by have := HT.out; omega), rfl⟩

set_option maxHeartbeats 400000 in
theorem small_nil (ao : Option Addr) (cap : Nat) (w : World) :
    Calls Try.prog 11 #[.slice ao 0 cap] w fun e w' => e = .returned (.bool true) ∧ w = w' := by
  go_enter Try.func11, Try.ntmps11
  go_wp2
  refine wp_loop_rounds 1 ?_
  rw [rounds_succ]
  go_wp2
  go_ret
  exact ⟨rfl, rfl⟩

theorem small_true (a o : Nat) (its : List It) (cap : Nat) (w : World) (hn : its.length ≤ 9223372036854775807) (h : Items w.heap.size w a o its) (hs : Small its) :
    Calls Try.prog 11 #[.slice (some ⟨a, o, none⟩) its.length cap] w fun e w' => e = .returned (.bool true) ∧ w = w' :=
  (small_any a o its cap w hn h.c2 (fun x hx => by have := (h.ok x hx).len; omega)).mono fun e w' ⟨r, he, hr, hw⟩ => ⟨by rw [he, hr.2 hs], hw⟩
theorem small_false (a o : Nat) (its : List It) (cap : Nat) (w : World) (hn : its.length ≤ 9223372036854775807) (hc : ∀ i x, its[i]? = some x → w.cell? ⟨a, o + i * 3 + 2, none⟩ = some (.slice x.ao x.m.length x.cap)) (hm : ∀ x ∈ its, x.m.length ≤ 9223372036854775807) (hs : ¬ Small its) :
    Calls Try.prog 11 #[.slice (some ⟨a, o, none⟩) its.length cap] w fun e w' => e = .returned (.bool false) ∧ w = w' :=
  (small_any a o its cap w hn hc hm).mono fun e w' ⟨r, he, hr, hw⟩ => ⟨by rw [he]; cases r; rfl; exact absurd (hr.1 rfl) hs, hw⟩

end Go.Proofs.Ytijjaoabkbeeeaa
