/- Slices of strings, and who is in them: Has, Sorted and Same, of the package and of its reference. Bounds on sizes alone. -/
import Derived.Test.YtoogcafceghdjaaNmVal
import Derived.Test.YtoogcafceghdjaaNamSet
namespace Go.Proofs.Ytoogcafceghdjaa
open Go.RowKit

theorem strsE : Elem Try.prog 22 9 (.string ⟨#[]⟩) 16 := ⟨Try.underlying22, by kernel_rfl, rfl⟩
/-- The bytes of a string, as the value that holds them. -/
def ba (l : Str) : ByteArray := ⟨l.toArray⟩
theorem ba_list (l : Str) : (ba l).data.toList = l := rfl
theorem ba_of (s : ByteArray) : ba s.data.toList = s := rfl
def ss (l : List Str) : List Value := l.map fun x => .string (ba x)
theorem ss_length (l : List Str) : (ss l).length = l.length := by simp [ss]
theorem ss_one (l : List Str) : ∀ u ∈ ss l, u.oneCell' = true := by
  intro u hu
  obtain ⟨y, _, rfl⟩ := List.mem_map.1 hu
  rfl
theorem ss_append (a b : List Str) : ss (a ++ b) = ss a ++ ss b := by simp [ss]

theorem rds_open {w : World} {ao : Option Addr} {n cap : Nat} {l : List Str} (h : Rd w (.slice ao n cap) (ss l)) :
    n = l.length ∧ n ≤ cap ∧ cap ≤ 9223372036854775807 ∧ (l = [] ∨ ∃ g o, ao = some ⟨g, o, none⟩ ∧ g < w.heap.size ∧ ∀ j x, l[j]? = some x → w.cell? ⟨g, o + j, none⟩ = some (.string (ba x))) := by
  obtain ⟨ao2, cap2, e, h1, h2, h3⟩ := h
  cases e
  rw [ss_length] at h1 h3
  refine ⟨ss_length _, by rw [ss_length]; exact h1, h2, ?_⟩
  by_cases h0 : 0 < l.length
  · obtain ⟨g, o, e, hg, hc⟩ := h3 h0
    exact .inr ⟨g, o, e, hg, fun j x hx => hc j _ (by simp [ss, hx])⟩
  · exact .inl (List.eq_nil_of_length_eq_zero (by omega))

theorem eqS (x y : Str) : ((ba x).toList == (ba y).toList) = decide (x = y) := by
  rw [ByteArray.toList_eq, ByteArray.toList_eq, ba_list, ba_list, Bool.eq_iff_iff]; simp
theorem less_eq : ∀ (x y : List UInt8), Op.bytesLess x y = decide (x < y)
  | [], [] => by simp [Op.bytesLess]
  | _ :: _, [] => by simp [Op.bytesLess]
  | [], _ :: _ => by simp [Op.bytesLess]
  | a :: x, b :: y => by
    rw [Op.bytesLess, less_eq x y]
    simp only [List.cons_lt_cons_iff]
    by_cases h1 : a < b <;> by_cases h2 : a = b <;> by_cases h3 : x < y <;> simp [h1, h2, h3]
theorem ltS (x y : Str) : Op.bytesLess (ba x).toList (ba y).toList = decide (x < y) := by
  rw [ByteArray.toList_eq, ByteArray.toList_eq, ba_list, ba_list, less_eq]
/-- The test's outcome, for a string that stands under a name. -/
theorem eq_t {x y : Str} {bx bz : ByteArray} (hx : bx = ba x) (hy : bz = ba y) (h : x = y) : (bx.toList == bz.toList) = true := by
  subst hx hy; rw [eqS]; exact decide_eq_true h
theorem eq_f {x y : Str} {bx bz : ByteArray} (hx : bx = ba x) (hy : bz = ba y) (h : x ≠ y) : (bx.toList == bz.toList) = false := by
  subst hx hy; rw [eqS]; exact decide_eq_false h
theorem lt_t {x y : Str} {bx bz : ByteArray} (hx : bx = ba x) (hy : bz = ba y) (h : x < y) : Op.bytesLess bx.toList bz.toList = true := by
  subst hx hy; rw [ltS]; exact decide_eq_true h
theorem lt_f {x y : Str} {bx bz : ByteArray} (hx : bx = ba x) (hy : bz = ba y) (h : ¬ x < y) : Op.bytesLess bx.toList bz.toList = false := by
  subst hx hy; rw [ltS]; exact decide_eq_false h
theorem take_not {l : List Str} {k : Nat} {x : Str} (h : k < l.length) (hx : x ∉ l.take k) (hne : l[k] ≠ x) : x ∉ l.take (k + 1) := by
  rw [take_snoc' h, List.mem_append, List.mem_singleton]
  exact fun h2 => h2.elim hx (fun e => hne e.symm)
end Go.Proofs.Ytoogcafceghdjaa
