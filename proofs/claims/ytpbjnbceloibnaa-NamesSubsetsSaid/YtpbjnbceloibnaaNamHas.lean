/- Slices of strings, and who is in them: Has, Sorted and Same, of the package and of its reference. Bounds on sizes alone. -/
import Derived.Test.YtpbjnbceloibnaaNamRef
import Derived.Test.YtpbjnbceloibnaaNamSet
namespace Go.Proofs.Ytpbjnbceloibnaa
open Go.RowKit

theorem strsE : Elem Try.prog 24 9 (.string ⟨#[]⟩) 16 := ⟨Try.underlying24, by kernel_rfl, rfl⟩
/-- The bytes of a string, as the value that holds them. -/
def ba (l : Str) : ByteArray := ⟨l.toArray⟩
theorem ba_list (l : Str) : (ba l).data.toList = l := rfl
theorem ba_of (s : ByteArray) : ba s.data.toList = s := rfl
def ss (l : List Str) : List Value := l.map fun x => .string (ba x)
theorem ss_length (l : List Str) : (ss l).length = l.length := by simp [ss]
theorem ss_one (l : List Str) : ∀ u ∈ ss l, u.oneCell' = true := by
  intro u hu
  obtain ⟨y, _, rfl⟩ := List.mem_map.1 hu
  rfl
theorem ss_append (a b : List Str) : ss (a ++ b) = ss a ++ ss b := by simp [ss]

theorem rds_open {w : World} {ao : Option Addr} {n cap : Nat} {l : List Str} (h : Rd w (.slice ao n cap) (ss l)) :
    n = l.length ∧ n ≤ cap ∧ cap ≤ 9223372036854775807 ∧ (l = [] ∨ ∃ g o, ao = some ⟨g, o, none⟩ ∧ g < w.heap.size ∧ ∀ j x, l[j]? = some x → w.cell? ⟨g, o + j, none⟩ = some (.string (ba x))) := by
  obtain ⟨ao2, cap2, e, h1, h2, h3⟩ := h
  cases e
  rw [ss_length] at h1 h3
  refine ⟨ss_length _, by rw [ss_length]; exact h1, h2, ?_⟩
  by_cases h0 : 0 < l.length
  · obtain ⟨g, o, e, hg, hc⟩ := h3 h0
    exact .inr ⟨g, o, e, hg, fun j x hx => hc j _ (by simp [ss, hx])⟩
  · exact .inl (List.eq_nil_of_length_eq_zero (by omega))

theorem eqS (x y : Str) : ((ba x).toList == (ba y).toList) = decide (x = y) := by
  rw [ByteArray.toList_eq, ByteArray.toList_eq, ba_list, ba_list, Bool.eq_iff_iff]; simp
theorem less_eq : ∀ (x y : List UInt8), Op.bytesLess x y = decide (x < y)
  | [], [] => by simp [Op.bytesLess]
  | _ :: _, [] => by simp [Op.bytesLess]
  | [], _ :: _ => by simp [Op.bytesLess]
  | a :: x, b :: y => by
    rw [Op.bytesLess, less_eq x y]
    simp only [List.cons_lt_cons_iff]
    by_cases h1 : a < b <;> by_cases h2 : a = b <;> by_cases h3 : x < y <;> simp [h1, h2, h3]
theorem ltS (x y : Str) : Op.bytesLess (ba x).toList (ba y).toList = decide (x < y) := by
  rw [ByteArray.toList_eq, ByteArray.toList_eq, ba_list, ba_list, less_eq]
/-- The test's outcome, for a string that stands under a name. -/
theorem eq_t {x y : Str} {bx bz : ByteArray} (hx : bx = ba x) (hy : bz = ba y) (h : x = y) : (bx.toList == bz.toList) = true := by
  subst hx hy; rw [eqS]; exact decide_eq_true h
theorem eq_f {x y : Str} {bx bz : ByteArray} (hx : bx = ba x) (hy : bz = ba y) (h : x ≠ y) : (bx.toList == bz.toList) = false := by
  subst hx hy; rw [eqS]; exact decide_eq_false h
theorem lt_t {x y : Str} {bx bz : ByteArray} (hx : bx = ba x) (hy : bz = ba y) (h : x < y) : Op.bytesLess bx.toList bz.toList = true := by
  subst hx hy; rw [ltS]; exact decide_eq_true h
theorem lt_f {x y : Str} {bx bz : ByteArray} (hx : bx = ba x) (hy : bz = ba y) (h : ¬ x < y) : Op.bytesLess bx.toList bz.toList = false := by
  subst hx hy; rw [ltS]; exact decide_eq_false h
theorem take_not {l : List Str} {k : Nat} {x : Str} (h : k < l.length) (hx : x ∉ l.take k) (hne : l[k] ≠ x) : x ∉ l.take (k + 1) := by
  rw [take_snoc' h, List.mem_append, List.mem_singleton]
  exact fun h2 => h2.elim hx (fun e => hne e.symm)

set_option maxRecDepth 100000 in
theorem rhas_any (ao : Option Addr) (n cap : Nat) (l : List Str) (x : Str) (w : World) (R : Rd w (.slice ao n cap) (ss l)) :
    Calls Try.prog 22 #[.slice ao n cap, .string (ba x)] w fun e w' => e = .returned (.bool (decide (x ∈ l))) ∧ w = w' := by
  obtain ⟨hn, h1, h2, h3⟩ := rds_open R
  obtain ⟨r, hr⟩ : ∃ r, r = decide (x ∈ l) := ⟨_, rfl⟩
  rw [← hr]
  have HR := hid_of hr
  have HN := hid_of hn
  clear hr R hn
  obtain ⟨bx, hbx⟩ : ∃ bx, bx = ba x := ⟨_, rfl⟩
  rw [← hbx]
  have HBX := hid_of hbx
  clear hbx
  rcases h3 with h3 | ⟨g, o, rfl, hg, hc⟩
  · have RF : Hid (r = false) := hid_of (by rw [HR.out, h3]; simp)
    obtain rfl : n = 0 := by rw [HN.out, h3]; rfl
    clear h3 HN
    go_enter Try.func22, Try.ntmps22
    go_wp2
    go_loop [5] (fun iv => iv = .int .i64 0) (fun iv => 0)
    case atStart => exact rfl
    case round =>
      obtain rfl := hrel
      go_wp2
      go_ret
      exact ⟨by rw [RF.out] <;> rfl, rfl⟩
  · have HC := hid_of hc
    clear hc
    go_enter Try.func22, Try.ntmps22
    go_wp2
    go_loop [5] (fun iv => ∃ k : Nat, k ≤ n ∧ iv = .int .i64 k ∧ Hid (x ∉ l.take k)) (fun iv => n - (intOf iv).toNat)
    case atStart => exact ⟨0, Nat.zero_le _, rfl, hid_of (by simp)⟩
    case round =>
      obtain ⟨k, hk, rfl, hx⟩ := hrel
      by_cases hlt : k < n
      · have hd : decide (k < n) = true := by simp; omega
        have hkl : Hid (k < l.length) := hid_of (by have := HN.out; omega)
        obtain ⟨bb, hb⟩ : ∃ bb, bb = ba (l[k]'hkl.out) := ⟨_, rfl⟩
        have c1 := HC.out k (l[k]'hkl.out) (List.getElem?_eq_getElem hkl.out)
        rw [← hb] at c1
        by_cases e : l[k]'hkl.out = x
        · have t1 := eq_t hb HBX.out e
          have RF : Hid (r = true) := hid_of (by rw [HR.out, ← e]; simp)
          clear hb e
          go_wp2
          go_ret
          exact ⟨by rw [RF.out] <;> rfl, rfl⟩
        · have t1 := eq_f hb HBX.out e
          have hx2 := hid_of (take_not hkl.out hx.out e)
          clear hb e
          go_wp2
          go_round
          case rel => exact ⟨k + 1, by omega, by go_num, hx2⟩
          case measure => simp [intOf]; omega
      · have hd : decide (k < n) = false := by simp; omega
        have RF : Hid (r = false) := hid_of (by
          rw [HR.out]; have := hx.out; rw [List.take_of_length_le (by have := HN.out; omega)] at this; exact decide_eq_false this)
        go_wp2
        go_ret
        exact ⟨by rw [RF.out] <;> rfl, rfl⟩
set_option maxRecDepth 100000 in
theorem has_any (ao : Option Addr) (n cap : Nat) (l : List Str) (x : Str) (w : World) (R : Rd w (.slice ao n cap) (ss l)) :
    Calls Try.prog 21 #[.slice ao n cap, .string (ba x)] w fun e w' => e = .returned (.bool (decide (x ∈ l))) ∧ w = w' := by
  obtain ⟨hn, h1, h2, h3⟩ := rds_open R
  obtain ⟨r, hr⟩ : ∃ r, r = decide (x ∈ l) := ⟨_, rfl⟩
  rw [← hr]
  have HR := hid_of hr
  have HN := hid_of hn
  clear hr R hn
  obtain ⟨bx, hbx⟩ : ∃ bx, bx = ba x := ⟨_, rfl⟩
  rw [← hbx]
  have HBX := hid_of hbx
  clear hbx
  rcases h3 with h3 | ⟨g, o, rfl, hg, hc⟩
  · have RF : Hid (r = false) := hid_of (by rw [HR.out, h3]; simp)
    obtain rfl : n = 0 := by rw [HN.out, h3]; rfl
    clear h3 HN
    go_enter Try.func21, Try.ntmps21
    go_wp2
    go_loop [6, 9] (fun sv iv => ∃ v : Value, sv = v ∧ iv = .int .i64 0) (fun _ iv => 0)
    case atStart => exact ⟨_, rfl, rfl⟩
    case round =>
      obtain ⟨v, rfl, rfl⟩ := hrel
      go_wp2
      go_ret
      exact ⟨by rw [RF.out] <;> rfl, rfl⟩
  · have HC := hid_of hc
    clear hc
    go_enter Try.func21, Try.ntmps21
    go_wp2
    go_loop [6, 9] (fun sv iv => ∃ (k : Nat) (v : Value), sv = v ∧ k ≤ n ∧ iv = .int .i64 k ∧ Hid (x ∉ l.take k)) (fun _ iv => n - (intOf iv).toNat)
    case atStart => exact ⟨0, _, rfl, Nat.zero_le _, rfl, hid_of (by simp)⟩
    case round =>
      obtain ⟨k, v, rfl, hk, rfl, hx⟩ := hrel
      by_cases hlt : k < n
      · have hd : decide (k < n) = true := by simp; omega
        have hkl : Hid (k < l.length) := hid_of (by have := HN.out; omega)
        obtain ⟨bb, hb⟩ : ∃ bb, bb = ba (l[k]'hkl.out) := ⟨_, rfl⟩
        have c1 := HC.out k (l[k]'hkl.out) (List.getElem?_eq_getElem hkl.out)
        rw [← hb] at c1
        by_cases e : l[k]'hkl.out = x
        · have t1 := eq_t hb HBX.out e
          have RF : Hid (r = true) := hid_of (by rw [HR.out, ← e]; simp)
          clear hb e
          go_wp2
          go_ret
          exact ⟨by rw [RF.out] <;> rfl, rfl⟩
        · have t1 := eq_f hb HBX.out e
          have hx2 := hid_of (take_not hkl.out hx.out e)
          clear hb e
          go_wp2
          go_round
          case rel => exact ⟨k + 1, _, rfl, by omega, by go_num, hx2⟩
          case measure => simp [intOf]; omega
      · have hd : decide (k < n) = false := by simp; omega
        have RF : Hid (r = false) := hid_of (by
          rw [HR.out]; have := hx.out; rw [List.take_of_length_le (by have := HN.out; omega)] at this; exact decide_eq_false this)
        go_wp2
        go_ret
        exact ⟨by rw [RF.out] <;> rfl, rfl⟩
end Go.Proofs.Ytpbjnbceloibnaa
