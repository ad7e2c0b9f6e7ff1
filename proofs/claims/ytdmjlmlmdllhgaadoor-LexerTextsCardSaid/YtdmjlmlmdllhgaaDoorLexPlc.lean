/- Lines and columns: plain mathematics, and Place. Bounds on sizes alone. -/
import Derived.Test.YtdmjlmlmdllhgaaDoorLexNex2
import Derived.Shelf.Strings.LastIndex
import Derived.Test.YtdmjlmlmdllhgaaDoorShelf
namespace Go.Proofs.YtdmjlmlmdllhgaaDoor
open Go.RowKit

/-- Line and column behind i bytes. -/
def lc (s : ByteArray) : Nat → Nat × Nat
  | 0 => (1, 1)
  | i + 1 => if gt s i = 10 then ((lc s i).1 + 1, 1) else ((lc s i).1, (lc s i).2 + 1)
theorem lc_go {s : ByteArray} {i : Nat} (h : gt s i = 10) : lc s (i + 1) = ((lc s i).1 + 1, 1) := if_pos h
theorem lc_no {s : ByteArray} {i : Nat} (h : gt s i ≠ 10) : lc s (i + 1) = ((lc s i).1, (lc s i).2 + 1) := if_neg h
theorem lc_le (s : ByteArray) : ∀ i, (lc s i).1 ≤ i + 1 ∧ (lc s i).2 ≤ i + 1 ∧ 1 ≤ (lc s i).1 ∧ 1 ≤ (lc s i).2 := by
  intro i; induction i with
  | zero => exact ⟨Nat.le_refl _, Nat.le_refl _, Nat.le_refl _, Nat.le_refl _⟩
  | succ i ih =>
    by_cases h : gt s i = 10
    · rw [lc_go h]; exact ⟨by show _ + 1 ≤ _; omega, by show 1 ≤ _; omega, by show 1 ≤ _ + 1; omega, Nat.le_refl _⟩
    · rw [lc_no h]; exact ⟨by show (lc s i).1 ≤ _; omega, by show (lc s i).2 + 1 ≤ _; omega, ih.2.2.1, by show 1 ≤ _ + 1; omega⟩
theorem pre_snoc {s : ByteArray} {i : Nat} (h : i < s.size) : (s.extract 0 (i + 1)).data.toList = (s.extract 0 i).data.toList ++ [s[i]] := by
  have e : ∀ k, (s.extract 0 k).data.toList = s.data.toList.take k := fun k => by simp
  rw [e, e, List.take_succ_eq_append_getElem (by simpa using h)]
  rfl
theorem lc_count (s : ByteArray) : ∀ i, i ≤ s.size → Lib.countByte (s.extract 0 i).data.toList 10 + 1 = (lc s i).1 := by
  intro i; induction i with
  | zero => intro _; simp [Lib.countByte, lc]
  | succ i ih =>
    intro h
    have hi := ih (by omega)
    unfold Lib.countByte at hi ⊢
    rw [pre_snoc (show i < s.size by omega), List.count_append]
    by_cases hg : gt s i = 10
    · rw [lc_go hg]
      have h2 : s[i] = 10 := by
        rw [gt_lt (by omega)] at hg
        exact UInt8.toNat_inj.1 (by show (s[i]).toNat = 10; omega)
      rw [h2, show List.count (10 : UInt8) [10] = 1 by decide]
      show _ + 1 + 1 = (lc s i).1 + 1
      omega
    · rw [lc_no hg]
      have h2 : s[i] ≠ 10 := by
        intro h3
        rw [gt_lt (by omega), h3] at hg
        exact hg rfl
      rw [List.count_singleton]
      simp only [beq_iff_eq, if_neg h2]
      omega
theorem lc_last (s : ByteArray) : ∀ i, i ≤ s.size → ((∀ j, j < i → gt s j ≠ 10) ∧ (lc s i).2 = i + 1) ∨ (∃ k, k < i ∧ gt s k = 10 ∧ (∀ j, k < j → j < i → gt s j ≠ 10) ∧ (lc s i).2 = i - k) := by
  intro i; induction i with
  | zero => intro _; exact .inl ⟨fun j h => by omega, rfl⟩
  | succ i ih =>
    intro h
    by_cases hg : gt s i = 10
    · rw [lc_go hg]; exact .inr ⟨i, by omega, hg, fun j h1 h2 => by omega, by show 1 = _; omega⟩
    · rw [lc_no hg]
      rcases ih (by omega) with ⟨h1, h2⟩ | ⟨k, h1, h2, h3, h4⟩
      · refine .inl ⟨fun j hj => ?_, by show (lc s i).2 + 1 = _; omega⟩
        by_cases e : j = i
        · rw [e]; exact hg
        · exact h1 j (by omega)
      · refine .inr ⟨k, by omega, h2, fun j q1 q2 => ?_, by show (lc s i).2 + 1 = _; omega⟩
        by_cases e : j = i
        · rw [e]; exact hg
        · exact h3 j q1 (by omega)
theorem bang_gt {s : ByteArray} {i j : Nat} (hi : i ≤ s.size) (h : j < i) : (((s.extract 0 i).data[j]!).toNat : Int) = gt s j := by
  have hsz : (s.extract 0 i).size = i := by rw [ByteArray.size_extract]; omega
  have h1 : j < (s.extract 0 i).data.size := by show j < (s.extract 0 i).size; omega
  have h2 := gt_extract (s := s) (i := 0) (j := j) hi (by omega)
  rw [Nat.zero_add] at h2
  rw [← h2, gt_lt (by omega), LastIndex.byteBang _ _ (by omega)]
theorem lc_col {s : ByteArray} {i : Nat} (hi : i ≤ s.size) : (i : Int) - Lib.lastIndexByte (s.extract 0 i) 10 = ((lc s i).2 : Int) := by
  have hsz : (s.extract 0 i).size = i := by rw [ByteArray.size_extract]; omega
  rcases Lib.lastIndexByte_spec (s.extract 0 i) 10 with ⟨h1, h2⟩ | ⟨k, h1, h2, h3, h4⟩
  · rw [h1]
    rcases lc_last s i hi with ⟨_, q2⟩ | ⟨k, q1, q2, _, _⟩
    · rw [q2]; omega
    · exact absurd ((bang_gt hi q1).trans q2) (h2 k (by omega))
  · rw [h2]
    rw [hsz] at h1
    rw [bang_gt hi h1] at h3
    rcases lc_last s i hi with ⟨q1, _⟩ | ⟨m, q1, q2, q3, q4⟩
    · exact absurd h3 (q1 k h1)
    · have e : m = k := by
        by_cases e1 : k < m
        · exact absurd ((bang_gt hi q1).trans q2) (h4 m e1 (by omega))
        · by_cases e2 : m < k
          · exact absurd h3 (q3 k e2 h1)
          · omega
      rw [q4, e]; omega
/-- Place, and its reference: the line and the column, or zeros. -/
def PlcP (l c : Int) (w : World) (e : Ending) (w' : World) : Prop := e = .returned (.tuple #[.int .i64 l, .int .i64 c]) ∧ w = w'
set_option maxRecDepth 100000 in
set_option maxHeartbeats 800000 in
theorem place_out (s : ByteArray) (a : Int) (w : World) (ha : a < 0 ∨ (s.size : Int) < a) : Calls Tryd.prog 27 #[.string s, .int .i64 a] w (PlcP 0 0 w) := by
  by_cases h : a < 0
  · have d2 : decide (a < 0) = true := decide_eq_true h
    clear ha h
    go_enter Tryd.func27, Tryd.ntmps27
    go_wp2
    go_ret2
    exact ⟨rfl, rfl⟩
  · have d2 : decide (a < 0) = false := decide_eq_false h
    have d3 : decide ((s.size : Int) < a) = true := decide_eq_true (by omega)
    clear ha h
    go_enter Tryd.func27, Tryd.ntmps27
    go_wp2
    go_ret2
    exact ⟨rfl, rfl⟩
set_option maxRecDepth 100000 in
set_option maxHeartbeats 800000 in
theorem rplace_out (s : ByteArray) (a : Int) (w : World) (ha : a < 0 ∨ (s.size : Int) < a) : Calls Tryd.prog 28 #[.string s, .int .i64 a] w (PlcP 0 0 w) := by
  by_cases h : a < 0
  · have d2 : decide (a < 0) = true := decide_eq_true h
    clear ha h
    go_enter Tryd.func28, Tryd.ntmps28
    go_wp2
    go_ret2
    exact ⟨rfl, rfl⟩
  · have d2 : decide (a < 0) = false := decide_eq_false h
    have d3 : decide ((s.size : Int) < a) = true := decide_eq_true (by omega)
    clear ha h
    go_enter Tryd.func28, Tryd.ntmps28
    go_wp2
    go_ret2
    exact ⟨rfl, rfl⟩
set_option maxRecDepth 100000 in
set_option maxHeartbeats 800000 in
theorem place_any (s : ByteArray) (i : Nat) (w : World) (hs : s.size ≤ 1000000) (hi : i ≤ s.size) : Calls Tryd.prog 27 #[.string s, .int .i64 i] w (PlcP (lc s i).1 (lc s i).2 w) := by
  have e1 := lc_count s i hi
  have e2 := lc_col hi
  have hle := lc_le s i
  obtain ⟨t, ht⟩ : ∃ t, t = s.extract 0 i := ⟨_, rfl⟩
  have hts : t.size ≤ 1000000 := by rw [ht, ByteArray.size_extract]; omega
  rw [← ht] at e1 e2
  obtain ⟨n, hn⟩ : ∃ n : Nat, n = Lib.countByte t.data.toList 10 := ⟨_, rfl⟩
  obtain ⟨m, hm⟩ : ∃ m : Int, m = Lib.lastIndexByte t 10 := ⟨_, rfl⟩
  have HC : Hid (∀ w, Calls Tryd.prog 40 #[.string t, .string ⟨#[10]⟩] w fun e w' => e = .returned (.int .i64 n) ∧ w = w') := hid_of (fun w => (sh_strings_Count_one t 10 w).mono fun e w' ⟨h1, h2⟩ => ⟨by rw [hn]; exact h1, h2.symm⟩)
  have HL : Hid (∀ w, Calls Tryd.prog 41 #[.string t, .int .u8 10] w fun e w' => e = .returned (.int .i64 m) ∧ w = w') := hid_of (fun w => (sh_strings_LastIndexByte t 10 (by omega) w).mono fun e w' ⟨h1, h2⟩ => ⟨by rw [hm]; exact h1, h2.symm⟩)
  rw [← hn] at e1
  rw [← hm] at e2
  have HE1 : Hid ((n : Int) + 1 = ((lc s i).1 : Int)) := hid_of (by omega)
  have HE2 : Hid ((i : Int) - m = ((lc s i).2 : Int)) := hid_of e2
  have HT := hid_of ht
  have b0 : (n : Int) ≤ 1000001 := by omega
  have b1 : (i : Int) ≤ (s.size : Int) := by omega
  have b2 : -1000001 ≤ m := by omega
  have b3 : m ≤ 1000001 := by omega
  have b4 : (s.size : Int) ≤ 1000000 := by omega
  have b5 : (0 : Int) ≤ (i : Int) := by omega
  have d2 : decide ((i : Int) < 0) = false := decide_eq_false (by omega)
  have d3 : decide (s.size < i) = false := decide_eq_false (by omega)
  clear e1 e2 hle ht hts hn hm hs hi
  go_enter Tryd.func27, Tryd.ntmps27
  go_wp2_with fail
  rw [← HT.out]
  go_wp2_with (first
    | (go_at_call 40; ((with_reducible refine (HC.out _).mono ?_); (rintro e w' ⟨rfl, rfl⟩)))
    | (go_at_call 41; ((with_reducible refine (HL.out _).mono ?_); (rintro e w' ⟨rfl, rfl⟩))))
  go_ret2
  exact ⟨by rw [HE1.out, HE2.out] <;> rfl, rfl⟩
set_option maxRecDepth 100000 in
set_option maxHeartbeats 800000 in
theorem rplace_any (s : ByteArray) (i : Nat) (w : World) (hs : s.size ≤ 1000000) (hi : i ≤ s.size) : Calls Tryd.prog 28 #[.string s, .int .i64 i] w (PlcP (lc s i).1 (lc s i).2 w) := by
  have HS := hid_of hs
  have HI := hid_of hi
  have b5 : (0 : Int) ≤ (i : Int) := by omega
  have d2 : decide ((i : Int) < 0) = false := decide_eq_false (by omega)
  have d3 : decide (s.size < i) = false := decide_eq_false (by omega)
  go_enter Tryd.func28, Tryd.ntmps28
  go_wp2
  go_loop [6, 7, 8] (fun lv cv kv => ∃ k : Nat, k ≤ i ∧ kv = .int .i64 k ∧ lv = .int .i64 (lc s k).1 ∧ cv = .int .i64 (lc s k).2) (fun _ _ kv => i - (intOf kv).toNat)
  case atStart => exact ⟨0, Nat.zero_le _, rfl, rfl, rfl⟩
  case round =>
    obtain ⟨k, hk, rfl, rfl, rfl⟩ := hrel
    have hle := lc_le s k
    by_cases hlt : k < i
    · have hlt2 : k < s.size := by omega
      have d1 : decide (k < i) = true := decide_eq_true hlt
      obtain ⟨x, hx⟩ : ∃ x : Int, x = ((s[k]).toNat : Int) := ⟨_, rfl⟩
      have hxs : ((s[k]).toNat : Int) = x := hx.symm
      have HX : gt s k = x := by rw [gt_lt hlt2, hx]
      by_cases h10 : x = 10
      · have d0 : (x == 10) = true := by rw [h10]; rfl
        have HQ := hid_of (lc_go (HX.trans h10))
        clear hx HX h10
        generalize lc s k = q at *
        obtain ⟨q1, q2⟩ := q
        dsimp only at hle HQ
        go_wp2
        go_round
        case rel => exact ⟨k + 1, by omega, by go_num, by rw [HQ.out]; go_num, by rw [HQ.out]; rfl⟩
        case measure => simp [intOf]; omega
      · have d0 : (x == 10) = false := by simpa using h10
        have HQ := hid_of (lc_no (fun h => h10 (HX.symm.trans h)))
        clear hx HX h10
        generalize lc s k = q at *
        obtain ⟨q1, q2⟩ := q
        dsimp only at hle HQ
        go_wp2
        go_round
        case rel => exact ⟨k + 1, by omega, by go_num, by rw [HQ.out], by rw [HQ.out]; go_num⟩
        case measure => simp [intOf]; omega
    · have d1 : decide (k < i) = false := decide_eq_false hlt
      obtain rfl : k = i := by omega
      go_wp2
      go_ret2
      exact ⟨rfl, rfl⟩
end Go.Proofs.YtdmjlmlmdllhgaaDoor
