/- Tokens and their spellings: plain mathematics. No condition. -/
import Derived.Test.YtdmjlmlmdllhgaaDoorLexShf
import Derived.Test.YtdmjlmlmdllhgaaDoorLexTxt
namespace Go.Proofs.YtdmjlmlmdllhgaaDoor

theorem nm_iff (x : ByteArray) : isName (strBytes x) = true ↔ 0 < x.size ∧ x.size ≤ 16 ∧ isl (gt x 0) = true ∧ ∀ j, j < x.size → inw (gt x j) = true := by
  rw [isName_iff, strBytes_length]
  constructor
  · rintro ⟨h1, h2, h3, h4⟩
    refine ⟨h1, h2, h3 _ (by rw [gt_lt h1]; exact strBytes_at x 0 h1), fun j hj => h4 j _ (by rw [gt_lt hj]; exact strBytes_at x j hj)⟩
  · rintro ⟨h1, h2, h3, h4⟩
    refine ⟨h1, h2, fun c hc => ?_, fun j c hc => ?_⟩
    · rw [strBytes_at x 0 h1, ← gt_lt h1] at hc; cases hc; exact h3
    · have hj : j < x.size := by have := (List.getElem?_eq_some_iff.1 hc).1; rw [strBytes_length] at this; exact this
      rw [strBytes_at x j hj, ← gt_lt hj] at hc; cases hc; exact h4 j hj
theorem ext_gt {s : ByteArray} {j k i : Nat} (hk : k ≤ s.size) (h : j + i < k) : gt (s.extract j k) i = gt s (j + i) := gt_extract hk h
theorem u8n {n : Nat} (h : n < 256) : (UInt8.ofNat n).toNat = n := by show n % 256 = n; omega
theorem app_list (a b : ByteArray) : (a ++ b).data.toList = a.data.toList ++ b.data.toList := by simp
/-- A row of digits without a needless zero in front is what its number is written as. -/
theorem dec_num : ∀ (k : Nat) (l : List UInt8), l.length = k → l ≠ [] → Digs l → (l.head? = some 48 → l.length = 1) → Lib.decDigits (numF l) = l := by
  intro k
  induction k with
  | zero => intro l hl h; exact absurd (List.length_eq_zero_iff.1 hl) h
  | succ k ih0 =>
    intro l0 hl0 hne hd h0
    obtain ⟨l, c, rfl⟩ : ∃ l c, l0 = l ++ [c] := by
      rcases List.eq_nil_or_concat l0 with h | ⟨l, c, h⟩
      · exact absurd h hne
      · exact ⟨l, c, by rw [h, List.concat_eq_append]⟩
    have ih := ih0 l (by simp at hl0; omega)
    have hc := hd c (by simp)
    have hn : numF (l ++ [c]) = 10 * numF l + (c.toNat - 48) := by unfold numF; rw [List.foldl_append]; rfl
    have hu : UInt8.ofNat (48 + (c.toNat - 48)) = c := by
      apply UInt8.toNat_inj.1
      rw [u8n (by omega)]
      omega
    cases l with
    | nil =>
      rw [hn]
      have h1 : numF [] = 0 := rfl
      rw [h1, show 10 * 0 + (c.toNat - 48) = c.toNat - 48 by omega, Lib.decDigits_one (by omega), hu]
      rfl
    | cons x l =>
      have hx0 : x ≠ 48 := fun h => by subst h; have := h0 rfl; simp at this
      have hx := hd x (by simp)
      have h1 : Lib.decDigits (numF (x :: l)) = x :: l := ih (by simp) (fun y hy => hd y (by simp at hy ⊢; rcases hy with h | h <;> simp [h])) (fun h => by simp at h; exact absurd h hx0)
      have hp : 1 ≤ numF (x :: l) := by
        rw [numF_eq, numA_cons]
        have := numA_ge l (10 * 0 + (x.toNat - 48))
        have : x.toNat ≠ 48 := fun h => hx0 (UInt8.toNat_inj.1 h)
        omega
      rw [hn, Lib.decDigits, dif_neg (by omega), show (10 * numF (x :: l) + (c.toNat - 48)) / 10 = numF (x :: l) by omega, show (10 * numF (x :: l) + (c.toNat - 48)) % 10 = c.toNat - 48 by omega, h1, hu]
/-- What the digits of a number are. -/
theorem num_dec : ∀ n : Nat, Lib.decDigits n ≠ [] ∧ Digs (Lib.decDigits n) ∧ numF (Lib.decDigits n) = n ∧ ((Lib.decDigits n).head? = some 48 → (Lib.decDigits n).length = 1) := by
  intro n
  induction n using Nat.strongRecOn with
  | _ n ih =>
    by_cases h : n < 10
    · rw [Lib.decDigits_one h]
      refine ⟨by simp, ?_, ?_, fun _ => rfl⟩
      · intro c hc
        simp only [List.mem_singleton] at hc
        subst hc
        rw [u8n (by omega)]
        omega
      · show 10 * 0 + ((UInt8.ofNat (48 + n)).toNat - 48) = n
        rw [u8n (by omega)]
        omega
    · obtain ⟨h1, h2, h3, h4⟩ := ih (n / 10) (by omega)
      rw [Lib.decDigits, dif_neg h]
      have hcn : (UInt8.ofNat (48 + n % 10)).toNat = 48 + n % 10 := u8n (by omega)
      refine ⟨by simp, ?_, ?_, ?_⟩
      · intro c hc
        rcases List.mem_append.1 hc with hc | hc
        · exact h2 c hc
        · simp only [List.mem_singleton] at hc
          subst hc
          omega
      · unfold numF at h3 ⊢
        rw [List.foldl_append, h3]
        show 10 * (n / 10) + ((UInt8.ofNat (48 + n % 10)).toNat - 48) = n
        omega
      · intro h5
        rw [List.head?_append] at h5
        cases hl : Lib.decDigits (n / 10) with
        | nil => exact absurd hl h1
        | cons x l =>
          rw [hl] at h5 h4 h3
          have h6 : x = 48 := by simpa using h5
          have h7 := h4 (by rw [h6]; rfl)
          have h8 : l = [] := by simpa using h7
          subst h8 h6
          have : n / 10 = 0 := h3.symm
          omega
theorem dig_iff {c : Int} : dig c = true ↔ 48 ≤ c ∧ c ≤ 57 := by simp [dig]
theorem ext_last {s : ByteArray} {j k : Nat} (h : j < k) (hk : k ≤ s.size) : s.extract j (k + 1) = s.extract j k ++ s.extract k (k + 1) := by
  apply ba_ext
  rw [app_list, ex_list, ex_list, ex_list]
  by_cases hks : k < s.size
  · rw [List.take_succ_eq_append_getElem (by simpa using hks), List.drop_append_of_le_length (by simp; omega), List.drop_append_of_le_length (by simp; omega)]
    congr 1
    rw [List.drop_eq_nil_iff.2 (by simp; omega)]
    rfl
  · rw [List.take_of_length_le (by simp; omega), List.take_of_length_le (by simp; omega), List.drop_eq_nil_iff.2 (show s.data.toList.length ≤ k by simp; omega)]
    simp
theorem ext_one {s : ByteArray} {k : Nat} {c : UInt8} (h : gt s k = c.toNat) : s.extract k (k + 1) = ⟨#[c]⟩ := by
  have hk : k < s.size := gt_in (by rw [h]; omega)
  apply ba_ext
  rw [ex_list, List.take_succ_eq_append_getElem (by simpa using hk), List.drop_append_of_le_length (by simp; omega), List.drop_eq_nil_iff.2 (by simp; omega)]
  rw [gt_lt hk] at h
  have h2 : s[k] = c := UInt8.toNat_inj.1 (by omega)
  show [s[k]] = [c]
  rw [h2]
/-- What is read is possible, and is written as it stands in the source. -/
theorem tok_spell {s : ByteArray} {j : Nat} (hj : j < s.size) (hc : (tokF s j).code = 0) (p : Int) :
    okF ⟨(tokF s j).kind, (tokF s j).text, (tokF s j).n, p⟩ = true ∧ spell ⟨(tokF s j).kind, (tokF s j).text, (tokF s j).n, p⟩ = s.extract j (tokF s j).stop := by
  unfold tokF at hc ⊢
  by_cases h1 : isl (gt s j) = true
  · rw [if_pos h1] at hc ⊢
    unfold wordF at hc ⊢
    have hw := run_ge inw s j
    have hle : we s j ≤ s.size := run_le (Nat.le_of_lt hj)
    have hjw : j < we s j := run_gt (by simp [inw, h1]) hj
    by_cases h2 : 16 < we s j - j
    · rw [if_pos h2] at hc; cases hc
    · rw [if_neg h2] at hc ⊢
      by_cases h3 : kw (s.extract j (we s j)) = true
      · rw [if_pos h3]
        exact ⟨by rw [ok2, h3]; rfl, rfl⟩
      · rw [if_neg h3]
        refine ⟨?_, rfl⟩
        have h4 : isName (strBytes (s.extract j (we s j))) = true := by
          rw [nm_iff]
          have hz : (s.extract j (we s j)).size = we s j - j := by rw [ByteArray.size_extract]; omega
          refine ⟨by omega, by omega, by rw [ext_gt hle (by omega), Nat.add_zero]; exact h1, fun i hi => ?_⟩
          rw [ext_gt hle (by omega)]
          exact (runF_spec (p := inw) s _ j rfl).2.2.2 (j + i) (by omega) (by show j + i < we s j; omega)
        rw [ok1, h4, show kw (s.extract j (we s j)) = false by simpa using h3]
        rfl
  · rw [if_neg h1] at hc ⊢
    by_cases h2 : dig (gt s j) = true
    · rw [if_pos h2] at hc ⊢
      unfold intF at hc ⊢
      have hle : de s j ≤ s.size := run_le (Nat.le_of_lt hj)
      have hjw : j < de s j := run_gt h2 hj
      by_cases h3 : gt s j = 48 ∧ 1 < de s j - j
      · rw [if_pos h3] at hc; cases hc
      · rw [if_neg h3] at hc ⊢
        by_cases h4 : 1000000000000000 < numS (s.extract j (de s j))
        · rw [if_pos h4] at hc; cases hc
        · rw [if_neg h4]
          refine ⟨by rw [ok3]; exact decide_eq_true ⟨rfl, (show (0 : Int) ≤ ((numS (s.extract j (de s j)) : Nat) : Int) by omega), (show ((numS (s.extract j (de s j)) : Nat) : Int) ≤ 1000000000000000 by omega)⟩, ?_⟩
          show (⟨(Lib.itoa ((numS (s.extract j (de s j)) : Nat) : Int)).toArray⟩ : ByteArray) = _
          apply ba_ext
          have h5 : Lib.itoa ((numS (s.extract j (de s j)) : Nat) : Int) = Lib.decDigits (numS (s.extract j (de s j))) := by
            unfold Lib.itoa; rw [if_neg (by omega)]; rfl
          have hz : (s.extract j (de s j)).size = de s j - j := by rw [ByteArray.size_extract]; omega
          have hne : (s.extract j (de s j)).data.toList ≠ [] := fun h => by
            have := sz_list (s.extract j (de s j)); rw [h] at this; simp at this; omega
          rw [h5]
          unfold numS
          rw [dec_num _ _ rfl hne (digs_run (Nat.le_of_lt hj)) (fun h => ?_)]
          · rw [sz_list, hz]
            have h6 : gt (s.extract j (de s j)) 0 = 48 := by
              have := byte_at (s := s.extract j (de s j)) (j := 0) (c := 48) (by rw [← List.head?_eq_getElem?]; exact h)
              rw [this]; rfl
            rw [ext_gt hle (by omega), Nat.add_zero] at h6
            by_cases h7 : 1 < de s j - j
            · exact absurd ⟨h6, h7⟩ h3
            · omega
    · rw [if_neg h2] at hc ⊢
      by_cases h3 : gt s j = 39
      · rw [if_pos h3] at hc ⊢
        unfold quoF at hc ⊢
        have hge : j + 1 ≤ we s (j + 1) := run_ge _ _ _
        by_cases h4 : gt s (we s (j + 1)) ≠ 39
        · rw [if_pos h4] at hc; cases hc
        · rw [if_neg h4] at hc ⊢
          have h4' : gt s (we s (j + 1)) = 39 := by simpa using h4
          have hlt := gt_in (s := s) (i := we s (j + 1)) (by rw [h4']; decide)
          by_cases h5 : isName (strBytes (s.extract (j + 1) (we s (j + 1)))) = false
          · rw [if_pos h5] at hc; cases hc
          · rw [if_neg h5]
            refine ⟨by rw [ok4, show isName (strBytes (s.extract (j + 1) (we s (j + 1)))) = true by simpa using h5]; rfl, ?_⟩
            show (⟨#[39]⟩ : ByteArray) ++ s.extract (j + 1) (we s (j + 1)) ++ ⟨#[39]⟩ = s.extract j (we s (j + 1) + 1)
            rw [ext_last (by omega) (by omega), ext_one (c := 39) (by rw [h4']; rfl)]
            congr 1
            apply ba_ext
            rw [app_list, ex_list, ex_list]
            have h6 : s.data.toList[j]'(by simpa using hj) = 39 := by
              rw [gt_lt hj] at h3
              exact UInt8.toNat_inj.1 (by show (s[j]).toNat = 39; omega)
            have h7 : j < (s.data.toList.take (we s (j + 1))).length := by simp; omega
            rw [List.drop_eq_getElem_cons h7, List.getElem_take, h6]
            rfl
      · rw [if_neg h3] at hc ⊢
        unfold sigF at hc ⊢
        split
        · rename_i h4
          exact ⟨by rw [ok5, h4.2]; rfl, rfl⟩
        · rename_i h4
          rw [if_neg h4] at hc
          split
          · rename_i h5
            exact ⟨by rw [ok5, h5]; rfl, rfl⟩
          · rename_i h5
            rw [if_neg h5] at hc; cases hc
end Go.Proofs.YtdmjlmlmdllhgaaDoor
