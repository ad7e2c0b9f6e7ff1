/- Two sources that agree up to a place: plain mathematics. No condition. -/
import Derived.Test.YtdmjlmlmdllhgaaDoorLexNum
import Derived.Test.YtdmjlmlmdllhgaaDoorLexMat2
namespace Go.Proofs.YtdmjlmlmdllhgaaDoor

/-- u agrees with s in front of place p; at p it ends or has a blank. -/
structure Agr (s u : ByteArray) (p : Nat) : Prop where
  ls : p ≤ s.size
  lu : p ≤ u.size
  ex : ∀ j k, k ≤ p → u.extract j k = s.extract j k
  stop : gt u p = -1 ∨ gt u p = 32
section
variable {s u : ByteArray} {p : Nat}
theorem Agr.ch (h : Agr s u p) {i : Nat} (hi : i < p) : gt u i = gt s i := by
  have h1 : gt (u.extract i (i + 1)) 0 = gt u i := gt_extract (s := u) (i := i) (j := 0) (k := i + 1) (by have := h.lu; omega) (by omega)
  have h2 : gt (s.extract i (i + 1)) 0 = gt s i := gt_extract (s := s) (i := i) (j := 0) (k := i + 1) (by have := h.ls; omega) (by omega)
  rw [← h1, ← h2, h.ex i (i + 1) (by omega)]
/-- A run is what it is. -/
theorem run_eq {q : Int → Bool} {s : ByteArray} {i k : Nat} (hik : i ≤ k) (hks : k ≤ s.size) (hall : ∀ j, i ≤ j → j < k → q (gt s j) = true) (hend : k < s.size → q (gt s k) = false) : runF q s i = k := by
  obtain ⟨h1, h2, h3, h4⟩ := runF_spec (p := q) s _ i rfl
  have h5 := h3 (by omega)
  by_cases a : runF q s i < k
  · have := h1 (by omega); rw [hall _ h2 a] at this; cases this
  · by_cases b : k < runF q s i
    · have := hend (by omega); rw [h4 k hik b] at this; cases this
    · omega
/-- A test that no blank and no end passes. -/
def Stops (q : Int → Bool) : Prop := q (-1) = false ∧ q 32 = false
theorem Agr.run {q : Int → Bool} (h : Agr s u p) (hq : Stops q) {i : Nat} (_ : i ≤ p) (hr : runF q s i ≤ p) : runF q u i = runF q s i := by
  obtain ⟨h1, h2, h3, h4⟩ := runF_spec (p := q) s _ i rfl
  refine run_eq h2 (by have := h.lu; omega) (fun j hj hk => by rw [h.ch (by omega)]; exact h4 j hj hk) (fun hk => ?_)
  by_cases e : runF q s i < p
  · rw [h.ch e]; exact h1 (by have := h.ls; omega)
  · rw [show runF q s i = p by omega]
    rcases h.stop with h5 | h5 <;> rw [h5]
    · exact hq.1
    · exact hq.2
theorem inw_stops : Stops inw := ⟨by rfl, by rfl⟩
theorem dig_stops : Stops dig := ⟨by rfl, by rfl⟩
/-- Blanks and comments in front of place p. -/
theorem Agr.sk_two (h : Agr s u p) : ∀ d i, p - i = d → i ≤ p → ((sk s i < p → sk u i = sk s i) ∧ (p ≤ sk s i → sk u i = sk u p ∨ sk u i = skT u p)) ∧ ((skT s i < p → skT u i = skT s i) ∧ (p ≤ skT s i → skT u i = sk u p ∨ skT u i = skT u p)) := by
  intro d; induction d with
  | zero =>
    intro i hd hi
    obtain rfl : i = p := by omega
    have h1 := (Go.Proofs.YtdmjlmlmdllhgaaDoor.sk_two s _ i rfl).1.1
    have h2 := (Go.Proofs.YtdmjlmlmdllhgaaDoor.sk_two s _ i rfl).2.1
    exact ⟨⟨fun h => by omega, fun _ => .inl rfl⟩, ⟨fun h => by omega, fun _ => .inr rfl⟩⟩
  | succ d ih =>
    intro i hd hi
    have hip : i < p := by omega
    have his : i < s.size := by have := h.ls; omega
    have hiu : i < u.size := by have := h.lu; omega
    have hg := h.ch hip
    obtain ⟨⟨a1, a2⟩, ⟨b1, b2⟩⟩ := ih (i + 1) (by omega) (by omega)
    have A : (sk s i < p → sk u i = sk s i) ∧ (p ≤ sk s i → sk u i = sk u p ∨ sk u i = skT u p) := by
      by_cases hb : blk (gt s i) = true
      · rw [sk_blk his hb, sk_blk hiu (by rw [hg]; exact hb)]; exact ⟨a1, a2⟩
      · by_cases hh : gt s i = 35
        · rw [sk_hash0 hh, sk_hash0 (by rw [hg]; exact hh)]; exact ⟨b1, b2⟩
        · rw [sk_stop (by simpa using hb) hh, sk_stop (by rw [hg]; simpa using hb) (by rw [hg]; exact hh)]
          exact ⟨fun _ => rfl, fun h => by omega⟩
    refine ⟨A, ?_⟩
    by_cases hn : gt s i = 10
    · rw [skT_nl hn, skT_nl (by rw [hg]; exact hn)]; exact A
    · rw [skT_go his hn, skT_go hiu (by rw [hg]; exact hn)]; exact ⟨b1, b2⟩
theorem Agr.sk_lt (h : Agr s u p) {i : Nat} (hi : i ≤ p) (hs : sk s i < p) : sk u i = sk s i := (h.sk_two _ i rfl hi).1.1 hs
theorem Agr.sk_ge (h : Agr s u p) {i : Nat} (hi : i ≤ p) (hs : p ≤ sk s i) : sk u i = sk u p ∨ sk u i = skT u p := (h.sk_two _ i rfl hi).1.2 hs
theorem sgn_two {x : ByteArray} (h : sgn x = true) : x.size = 1 ∨ x.size = 2 := by
  rw [sgn, among_iff] at h
  simp only [SG, List.mem_cons, List.not_mem_nil, or_false] at h
  rcases h with h | h | h | h | h | h | h | h | h | h | h | h | h | h | h | h | h <;> subst h <;> first | exact .inl rfl | exact .inr rfl
/-- No sign holds a blank. -/
theorem sgn_blank {x : ByteArray} (h : sgn x = true) (i : Nat) (hi : i < x.size) : gt x i ≠ 32 := by
  rw [sgn, among_iff] at h
  simp only [SG, List.mem_cons, List.not_mem_nil, or_false] at h
  rcases h with h | h | h | h | h | h | h | h | h | h | h | h | h | h | h | h | h <;> subst h <;> (intro h2; first | (have : i = 0 := by (have h3 : i < 1 := hi); omega) | (have : i = 0 ∨ i = 1 := by (have h3 : i < 2 := hi); omega)) <;> first | (subst this; revert h2; decide) | (rcases this with e | e <;> subst e <;> revert h2 <;> decide)
theorem Agr.sig (h : Agr s u p) {j : Nat} (hj : j < p) (hc : (sigF s j).code = 0) (hst : (sigF s j).stop ≤ p) : sigF u j = sigF s j := by
  have hls := h.ls
  have hlu := h.lu
  unfold sigF at hc hst ⊢
  by_cases h2 : 2 ≤ s.size - j ∧ sgn (s.extract j (j + 2)) = true
  · rw [if_pos h2] at hst ⊢
    have h3 : j + 2 ≤ p := hst
    rw [if_pos ⟨by omega, by rw [h.ex _ _ h3]; exact h2.2⟩, h.ex _ _ h3]
  · rw [if_neg h2] at hc hst ⊢
    by_cases h1 : sgn (s.extract j (j + 1)) = true
    · rw [if_pos h1] at hst ⊢
      have h3 : j + 1 ≤ p := hst
      have h4 : ¬ (2 ≤ u.size - j ∧ sgn (u.extract j (j + 2)) = true) := by
        rintro ⟨q1, q2⟩
        by_cases e : j + 2 ≤ p
        · rw [h.ex _ _ e] at q2; exact h2 ⟨by omega, q2⟩
        · obtain rfl : p = j + 1 := by omega
          rcases h.stop with h5 | h5
          · rw [gt_lt (show j + 1 < u.size by omega)] at h5; omega
          · refine sgn_blank q2 1 (by rw [ByteArray.size_extract]; omega) ?_
            rw [gt_extract (by omega) (by omega)]; exact h5
      rw [if_neg h4, h.ex _ _ h3, if_pos h1]
    · rw [if_neg h1] at hc; cases hc
theorem Agr.tok (h : Agr s u p) {j : Nat} (hj : j < p) (hc : (tokF s j).code = 0) (hst : (tokF s j).stop ≤ p) : tokF u j = tokF s j := by
  have hg := h.ch hj
  have hls := h.ls
  unfold tokF at hc hst ⊢
  rw [hg]
  by_cases h1 : isl (gt s j) = true
  · rw [if_pos h1] at hc hst ⊢
    rw [if_pos h1]
    unfold wordF at hc hst ⊢
    by_cases h2 : 16 < we s j - j
    · rw [if_pos h2] at hc; cases hc
    · rw [if_neg h2] at hst
      have hw : we s j ≤ p := by
        by_cases h3 : kw (s.extract j (we s j)) = true
        · rw [if_pos h3] at hst; exact hst
        · rw [if_neg h3] at hst; exact hst
      have hr : we u j = we s j := h.run inw_stops (by omega) hw
      rw [hr, h.ex _ _ hw]
  · rw [if_neg h1] at hc hst ⊢
    rw [if_neg h1]
    by_cases h2 : dig (gt s j) = true
    · rw [if_pos h2] at hc hst ⊢
      rw [if_pos h2]
      unfold intF at hc hst ⊢
      by_cases h3 : gt s j = 48 ∧ 1 < de s j - j
      · rw [if_pos h3] at hc; cases hc
      · rw [if_neg h3] at hc hst
        by_cases h4 : 1000000000000000 < numS (s.extract j (de s j))
        · rw [if_pos h4] at hc; cases hc
        · rw [if_neg h4] at hst
          have hr : de u j = de s j := h.run dig_stops (by omega) hst
          rw [hr, hg, h.ex _ _ hst]
    · rw [if_neg h2] at hc hst ⊢
      rw [if_neg h2]
      by_cases h3 : gt s j = 39
      · rw [if_pos h3] at hc hst ⊢
        rw [if_pos h3]
        unfold quoF at hc hst ⊢
        by_cases h4 : gt s (we s (j + 1)) ≠ 39
        · rw [if_pos h4] at hc; cases hc
        · rw [if_neg h4] at hc hst
          by_cases h5 : isName (strBytes (s.extract (j + 1) (we s (j + 1)))) = false
          · rw [if_pos h5] at hc; cases hc
          · rw [if_neg h5] at hst
            have hw : we s (j + 1) + 1 ≤ p := hst
            have hr : we u (j + 1) = we s (j + 1) := h.run inw_stops (by omega) (by show we s (j + 1) ≤ p; omega)
            rw [hr, h.ch (show we s (j + 1) < p by omega), h.ex _ _ (show we s (j + 1) ≤ p by omega)]
      · rw [if_neg h3] at hc hst ⊢
        rw [if_neg h3]
        exact h.sig hj hc hst
/-- A token that ends in front of place p is read from both. -/
theorem Agr.next (h : Agr s u p) {a : Nat} (ha : a ≤ p) (hsk : sk s a < p) (hc : (nextF s a).code = 0) (hst : (nextF s a).stop ≤ p) : sk u a = sk s a ∧ nextF u a = nextF s a := by
  have h1 := h.sk_lt ha hsk
  have hls := h.ls
  have hlu := h.lu
  have h2 : sk s a ≠ s.size := by omega
  refine ⟨h1, ?_⟩
  rw [next_tok h2] at hc hst ⊢
  rw [next_tok (by rw [h1]; omega), h1]
  exact h.tok hsk hc hst
end
/-- The source in front of a place. -/
theorem agr_pre {s : ByteArray} {p : Nat} (hp : p ≤ s.size) : Agr s (s.extract 0 p) p := by
  have hz : (s.extract 0 p).size = p := by rw [ByteArray.size_extract]; omega
  refine ⟨hp, by omega, fun j k hk => ?_, .inl (gt_ge (by omega))⟩
  apply ByteArray.ext
  apply Array.ext'
  simp only [ByteArray.data_extract, Array.toList_extract, List.extract_eq_take_drop, Nat.sub_zero, List.drop_zero]
  rw [List.drop_take, List.take_take]
  congr 1
  omega
/-- What is in front of the place of a fault is read without a fault, and ends there. -/
theorem lx_prefix {s : ByteArray} {p : Nat} (hp : p ≤ s.size) : ∀ d a, s.size - a = d → a ≤ p → (Lx s a).2.1 ≠ 0 → (Lx s a).2.2 = p → ∃ l, Lx (s.extract 0 p) a = (l ++ [⟨6, ⟨#[]⟩, 0, p⟩], 0, 0) := by
  have hz : (s.extract 0 p).size = p := by rw [ByteArray.size_extract]; omega
  have A := agr_pre hp
  intro d
  induction d using Nat.strongRecOn with
  | _ d ih =>
    intro a hd ha hc hq
    have hs : a ≤ s.size := by omega
    by_cases h1 : (nextF s a).code = 0
    · by_cases h2 : sk s a = s.size
      · rw [lx_end h2] at hc; exact absurd rfl hc
      · have h3 := next_stop hs h2 h1
        rw [lx_tok hs h2 h1, pre] at hc hq
        by_cases h4 : (Lx s (nextF s a).stop).2.1 ≠ 0
        · rw [if_pos h4] at hq
          have h5 := (lx_ok s _ (nextF s a).stop rfl h3.2.2.1).2.1 h4
          have h6 : (nextF s a).stop ≤ p := by rw [← hq]; exact h5.2.1
          obtain ⟨l, hl⟩ := ih (s.size - (nextF s a).stop) (by omega) (nextF s a).stop rfl h6 h4 hq
          obtain ⟨e1, e2⟩ := A.next ha (by omega) h1 h6
          refine ⟨tkOf (s.extract 0 p) a :: l, ?_⟩
          rw [lx_tok (by omega) (by rw [e1, hz]; omega) (by rw [e2]; exact h1), e2, hl]
          rfl
        · rw [if_neg h4] at hc; exact absurd rfl hc
    · rw [lx_bad h1] at hq
      have h5 : sk s a = p := hq
      have h6 : sk (s.extract 0 p) a = (s.extract 0 p).size := by
        rw [hz]
        rcases A.sk_ge ha (by omega) with e | e
        · rw [e]; exact sk_end (by omega)
        · rw [e]; exact skT_end (by omega)
      refine ⟨[], ?_⟩
      rw [lx_end h6, hz]
      rfl
end Go.Proofs.YtdmjlmlmdllhgaaDoor
