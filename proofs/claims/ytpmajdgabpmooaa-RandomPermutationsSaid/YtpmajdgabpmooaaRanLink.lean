/- The ranks that the loops compute are the ranks of the mathematics. Bounds on sizes alone. -/
import Derived.Test.YtpmajdgabpmooaaRanSub
import Derived.Test.YtpmajdgabpmooaaRanRankW
namespace Go.Proofs.Ytpmajdgabpmooaa
open Go.RowKit

theorem toNats {L : List Int} (h : ∀ x ∈ L, 0 ≤ x) : ∃ l : List Nat, L = nI l := by
  refine ⟨L.map Int.toNat, ?_⟩
  unfold nI
  rw [List.map_map]
  refine (List.map_id L).symm.trans (List.map_congr_left fun x hx => ?_)
  have := h x hx
  simp; omega
theorem nextAt_nI (l : List Nat) (i : Nat) : nextAt (nI l) i = ((if i = 0 then 0 else l.getD (i - 1) 0 + 1 : Nat) : Int) := by
  unfold nextAt
  by_cases h : i = 0
  · simp [h]
  · rw [if_neg h, if_neg h, nI_at]; push_cast; rfl
def nxN (l : List Nat) (i : Nat) : Nat := if i = 0 then 0 else l.getD (i - 1) 0 + 1
theorem incL_of : ∀ (l : List Nat) (n v : Nat), (∀ i, i < l.length → (if i = 0 then v else l.getD (i - 1) 0 + 1) ≤ l.getD i 0 ∧ l.getD i 0 < n) → incL n v l := by
  intro l; induction l with
  | nil => intro _ _ _; trivial
  | cons a l ih =>
    intro n v h
    obtain ⟨h1, h2⟩ := h 0 (by simp)
    refine ⟨by simpa using h1, by simpa using h2, ih n (a + 1) fun i hi => ?_⟩
    have h3 := h (i + 1) (by simpa using hi)
    simp only [List.getD_cons_succ, Nat.add_sub_cancel, Nat.add_one_ne_zero, if_false] at h3
    cases i with
    | zero => simpa using h3
    | succ i => simpa using h3
theorem incL_to : ∀ (l : List Nat) (n v : Nat), incL n v l → ∀ i, i < l.length → (if i = 0 then v else l.getD (i - 1) 0 + 1) ≤ l.getD i 0 ∧ l.getD i 0 < n := by
  intro l; induction l with
  | nil => intro _ _ _ i hi; simp at hi
  | cons a l ih =>
    intro n v h i hi
    obtain ⟨h1, h2, h3⟩ := h
    cases i with
    | zero => exact ⟨by simpa using h1, by simpa using h2⟩
    | succ i =>
      have := ih n (a + 1) h3 i (by simpa using hi)
      simp only [List.getD_cons_succ, Nat.add_sub_cancel, Nat.add_one_ne_zero, if_false]
      cases i with
      | zero => simpa using this
      | succ i => simpa using this
theorem incTo_open {n : Nat} {L : List Int} (h : incTo (n : Int) L L.length) : ∃ l : List Nat, L = nI l ∧ incL n 0 l := by
  have h0 : ∀ x ∈ L, 0 ≤ x := by
    intro x hx
    obtain ⟨i, hi, e⟩ := List.getElem_of_mem hx
    have a := (h i hi).1
    have b := (inc_pos (k := i) (fun j hj => h j (by omega))).1
    have c : L.getD i 0 = x := by simp [List.getD, hi, e]
    rw [c] at a
    have d : nextAt L i ≤ x := a
    omega
  obtain ⟨l, rfl⟩ := toNats h0
  refine ⟨l, rfl, incL_of l n 0 fun i hi => ?_⟩
  obtain ⟨a, b⟩ := h i (by rw [nI_length]; exact hi)
  have a2 : nextAt (nI l) i ≤ (nI l).getD i 0 := a
  rw [nextAt_nI, nI_at] at a2
  rw [nI_at] at b
  exact ⟨by omega, by omega⟩
theorem incTo_mk {n : Nat} {l : List Nat} (h : incL n 0 l) : incTo (n : Int) (nI l) (nI l).length := by
  intro i hi
  rw [nI_length] at hi
  obtain ⟨a, b⟩ := incL_to l n 0 h i hi
  have e := nextAt_nI l i
  unfold nextAt at e
  rw [e, nI_at]
  exact ⟨by omega, by omega⟩
theorem sumC_le (n k v : Nat) : ∀ j, sumC n k v j ≤ sumC n k v (j + 1) := by intro j; rw [sumC]; omega
theorem addTo_eq (n k r v : Nat) : ∀ j, r + sumC n k v j < 18446744073709551616 → addTo n (k : Int) r v j = r + sumC n k v j := by
  intro j; induction j with
  | zero => intro _; rfl
  | succ j ih =>
    intro h
    have h1 := sumC_le n k v j
    rw [addTo, ih (by omega), chI_nat]
    rw [sumC] at h ⊢
    omega
theorem rsI_inv (n : Nat) (l : List Nat) (hn : n ≤ 60) (h : incL n 0 l) : ∀ i, i ≤ l.length → rsI n (nI l) i + rs n (nxN l i) (l.drop i) = rs n 0 l := by
  intro i; induction i with
  | zero => intro _; simp [rsI, nxN]
  | succ i ih =>
    intro hi
    have h1 := ih (by omega)
    have hb := rs_lt l n 0 h (by omega)
    have hm := chN_max (n := n) (k := l.length) hn
    have hd : l.drop i = l.getD i 0 :: l.drop (i + 1) := by
      rw [List.drop_eq_getElem_cons (show i < l.length by omega), getD_lt (show i < l.length by omega)]
    have hlen : (l.drop (i + 1)).length = l.length - 1 - i := by rw [List.length_drop]; omega
    have e1 : (nextAt (nI l) i).toNat = nxN l i := by rw [nextAt_nI]; unfold nxN; omega
    have e2 : ((nI l).getD i 0).toNat = l.getD i 0 := by rw [nI_at]; omega
    have e3 : ((nI l).length : Int) - 1 - i = ((l.length - 1 - i : Nat) : Int) := by rw [nI_length]; omega
    have e4 : nxN l (i + 1) = l.getD i 0 + 1 := by simp [nxN]
    rw [hd, rs, hlen] at h1
    rw [rsI, e1, e2, e3, e4, addTo_eq _ _ _ _ _ (by rw [Nat.sub_zero] at hb; omega)]
    omega
theorem rsI_all (n : Nat) (l : List Nat) (hn : n ≤ 60) (h : incL n 0 l) : rsI n (nI l) l.length = rs n 0 l := by
  have := rsI_inv n l hn h l.length (Nat.le_refl _)
  simpa [rs] using this
theorem rs_lt64 {n : Nat} {l : List Nat} (hn : n ≤ 60) (h : incL n 0 l) : rs n 0 l < chN n l.length := by
  have := rs_lt l n 0 h (by omega)
  rwa [Nat.sub_zero] at this

theorem cntI_nI (a : Nat) (l : List Nat) : cntI (a : Int) (nI l) = cntLt a l := by
  unfold cntI cntLt nI
  induction l with
  | nil => rfl
  | cons b l ih =>
    rw [List.map_cons, List.filter_cons, List.filter_cons]
    by_cases h : b < a
    · rw [if_pos (by simpa using h), if_pos (by simpa using h), List.length_cons, List.length_cons, ih]
    · rw [if_neg (by simpa using h), if_neg (by simpa using h), ih]
theorem fac20 {n : Nat} (h : n ≤ 20) : fac n ≤ 2432902008176640000 := by
  have : ∀ m k, fac k ≤ fac (k + m) := by
    intro m; induction m with
    | zero => intro k; exact Nat.le_refl _
    | succ m ih => intro k; refine Nat.le_trans (ih k) ?_; rw [← Nat.add_assoc, fac]; exact Nat.le_mul_of_pos_left _ (by omega)
  have h2 := this (20 - n) n
  rw [show n + (20 - n) = 20 by omega] at h2
  exact h2
theorem rkM_inv (l : List Nat) (hl : l.length ≤ 20) : ∀ i, i ≤ l.length → rkM (nI l) i = rkTo l i := by
  intro i; induction i with
  | zero => intro _; rfl
  | succ i ih =>
    intro h
    have h1 := ih (by omega)
    have h2 := rkTo_inv l (i + 1) h
    have h3 := rk_lt l
    have h4 := fac20 hl
    have h5 := fac_pos (l.length - (i + 1))
    have h6 : rkTo l (i + 1) ≤ rkTo l (i + 1) * fac (l.length - (i + 1)) := Nat.le_mul_of_pos_right _ h5
    have e : (nI l).drop (i + 1) = nI (l.drop (i + 1)) := by simp [nI, List.map_drop]
    rw [rkM, h1, nI_length, nI_at, e, cntI_nI]
    rw [rkTo] at h2 h6 ⊢
    generalize rkTo l i * (l.length - i) = A at *
    generalize cntLt (l.getD i 0) (List.drop (i + 1) l) = B at *
    omega
theorem rkM_all (l : List Nat) (hl : l.length ≤ 20) : rkM (nI l) l.length = rk l := by
  rw [rkM_inv l hl _ (Nat.le_refl _), rkTo_all]
theorem okTo_open {L : List Int} (h : okTo L L.length) : ∃ l : List Nat, L = nI l ∧ PermF l l.length := by
  have h0 : ∀ x ∈ L, 0 ≤ x := by
    intro x hx
    obtain ⟨i, hi, e⟩ := List.getElem_of_mem hx
    have a := (h i hi).1
    have c : L.getD i 0 = x := by simp [List.getD, hi, e]
    omega
  obtain ⟨l, rfl⟩ := toNats h0
  refine ⟨l, rfl, rfl, fun a ha => ?_, fun a b ha hb e => ?_⟩
  · have := (h a (by rw [nI_length]; exact ha)).2.1
    rw [nI_at, nI_length] at this; omega
  · rcases Nat.lt_trichotomy a b with h1 | h1 | h1
    · have := (h b (by rw [nI_length]; exact hb)).2.2 a h1
      rw [nI_at, nI_at] at this; omega
    · exact h1
    · have := (h a (by rw [nI_length]; exact ha)).2.2 b h1
      rw [nI_at, nI_at] at this; omega
/-- The lexicographic order of lists of ints. -/
def lessI : List Int → List Int → Prop
  | [], [] => False
  | [], _ :: _ => True
  | _ :: _, [] => False
  | a :: l, b :: m => a < b ∨ a = b ∧ lessI l m
theorem lessI_nI : ∀ l m : List Nat, lessI (nI l) (nI m) ↔ lessN l m := by
  intro l; induction l with
  | nil => intro m; cases m <;> simp [nI, lessI, lessN]
  | cons a l ih =>
    intro m
    cases m with
    | nil => simp [nI, lessI, lessN]
    | cons b m =>
      have h1 : nI (a :: l) = (a : Int) :: nI l := rfl
      have h2 : nI (b :: m) = (b : Int) :: nI m := rfl
      rw [h1, h2, lessI, lessN, ih m]
      constructor
      · rintro (h | ⟨h, h3⟩)
        · exact .inl (by omega)
        · exact .inr ⟨by omega, h3⟩
      · rintro (h | ⟨h, h3⟩)
        · exact .inl (by omega)
        · exact .inr ⟨by omega, h3⟩
end Go.Proofs.Ytpmajdgabpmooaa
