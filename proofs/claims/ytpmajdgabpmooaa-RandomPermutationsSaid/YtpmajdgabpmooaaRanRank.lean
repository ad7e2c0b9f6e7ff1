/- Ranks of permutations by Lehmer's code, and their inverse. No condition. -/
import Derived.Test.YtpmajdgabpmooaaRanPerm
namespace Go.Proofs.Ytpmajdgabpmooaa

def cntLt (a : Nat) (l : List Nat) : Nat := (l.filter (fun x => decide (x < a))).length
def fac : Nat → Nat
  | 0 => 1
  | n + 1 => (n + 1) * fac n
theorem fac_pos : ∀ n, 0 < fac n := by
  intro n; induction n with
  | zero => decide
  | succ n ih => rw [fac]; exact Nat.mul_pos (by omega) ih
def rk : List Nat → Nat
  | [] => 0
  | a :: l => cntLt a l * fac l.length + rk l
theorem cntLt_le (a : Nat) (l : List Nat) : cntLt a l ≤ l.length := List.length_filter_le _ _
theorem rk_lt : ∀ l, rk l < fac l.length := by
  intro l; induction l with
  | nil => decide
  | cons a l ih =>
    rw [rk, List.length_cons, fac]
    have h := Nat.mul_le_mul_right (fac l.length) (cntLt_le a l)
    rw [Nat.add_mul, Nat.one_mul]; omega
def unr : Nat → List Nat → Nat → List Nat
  | 0, _, _ => []
  | n + 1, left, r => left.getD (r / fac n) 0 :: unr n (left.eraseIdx (r / fac n)) (r % fac n)
theorem unr_length : ∀ n left r, (unr n left r).length = n := by
  intro n; induction n with
  | zero => intro _ _; rfl
  | succ n ih => intro left r; rw [unr, List.length_cons, ih]
theorem cntLt_perm {a : Nat} {l m : List Nat} (h : l.Perm m) : cntLt a l = cntLt a m := (h.filter _).length_eq
theorem cntLt_cons_self (a : Nat) (l : List Nat) : cntLt a (a :: l) = cntLt a l := by simp [cntLt]
theorem cntLt_zero {a : Nat} {l : List Nat} (h : ∀ x ∈ l, a ≤ x) : cntLt a l = 0 := by
  unfold cntLt
  rw [List.filter_eq_nil_iff.2 (fun x hx => by have := h x hx; simp; omega)]
  rfl
theorem cnt_sorted : ∀ (left : List Nat), left.Pairwise (· < ·) → ∀ i (h : i < left.length), cntLt left[i] left = i := by
  intro left; induction left with
  | nil => intro _ i h; simp at h
  | cons x r ih =>
    intro hs i h
    obtain ⟨h1, h2⟩ := List.pairwise_cons.1 hs
    cases i with
    | zero =>
      rw [List.getElem_cons_zero, cntLt_cons_self]
      exact cntLt_zero fun y hy => Nat.le_of_lt (h1 y hy)
    | succ i =>
      have hi : i < r.length := by simpa using h
      rw [List.getElem_cons_succ]
      have := ih h2 i hi
      unfold cntLt at this ⊢
      rw [List.filter_cons_of_pos (by simpa using h1 _ (List.getElem_mem hi)), List.length_cons, this]
theorem sorted_erase {left : List Nat} (h : left.Pairwise (· < ·)) (i : Nat) : (left.eraseIdx i).Pairwise (· < ·) := h.sublist (List.eraseIdx_sublist _ _)
theorem getD_lt {l : List Nat} {i : Nat} (h : i < l.length) : l.getD i 0 = l[i] := by simp [List.getD, h]

theorem erase_perm : ∀ (l : List Nat) (i : Nat) (h : i < l.length), (l[i] :: l.eraseIdx i).Perm l := by
  intro l; induction l with
  | nil => intro i h; simp at h
  | cons x r ih =>
    intro i h
    cases i with
    | zero => exact List.Perm.refl _
    | succ i =>
      have hi : i < r.length := by simpa using h
      rw [List.getElem_cons_succ, List.eraseIdx_cons_succ]
      exact (List.Perm.swap x r[i] _).trans ((ih i hi).cons x)
theorem unr_rk : ∀ (p left : List Nat), left.Pairwise (· < ·) → p.Perm left → unr p.length left (rk p) = p := by
  intro p; induction p with
  | nil => intro left _ _; rfl
  | cons a l ih =>
    intro left hs hp
    have hl := rk_lt l
    have hf := fac_pos l.length
    have hd : (cntLt a l * fac l.length + rk l) / fac l.length = cntLt a l := by
      rw [Nat.mul_comm, Nat.mul_add_div hf, Nat.div_eq_of_lt hl, Nat.add_zero]
    have hm : (cntLt a l * fac l.length + rk l) % fac l.length = rk l := by
      rw [Nat.mul_comm, Nat.mul_add_mod]; exact Nat.mod_eq_of_lt hl
    obtain ⟨i, hi, hai⟩ := List.getElem_of_mem (hp.mem_iff.1 (List.mem_cons_self))
    have hc : cntLt a l = i := by
      rw [← cntLt_cons_self, cntLt_perm hp, ← hai]; exact cnt_sorted left hs i hi
    rw [List.length_cons, rk, unr, hd, hm, hc, getD_lt hi, hai]
    congr 1
    refine ih _ (sorted_erase hs i) ?_
    have h2 := (erase_perm _ _ hi).symm
    rw [hai] at h2
    exact (hp.trans h2).cons_inv
theorem rk_unr : ∀ (n : Nat) (left : List Nat) (r : Nat), left.length = n → left.Pairwise (· < ·) → r < fac n → (unr n left r).Perm left ∧ rk (unr n left r) = r := by
  intro n; induction n with
  | zero =>
    intro left r h _ hr
    have : left = [] := List.eq_nil_of_length_eq_zero h
    subst this
    have h0 : fac 0 = 1 := rfl
    exact ⟨List.Perm.refl _, by simp only [unr, rk]; omega⟩
  | succ n ih =>
    intro left r h hs hr
    have hf := fac_pos n
    have hat : r / fac n < left.length := by
      rw [h, Nat.div_lt_iff_lt_mul hf]; exact hr
    obtain ⟨h1, h2⟩ := ih (left.eraseIdx (r / fac n)) (r % fac n) (by rw [List.length_eraseIdx, if_pos hat, h]; rfl) (sorted_erase hs _) (Nat.mod_lt _ hf)
    have hp := erase_perm _ _ hat
    rw [unr, getD_lt hat]
    refine ⟨(h1.cons _).trans hp, ?_⟩
    rw [rk, h2, unr_length, cntLt_perm h1, ← cntLt_cons_self, cntLt_perm hp, cnt_sorted left hs _ hat]
    have := Nat.div_add_mod r (fac n)
    rw [Nat.mul_comm] at this
    exact this
/-- The lexicographic order. -/
def lessN : List Nat → List Nat → Prop
  | [], [] => False
  | [], _ :: _ => True
  | _ :: _, [] => False
  | a :: l, b :: m => a < b ∨ a = b ∧ lessN l m
theorem rk_less : ∀ (p q left : List Nat), left.Pairwise (· < ·) → p.Perm left → q.Perm left → (rk p < rk q ↔ lessN p q) := by
  intro p; induction p with
  | nil =>
    intro q left hs hp hq
    have : q = [] := List.eq_nil_of_length_eq_zero (by rw [hq.length_eq, ← hp.length_eq]; rfl)
    subst this
    simp [rk, lessN]
  | cons a l ih =>
    intro q left hs hp hq
    cases q with
    | nil => have := hp.length_eq.trans hq.length_eq.symm; simp at this
    | cons b m =>
      obtain ⟨i, hi, hai⟩ := List.getElem_of_mem (hp.mem_iff.1 (List.mem_cons_self))
      obtain ⟨j, hj, hbj⟩ := List.getElem_of_mem (hq.mem_iff.1 (List.mem_cons_self))
      have hc : cntLt a l = i := by
        rw [← cntLt_cons_self, cntLt_perm hp, ← hai]; exact cnt_sorted left hs i hi
      have hd : cntLt b m = j := by
        rw [← cntLt_cons_self, cntLt_perm hq, ← hbj]; exact cnt_sorted left hs j hj
      have hlen : l.length = m.length := by have := hp.length_eq.trans hq.length_eq.symm; simpa using this
      have hl := rk_lt l
      have hm := rk_lt m
      rw [rk, rk, hc, hd, lessN]
      rw [← hlen] at hm ⊢
      rcases Nat.lt_trichotomy i j with hij | hij | hij
      · have hab : a < b := by rw [← hai, ← hbj]; exact List.pairwise_iff_getElem.1 hs i j hi hj hij
        have h1 := Nat.mul_le_mul_right (fac l.length) (show i + 1 ≤ j by omega)
        rw [Nat.add_mul, Nat.one_mul] at h1
        exact ⟨fun _ => .inl hab, fun _ => by omega⟩
      · subst hij
        have hab : a = b := by rw [← hai, ← hbj]
        subst hab
        have h2 := (erase_perm _ _ hi).symm
        rw [hai] at h2
        have := ih m (left.eraseIdx i) (sorted_erase hs i) (hp.trans h2).cons_inv (hq.trans h2).cons_inv
        constructor
        · intro h; exact .inr ⟨rfl, this.1 (by omega)⟩
        · intro h
          rcases h with h | ⟨_, h⟩
          · omega
          · have := this.2 h; omega
      · have hab : b < a := by rw [← hai, ← hbj]; exact List.pairwise_iff_getElem.1 hs j i hj hi hij
        have h1 := Nat.mul_le_mul_right (fac l.length) (show j + 1 ≤ i by omega)
        rw [Nat.add_mul, Nat.one_mul] at h1
        exact ⟨fun h => by omega, fun h => by rcases h with h | ⟨h, _⟩ <;> omega⟩
theorem perm_of : ∀ (p left : List Nat), p.Nodup → (∀ x ∈ p, x ∈ left) → p.length = left.length → p.Perm left := by
  intro p; induction p with
  | nil => intro left _ _ h; rw [List.eq_nil_of_length_eq_zero h.symm]
  | cons a l ih =>
    intro left hn hm hl
    obtain ⟨h1, h2⟩ := List.nodup_cons.1 hn
    have ha := hm a List.mem_cons_self
    have hp := List.perm_cons_erase ha
    refine ((ih (left.erase a) h2 (fun x hx => ?_) ?_).cons a).trans hp.symm
    · exact (List.mem_erase_of_ne (fun e => h1 (by rw [← e]; exact hx))).2 (hm x (List.mem_cons_of_mem _ hx))
    · rw [List.length_erase_of_mem ha, ← hl]; rfl
theorem permF_nodup {l : List Nat} {n : Nat} (h : PermF l n) : l.Nodup := by
  obtain ⟨h1, h2, h3⟩ := h
  refine List.pairwise_iff_getElem.2 fun i j hi hj hij e => ?_
  have := h3 i j (by omega) (by omega) (by rw [getD_lt hi, getD_lt hj]; exact e)
  omega
theorem permF_perm {l : List Nat} {n : Nat} (h : PermF l n) : l.Perm (List.range n) := by
  refine perm_of _ _ (permF_nodup h) (fun x hx => ?_) (by simp [h.1])
  obtain ⟨i, hi, e⟩ := List.getElem_of_mem hx
  have := h.2.1 i (by rw [← h.1]; exact hi)
  rw [getD_lt hi, e] at this
  simpa using this
theorem sorted_range (n : Nat) : (List.range n).Pairwise (· < ·) := List.pairwise_lt_range
theorem perm_permF {l : List Nat} {n : Nat} (h : l.Perm (List.range n)) : PermF l n := by
  have hl : l.length = n := by rw [h.length_eq]; simp
  refine ⟨hl, fun a ha => ?_, fun a b ha hb e => ?_⟩
  · rw [getD_lt (by omega)]
    have := h.mem_iff.1 (List.getElem_mem (show a < l.length by omega))
    simpa using this
  · have hn : l.Nodup := h.nodup_iff.2 List.nodup_range
    have ha' : a < l.length := by omega
    have hb' : b < l.length := by omega
    rw [getD_lt ha', getD_lt hb'] at e
    have hq := List.pairwise_iff_getElem.1 hn
    rcases Nat.lt_trichotomy a b with h1 | h1 | h1
    · exact absurd e (hq a b ha' hb' h1)
    · exact h1
    · exact absurd e.symm (hq b a hb' ha' h1)
/-- The rank as the loop computes it, from the front. -/
def rkTo (p : List Nat) : Nat → Nat
  | 0 => 0
  | i + 1 => rkTo p i * (p.length - i) + cntLt (p.getD i 0) (p.drop (i + 1))
theorem rkTo_inv (p : List Nat) : ∀ i, i ≤ p.length → rkTo p i * fac (p.length - i) + rk (p.drop i) = rk p := by
  intro i; induction i with
  | zero => intro _; simp [rkTo]
  | succ i ih =>
    intro h
    have h1 := ih (by omega)
    obtain ⟨d, hd⟩ : ∃ d, p.length - i = d + 1 := ⟨p.length - i - 1, by omega⟩
    have hd2 : p.length - (i + 1) = d := by omega
    have hlen : (p.drop (i + 1)).length = d := by rw [List.length_drop]; omega
    rw [List.drop_eq_getElem_cons (show i < p.length by omega), rk, hlen, ← getD_lt (show i < p.length by omega), hd, fac] at h1
    rw [rkTo, hd, hd2, Nat.add_mul]
    rw [← Nat.mul_assoc] at h1
    omega
theorem rkTo_all (p : List Nat) : rkTo p p.length = rk p := by
  have := rkTo_inv p p.length (Nat.le_refl _)
  simp [rk, fac] at this
  exact this
end Go.Proofs.Ytpmajdgabpmooaa
