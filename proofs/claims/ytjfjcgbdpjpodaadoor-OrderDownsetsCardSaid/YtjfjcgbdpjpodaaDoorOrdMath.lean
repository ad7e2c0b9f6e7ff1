/- Mathematics of relations as masks of 64 bits: least bits, elements, the closure. No program. -/
import Derived.Lib.TrailingZeros
namespace Go.Proofs.YtjfjcgbdpjpodaaDoor

/-- The elements of a set. -/
def els (s : Nat) : List Nat := (List.range 64).filter fun e => s.testBit e
/-- The least element, 64 of none. -/
def low (s : Nat) : Nat := Lib.ctz 64 s
abbrev M64 : Nat := 18446744073709551616

theorem low_zero : low 0 = 64 := rfl
theorem low_spec {s : Nat} (h0 : s ≠ 0) (h : s < M64) : ∃ m, s = 2 ^ low s * (2 * m + 1) ∧ low s < 64 := by
  unfold low Lib.ctz
  rw [if_neg h0]
  exact Lib.ctzFrom_spec 64 s (by omega) h
theorem bit_low {s : Nat} (h0 : s ≠ 0) (h : s < M64) : s.testBit (low s) = true := by
  obtain ⟨m, hm, _⟩ := low_spec h0 h
  generalize low s = k at hm
  rw [hm, Nat.mul_comm, Nat.testBit_mul_two_pow]
  simp
theorem bit_below {s : Nat} (h0 : s ≠ 0) (h : s < M64) {j : Nat} (hj : j < low s) : s.testBit j = false := by
  obtain ⟨m, hm, _⟩ := low_spec h0 h
  generalize low s = k at hm hj
  rw [hm, Nat.mul_comm, Nat.testBit_mul_two_pow]
  simp
  omega
theorem low_lt {s : Nat} (h0 : s ≠ 0) (h : s < M64) : low s < 64 := (low_spec h0 h).choose_spec.2
theorem low_le (s : Nat) (h : s < M64) : low s ≤ 64 := by
  by_cases h0 : s = 0
  · rw [h0, low_zero]; omega
  · exact Nat.le_of_lt (low_lt h0 h)

theorem clear_bit : ∀ (k s : Nat), s.testBit k = true → (∀ j, j < k → s.testBit j = false) → ∀ j, (s &&& (s - 1)).testBit j = (s.testBit j && decide (j ≠ k)) := by
  intro k
  induction k with
  | zero =>
    intro s hs _ j
    have h1 : s % 2 = 1 := by simpa [Nat.testBit_zero] using hs
    rw [Nat.testBit_and]
    cases j with
    | zero => rw [Nat.testBit_zero (s - 1)]; simp; omega
    | succ j =>
      rw [Nat.testBit_succ, Nat.testBit_succ, show (s - 1) / 2 = s / 2 by omega]
      simp
  | succ k ih =>
    intro s hs hl j
    have h0 : s % 2 = 0 := by have := hl 0 (by omega); simp [Nat.testBit_zero] at this; omega
    have hk : (s / 2).testBit k = true := by rw [← Nat.testBit_succ]; exact hs
    have hpos : s ≠ 0 := by intro h; rw [h] at hs; simp at hs
    cases j with
    | zero =>
      rw [Nat.testBit_and, Nat.testBit_zero s]
      simp [h0]
    | succ j =>
      have := ih (s / 2) hk (fun j hj => by rw [← Nat.testBit_succ]; exact hl (j + 1) (by omega)) j
      rw [Nat.testBit_and, Nat.testBit_succ, Nat.testBit_succ, show (s - 1) / 2 = s / 2 - 1 by omega, ← Nat.testBit_and, this]
      simp
theorem next_bit {s : Nat} (h0 : s ≠ 0) (h : s < M64) (j : Nat) : (s &&& (s - 1)).testBit j = (s.testBit j && decide (j ≠ low s)) :=
  clear_bit _ s (bit_low h0 h) (fun _ hj => bit_below h0 h hj) j
theorem and_lt {a b : Nat} (h : a < M64) : a &&& b < M64 := Nat.lt_of_le_of_lt Nat.and_le_left h
theorem and_pred_lt {s : Nat} (h0 : s ≠ 0) : s &&& (s - 1) < s := Nat.lt_of_le_of_lt Nat.and_le_right (by omega)

theorem filter_head (p : Nat → Bool) (k : Nat) : ∀ n, k < n → p k = true → (∀ j, j < k → p j = false) → (List.range n).filter p = k :: (List.range n).filter fun j => p j && decide (j ≠ k) := by
  intro n
  induction n with
  | zero => intro h; omega
  | succ n ih =>
    intro hk hp hl
    rw [List.range_succ, List.filter_append, List.filter_append]
    by_cases hkn : k < n
    · rw [ih hkn hp hl, List.cons_append]
      congr 1
      congr 1
      have : decide (n ≠ k) = true := by simp; omega
      simp only [List.filter_cons, this, Bool.and_true, List.filter_nil]
    · obtain rfl : k = n := by omega
      have e1 : (List.range k).filter p = [] := by
        rw [List.filter_eq_nil_iff]
        intro a ha
        rw [hl a (by simpa using ha)]
        decide
      have e2 : (List.range k).filter (fun j => p j && decide (j ≠ k)) = [] := by
        rw [List.filter_eq_nil_iff]
        intro a ha
        rw [hl a (by simpa using ha)]
        simp
      rw [e1, e2]
      simp [hp]
theorem els_cons {s : Nat} (h0 : s ≠ 0) (h : s < M64) : els s = low s :: els (s &&& (s - 1)) := by
  unfold els
  rw [filter_head _ (low s) 64 (low_lt h0 h) (bit_low h0 h) (fun _ hj => bit_below h0 h hj)]
  congr 1
  apply List.filter_congr
  intro j _
  rw [next_bit h0 h]
theorem els_zero : els 0 = [] := by simp [els]
theorem mem_els {s e : Nat} : e ∈ els s ↔ e < 64 ∧ s.testBit e = true := by simp [els]
theorem els_lt {s e : Nat} (h : e ∈ els s) : e < 64 := (mem_els.1 h).1
theorem els_len (s : Nat) : (els s).length ≤ 64 := by
  have := List.length_filter_le (fun e => s.testBit e) (List.range 64)
  simpa [els] using this

/-- One element as a set; none for 64. -/
def sg (e : Nat) : Nat := 2 ^ e % M64
theorem sg_lt (e : Nat) : sg e < M64 := Nat.mod_lt _ (by decide)
theorem sg_eq {e : Nat} (h : e < 64) : sg e = 2 ^ e := Nat.mod_eq_of_lt (Nat.pow_lt_pow_right (by decide) h)
theorem sg_bit {e : Nat} (h : e < 64) (j : Nat) : (sg e).testBit j = decide (e = j) := by rw [sg_eq h, Nat.testBit_two_pow]
theorem sg_64 : sg 64 = 0 := by decide
theorem or_lt {a b : Nat} (h : a < M64) (h2 : b < M64) : a ||| b < M64 := Nat.or_lt_two_pow (n := 64) h h2
theorem has_iff {s e : Nat} (h : e < 64) : (s &&& sg e ≠ 0) ↔ s.testBit e = true := by
  rw [sg_eq h]
  constructor
  · intro hne
    cases hb : s.testBit e
    · exfalso; apply hne
      apply Nat.eq_of_testBit_eq
      intro j
      rw [Nat.testBit_and, Nat.testBit_two_pow]
      by_cases hj : e = j
      · subst hj; simp [hb]
      · simp [hj]
    · rfl
  · intro hb h0
    have := congrArg (fun x => Nat.testBit x e) h0
    simp [Nat.testBit_and, hb] at this

/-- A function with one value turned. -/
def upd (A : Nat → Nat) (i v : Nat) : Nat → Nat := fun x => if x = i then v else A x
theorem upd_same (A : Nat → Nat) (i v : Nat) : upd A i v i = v := by simp [upd]
theorem upd_other (A : Nat → Nat) {i x : Nat} (v : Nat) (h : x ≠ i) : upd A i v x = A x := by simp [upd, h]

abbrev Pr := Nat × Nat
def valid (n : Nat) (ps : List (Int × Int)) : Bool := ps.all fun p => decide (0 ≤ p.1 ∧ p.1 < n ∧ 0 ≤ p.2 ∧ p.2 < n)
/-- The relation's own pairs. -/
def put1 (A : Nat → Nat) (p : Int × Int) : Nat → Nat := upd A p.1.toNat (A p.1.toNat ||| sg p.2.toNat)
def base (ps : List (Int × Int)) : Nat → Nat := ps.foldl put1 fun _ => 0
/-- One round of the closure. -/
def wst (via : Nat) (A : Nat → Nat) (a : Nat) : Nat → Nat := if (A a).testBit via then upd A a (A a ||| A via) else A
def row (n : Nat) (A : Nat → Nat) (via : Nat) : Nat → Nat := (List.range n).foldl (wst via) A
def clo (n : Nat) (ps : List (Int × Int)) : Nat → Nat := (List.range n).foldl (row n) (base ps)
theorem wst_bit (via : Nat) (A : Nat → Nat) (a x j : Nat) : (wst via A a x).testBit j = ((A x).testBit j || (decide (x = a) && (A a).testBit via && (A via).testBit j)) := by
  unfold wst
  by_cases h : (A a).testBit via = true
  · rw [if_pos h]
    by_cases hx : x = a
    · subst hx; rw [upd_same, Nat.testBit_or]; simp [h]
    · rw [upd_other _ _ hx]; simp [hx]
  · rw [if_neg h]; simp [h]
/-- All values below 2^n. -/
def Bd (n : Nat) (A : Nat → Nat) : Prop := ∀ x, A x < 2 ^ n
theorem Bd.wst {n : Nat} {A : Nat → Nat} (h : Bd n A) (via a : Nat) : Bd n (wst via A a) := by
  intro x
  unfold Proofs.YtjfjcgbdpjpodaaDoor.wst
  split
  · unfold upd; split
    · exact Nat.or_lt_two_pow (h a) (h via)
    · exact h x
  · exact h x
theorem foldl_inv {α β : Type} (P : β → Prop) (f : β → α → β) : ∀ (l : List α) (b : β), P b → (∀ b, ∀ a ∈ l, P b → P (f b a)) → P (l.foldl f b) := by
  intro l
  induction l with
  | nil => intro b h _; exact h
  | cons a r ih => intro b h hs; exact ih _ (hs b a (by simp) h) (fun b x hx => hs b x (by simp [hx]))
theorem Bd.row {n : Nat} {A : Nat → Nat} (h : Bd n A) (via : Nat) : Bd n (row n A via) := foldl_inv (Bd n) _ _ _ h fun _ a _ hb => hb.wst via a
theorem valid_mem {n : Nat} {ps : List (Int × Int)} (h : valid n ps = true) {p : Int × Int} (hp : p ∈ ps) : p.1.toNat < n ∧ p.2.toNat < n ∧ (p.1.toNat : Int) = p.1 ∧ (p.2.toNat : Int) = p.2 := by
  unfold valid at h
  rw [List.all_eq_true] at h
  have := h p hp
  simp only [decide_eq_true_eq] at this
  omega
theorem bd_base {n : Nat} (hn : n ≤ 64) {ps : List (Int × Int)} (h : valid n ps = true) : Bd n (base ps) := by
  refine foldl_inv (Bd n) _ _ _ (fun _ => Nat.two_pow_pos n) fun A p hp hb x => ?_
  obtain ⟨_, h2, _⟩ := valid_mem h hp
  unfold put1 upd
  split
  · refine Nat.or_lt_two_pow (hb _) ?_
    rw [sg_eq (by omega)]
    exact Nat.pow_lt_pow_right (by decide) h2
  · exact hb x
theorem bd_clo {n : Nat} (hn : n ≤ 64) {ps : List (Int × Int)} (h : valid n ps = true) : Bd n (clo n ps) := foldl_inv (Bd n) _ _ _ (bd_base hn h) fun _ v _ hb => hb.row v
theorem Bd.bit {n : Nat} {A : Nat → Nat} (h : Bd n A) {x j : Nat} (hj : (A x).testBit j = true) : j < n := by
  apply Nat.lt_of_not_le
  intro hle
  have := Nat.testBit_lt_two_pow (Nat.lt_of_lt_of_le (h x) (Nat.pow_le_pow_right (by decide) hle))
  rw [this] at hj; cases hj
theorem Bd.m64 {n : Nat} {A : Nat → Nat} (h : Bd n A) (hn : n ≤ 64) (x : Nat) : A x < M64 := Nat.lt_of_lt_of_le (h x) (Nat.pow_le_pow_right (by decide) hn : 2 ^ n ≤ 2 ^ 64)

/-- What comes before each element. -/
def bef1 (A B : Nat → Nat) (a : Nat) : Nat → Nat := (els (A a)).foldl (fun B b => upd B b (B b ||| sg a)) B
def bef (n : Nat) (A : Nat → Nat) : Nat → Nat := (List.range n).foldl (bef1 A) fun _ => 0
theorem bd_bef1 {n : Nat} (hn : n ≤ 64) (A : Nat → Nat) {B : Nat → Nat} (h : Bd n B) {a : Nat} (ha : a < n) : Bd n (bef1 A B a) := by
  refine foldl_inv (Bd n) _ _ _ h fun B b _ hb x => ?_
  unfold upd
  split
  · refine Nat.or_lt_two_pow (hb _) ?_
    rw [sg_eq (by omega)]
    exact Nat.pow_lt_pow_right (by decide) ha
  · exact hb x
theorem bd_bef {n : Nat} (hn : n ≤ 64) (A : Nat → Nat) : Bd n (bef n A) := foldl_inv (Bd n) _ _ _ (fun _ => Nat.two_pow_pos n) fun _ a ha hb => bd_bef1 hn A hb (by simpa using ha)

def acyc (n : Nat) (A : Nat → Nat) : Bool := (List.range n).all fun a => !(A a).testBit a
def allS (n : Nat) : Nat := (sg n + (M64 - 1)) % M64
theorem allS_eq {n : Nat} (hn : n ≤ 64) : allS n = 2 ^ n - 1 := by
  unfold allS
  rcases Nat.lt_or_ge n 64 with h | h
  · rw [sg_eq h]
    have h1 : 2 ^ n < 2 ^ 64 := Nat.pow_lt_pow_right (by decide) h
    have h2 : 0 < 2 ^ n := Nat.two_pow_pos n
    have h3 : 2 ^ 64 = 18446744073709551616 := rfl
    show (2 ^ n + (18446744073709551616 - 1)) % 18446744073709551616 = 2 ^ n - 1
    generalize 2 ^ n = q at h1 h2 ⊢
    rw [h3] at h1
    omega
  · obtain rfl : n = 64 := by omega
    decide
theorem foldl_snoc {α β : Type} (f : β → α → β) (b : β) (l : List α) (a : α) : (l ++ [a]).foldl f b = f (l.foldl f b) a := by simp
theorem range_foldl_succ {β : Type} (f : β → Nat → β) (b : β) (k : Nat) : (List.range (k + 1)).foldl f b = f ((List.range k).foldl f b) k := by
  rw [List.range_succ, foldl_snoc]
end Go.Proofs.YtjfjcgbdpjpodaaDoor
