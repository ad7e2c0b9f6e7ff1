/- Mathematics of finite strict orders: least elements, the topological order. No program. -/
import Derived.Test.YtjfjcgbdpjpodaaDoorOrdRpr
import Derived.Test.YtjfjcgbdpjpodaaDoorOrdWar
namespace Go.Proofs.YtjfjcgbdpjpodaaDoor

theorem cnt_le {p q : Nat → Bool} : ∀ n, (∀ j, j < n → p j = true → q j = true) → ((List.range n).filter p).length ≤ ((List.range n).filter q).length
  | 0, _ => by simp
  | n + 1, h => by
    rw [List.range_succ, List.filter_append, List.filter_append, List.length_append, List.length_append]
    have := cnt_le n (fun j hj => h j (by omega))
    have h2 := h n (by omega)
    cases hp : p n
    · simp [hp]; omega
    · rw [List.filter_cons, List.filter_cons, hp, h2 hp]; simpa using this
theorem cnt_lt {p q : Nat → Bool} : ∀ n, (∀ j, j < n → p j = true → q j = true) → (∃ i, i < n ∧ q i = true ∧ p i = false) → ((List.range n).filter p).length < ((List.range n).filter q).length
  | 0, _, h => by obtain ⟨i, hi, _⟩ := h; omega
  | n + 1, h, hx => by
    obtain ⟨i, hi, h1, h2⟩ := hx
    rw [List.range_succ, List.filter_append, List.filter_append, List.length_append, List.length_append]
    by_cases hn : i = n
    · subst hn
      have := cnt_le (p := p) (q := q) i (fun j hj => h j (by omega))
      rw [List.filter_cons, List.filter_cons, h1, h2]
      simp
      omega
    · have := cnt_lt (p := p) (q := q) n (fun j hj => h j (by omega)) ⟨i, by omega, h1, h2⟩
      have h3 := h n (by omega)
      cases hp : p n
      · rw [List.filter_cons, hp]; simp; omega
      · rw [List.filter_cons, List.filter_cons, hp, h3 hp]; simpa using this
/-- A list with all numbers below n has at least n members. -/
theorem len_ge : ∀ (n : Nat) (L : List Nat), (∀ x, x < n → x ∈ L) → n ≤ L.length
  | 0, _, _ => Nat.zero_le _
  | n + 1, L, h => by
    have h1 := h n (by omega)
    have := len_ge n (L.erase n) (fun x hx => (List.mem_erase_of_ne (by omega)).2 (h x (by omega)))
    rw [List.length_erase_of_mem h1] at this
    have : 0 < L.length := List.length_pos_of_mem h1
    omega
theorem free_of_len {n : Nat} {L : List Nat} (h : L.length < n) : ∃ x, x < n ∧ x ∉ L := by
  apply Classical.byContradiction
  intro hc
  have := len_ge n L (fun x hx => Classical.byContradiction fun hn => hc ⟨x, hx, hn⟩)
  omega

/-- A strict order of the numbers below n. -/
structure SO (n : Nat) (R : Nat → Nat → Bool) : Prop where
  irr : ∀ a, R a a = false
  tr : ∀ a b c, R a b = true → R b c = true → R a c = true
  lt : ∀ a b, R a b = true → a < n ∧ b < n
theorem SO.asym {n : Nat} {R : Nat → Nat → Bool} (h : SO n R) {a b : Nat} (h1 : R a b = true) (h2 : R b a = true) : False := by
  have := h.tr a b a h1 h2
  rw [h.irr] at this
  cases this
/-- How many come before. -/
def dn (n : Nat) (R : Nat → Nat → Bool) (x : Nat) : Nat := ((List.range n).filter fun y => R y x).length
theorem SO.dn_lt {n : Nat} {R : Nat → Nat → Bool} (h : SO n R) {y x : Nat} (hr : R y x = true) : dn n R y < dn n R x :=
  cnt_lt n (fun j _ hj => h.tr j y x hj hr) ⟨y, (h.lt y x hr).1, hr, h.irr y⟩
theorem SO.min {n : Nat} {R : Nat → Nat → Bool} (h : SO n R) (P : Nat → Prop) : ∀ k x, dn n R x ≤ k → P x → ∃ m, P m ∧ ∀ y, R y m = true → ¬ P y
  | 0, x, hk, hp => ⟨x, hp, fun y hy _ => by have := h.dn_lt hy; omega⟩
  | k + 1, x, hk, hp => by
    by_cases he : ∃ y, R y x = true ∧ P y
    · obtain ⟨y, h1, h2⟩ := he
      exact SO.min h P k y (by have := h.dn_lt h1; omega) h2
    · exact ⟨x, hp, fun y hy h2 => he ⟨y, hy, h2⟩⟩
theorem so_clo {n : Nat} (hn : n ≤ 64) {ps : List Tk} (h : valid n ps = true) (hc : acyc n (clo n ps) = true) : SO n (bm (clo n ps)) :=
  ⟨acyc_irr hn h hc, fun _ _ _ h1 h2 => clo_trans hn h h1 h2, fun _ _ h1 => clo_lt hn h h1⟩

theorem fl_bit (p : Nat → Bool) (j : Nat) : ∀ l : List Nat, (∀ x ∈ l, x < 64) → (fl p l).testBit j = (decide (j ∈ l) && p j) := by
  intro l
  have key : ∀ (l : List Nat) (m : Nat), (∀ x ∈ l, x < 64) → (l.foldl (fun m e => addm (p e) m e) m).testBit j = (m.testBit j || (decide (j ∈ l) && p j)) := by
    intro l
    induction l with
    | nil => intro m _; simp
    | cons x r ih =>
      intro m hl
      rw [List.foldl_cons, ih _ (fun y hy => hl y (by simp [hy]))]
      unfold addm
      by_cases hx : j = x
      · subst hx
        cases hp : p j
        · simp
        · simp [Nat.testBit_or, sg_bit (hl j (by simp))]
      · cases hp : p x
        · simp [hx]
        · simp only [if_true, Nat.testBit_or, sg_bit (hl x (by simp)), List.mem_cons, hx, false_or]
          rw [decide_eq_false (Ne.symm hx), Bool.or_false]
  intro hl
  unfold fl
  rw [key l 0 hl]
  simp
theorem fil_bit (p : Nat → Bool) (s j : Nat) : (fil p s).testBit j = (decide (j < 64) && s.testBit j && p j) := by
  unfold fil
  rw [fl_bit p j _ (fun x hx => els_lt hx)]
  congr 1
  rw [Bool.eq_iff_iff]
  simp [mem_els]
theorem mns_bit {a b j : Nat} (ha : a < M64) (hb : b < M64) : (mns a b).testBit j = (a.testBit j && !b.testBit j) := by
  unfold mns
  rw [Nat.testBit_and, show 18446744073709551615 - b = 2 ^ 64 - (b + 1) by omega, Nat.testBit_two_pow_sub_succ (by exact hb)]
  by_cases hj : j < 64
  · simp [hj]
  · have : a.testBit j = false := Nat.testBit_lt_two_pow (Nat.lt_of_lt_of_le ha (Nat.pow_le_pow_right (by decide) (by omega) : 2 ^ 64 ≤ 2 ^ j))
    simp [this]
theorem mns_zero {a b : Nat} (ha : a < M64) (hb : b < M64) : mns a b = 0 ↔ ∀ j, a.testBit j = true → b.testBit j = true := by
  constructor
  · intro h j hj
    have := congrArg (fun x => Nat.testBit x j) h
    simp only [mns_bit ha hb, hj, Bool.true_and, Nat.zero_testBit, Bool.not_eq_false'] at this
    exact this
  · intro h
    apply Nat.eq_of_testBit_eq
    intro j
    rw [mns_bit ha hb, Nat.zero_testBit]
    cases hj : a.testBit j
    · rfl
    · rw [h j hj]; rfl
theorem allS_bit {n : Nat} (hn : n ≤ 64) (j : Nat) : (allS n).testBit j = decide (j < n) := by rw [allS_eq hn, Nat.testBit_two_pow_sub_one]
theorem rdy_bit {n : Nat} (hn : n ≤ 64) {N : Nat → Nat} (hN : ∀ e, N e < M64) {p : Nat} (hp : p < M64) (e : Nat) : (rdy n N p).testBit e = true ↔ e < n ∧ p.testBit e = false ∧ ∀ j, (N e).testBit j = true → p.testBit j = true := by
  unfold rdy
  rw [fil_bit, mns_bit (allS_lt n) hp, allS_bit hn]
  simp only [Bool.and_eq_true, decide_eq_true_eq, Bool.not_eq_true', mns_zero (hN e) hp]
  constructor
  · rintro ⟨⟨_, h1, h2⟩, h3⟩; exact ⟨h1, h2, h3⟩
  · rintro ⟨h1, h2, h3⟩; exact ⟨⟨by omega, h1, h2⟩, h3⟩
theorem bef_m64 {n : Nat} (hn : n ≤ 64) (A : Nat → Nat) (e : Nat) : bef n A e < M64 := (bd_bef hn A).m64 hn e
theorem bef_b {n : Nat} (hn : n ≤ 64) (A : Nat → Nat) {j : Nat} (hj : j < 64) (c : Nat) : (bef n A j).testBit c = (decide (c < n) && (A c).testBit j) := bef_bit hn A j c hj n (Nat.le_refl _)

/-- What is known of the topological order after k steps. -/
structure SrtI (n : Nat) (R : Nat → Nat → Bool) (p : Nat) (L : List Nat) : Prop where
  bit : ∀ j, p.testBit j = decide (j ∈ L)
  nd : L.Nodup
  lt : ∀ x ∈ L, x < n
theorem srt_next {n : Nat} (hn : n ≤ 64) {A : Nat → Nat} (h : SO n (bm A)) {k : Nat} (hk : k < n) (hI : SrtI n (bm A) (srt n (bef n A) k).1 (srt n (bef n A) k).2) :
    ∀ e, e = low (rdy n (bef n A) (srt n (bef n A) k).1) → e < n ∧ e ∉ (srt n (bef n A) k).2 ∧ (∀ j, bm A j e = true → j ∈ (srt n (bef n A) k).2) ∧ ∀ x, x < e → x ∉ (srt n (bef n A) k).2 → ∃ j, bm A j x = true ∧ j ∉ (srt n (bef n A) k).2 := by
  intro e hedef
  have hlen := srt_len n (bef n A) k
  have hlt := srt_lt n (bef n A) k
  generalize hp : (srt n (bef n A) k).1 = p at *
  generalize hL : (srt n (bef n A) k).2 = L at *
  obtain ⟨x, hx, hxL⟩ := free_of_len (n := n) (L := L) (by omega)
  obtain ⟨m, hm, hmin⟩ := h.min (fun y => y < n ∧ y ∉ L) _ x (Nat.le_refl _) ⟨hx, hxL⟩
  have hb : ∀ e, e < n → ((∀ j, (bef n A e).testBit j = true → p.testBit j = true) ↔ ∀ j, bm A j e = true → j ∈ L) := by
    intro e he
    constructor
    · intro h1 j hj
      have := h1 j (by rw [bef_b hn A (by omega)]; simp only [Bool.and_eq_true, decide_eq_true_eq]; exact ⟨(h.lt j e hj).1, hj⟩)
      rw [hI.bit] at this
      simpa using this
    · intro h1 j hj
      rw [bef_b hn A (by omega)] at hj
      simp only [Bool.and_eq_true] at hj
      rw [hI.bit]
      simpa using h1 j hj.2
  have hr : ∀ e, (rdy n (bef n A) p).testBit e = true ↔ e < n ∧ e ∉ L ∧ ∀ j, bm A j e = true → j ∈ L := by
    intro e
    rw [rdy_bit hn (bef_m64 hn A) hlt, hI.bit]
    constructor
    · rintro ⟨h1, h2, h3⟩; exact ⟨h1, by simpa using h2, (hb e h1).1 h3⟩
    · rintro ⟨h1, h2, h3⟩; exact ⟨h1, by simpa using h2, (hb e h1).2 h3⟩
  have hm2 : (rdy n (bef n A) p).testBit m = true := (hr m).2 ⟨hm.1, hm.2, fun j hj => Classical.byContradiction fun hc => hmin j hj ⟨(h.lt j m hj).1, hc⟩⟩
  have h0 : rdy n (bef n A) p ≠ 0 := by intro h0; rw [h0] at hm2; simp at hm2
  have he := (hr e).1 (by rw [hedef]; exact bit_low h0 (rdy_lt n _ _))
  refine ⟨he.1, he.2.1, he.2.2, fun x hx hxL => ?_⟩
  have := bit_below h0 (rdy_lt n _ _) (by rw [← hedef]; exact hx)
  apply Classical.byContradiction
  intro hc
  have h3 := (hr x).2 ⟨by have := he.1; omega, hxL, fun j hj => Classical.byContradiction fun hcc => hc ⟨j, hj, hcc⟩⟩
  rw [this] at h3
  cases h3
theorem srt_inv {n : Nat} (hn : n ≤ 64) {A : Nat → Nat} (h : SO n (bm A)) : ∀ k, k ≤ n → SrtI n (bm A) (srt n (bef n A) k).1 (srt n (bef n A) k).2
  | 0, _ => ⟨fun j => by simp [srt], by simp [srt], fun x hx => by simp [srt] at hx⟩
  | k + 1, hk => by
    have hI := srt_inv hn h k (by omega)
    obtain ⟨h1, h2, _⟩ := srt_next hn h (by omega) hI _ rfl
    have e1 : (srt n (bef n A) (k + 1)).1 = (srt n (bef n A) k).1 ||| sg (low (rdy n (bef n A) (srt n (bef n A) k).1)) := rfl
    have e2 : (srt n (bef n A) (k + 1)).2 = (srt n (bef n A) k).2 ++ [low (rdy n (bef n A) (srt n (bef n A) k).1)] := rfl
    rw [e1, e2]
    generalize low (rdy n (bef n A) (srt n (bef n A) k).1) = e at h1 h2
    refine ⟨fun j => ?_, ?_, fun x hx => ?_⟩
    · rw [Nat.testBit_or, hI.bit, sg_bit (by omega), Bool.eq_iff_iff]
      simp only [Bool.or_eq_true, decide_eq_true_eq, List.mem_append, List.mem_singleton]
      exact or_congr Iff.rfl ⟨Eq.symm, Eq.symm⟩
    · rw [List.nodup_append]
      refine ⟨hI.nd, by simp, fun a ha b hb => ?_⟩
      simp at hb
      subst hb
      intro e3
      subst e3
      exact h2 ha
    · rcases List.mem_append.1 hx with hx | hx
      · exact hI.lt x hx
      · simp at hx; omega
theorem srt_take (n : Nat) (B : Nat → Nat) (k : Nat) : ∀ d, (srt n B (k + d)).2.take k = (srt n B k).2
  | 0 => by rw [Nat.add_zero]; exact List.take_of_length_le (by rw [srt_len]; omega)
  | d + 1 => by
    have e2 : (srt n B (k + d + 1)).2 = (srt n B (k + d)).2 ++ [low (rdy n B (srt n B (k + d)).1)] := rfl
    rw [← Nat.add_assoc, e2, List.take_append_of_le_length (by rw [srt_len]; omega), srt_take n B k d]
/-- The topological order of a strict order, as the law asks for it. -/
theorem srt_spec {n : Nat} (hn : n ≤ 64) {A : Nat → Nat} (h : SO n (bm A)) {s : List Nat} (hs : s = (srt n (bef n A) n).2) :
    s.length = n ∧ s.Nodup ∧ (∀ x ∈ s, x < n) ∧ (∀ i e, s[i]? = some e → (∀ j, bm A j e = true → j ∈ s.take i) ∧ ∀ x, x < e → x ∉ s.take i → ∃ j, bm A j x = true ∧ j ∉ s.take i) := by
  have hI := srt_inv hn h n (Nat.le_refl _)
  have hlen := srt_len n (bef n A) n
  rw [← hs] at hI hlen
  refine ⟨hlen, hI.nd, hI.lt, fun i e he => ?_⟩
  have hi : i < n := by rw [← hlen]; exact (List.getElem?_eq_some_iff.1 he).1
  have ht : s.take i = (srt n (bef n A) i).2 := by
    have := srt_take n (bef n A) i (n - i)
    rw [show i + (n - i) = n by omega, ← hs] at this
    exact this
  have he2 : e = low (rdy n (bef n A) (srt n (bef n A) i).1) := by
    have h1 : s.take (i + 1) = (srt n (bef n A) (i + 1)).2 := by
      have := srt_take n (bef n A) (i + 1) (n - (i + 1))
      rw [show i + 1 + (n - (i + 1)) = n by omega, ← hs] at this
      exact this
    have h2 : (srt n (bef n A) (i + 1)).2 = (srt n (bef n A) i).2 ++ [low (rdy n (bef n A) (srt n (bef n A) i).1)] := rfl
    have h3 : (s.take (i + 1))[i]? = some e := by rw [List.getElem?_take_of_lt (by omega)]; exact he
    rw [h1, h2, List.getElem?_append_right (by rw [srt_len]; omega), srt_len] at h3
    simp at h3
    exact h3.symm
  obtain ⟨_, _, h3, h4⟩ := srt_next hn h hi (srt_inv hn h i (by omega)) e he2
  rw [ht]
  exact ⟨h3, h4⟩
end Go.Proofs.YtjfjcgbdpjpodaaDoor
