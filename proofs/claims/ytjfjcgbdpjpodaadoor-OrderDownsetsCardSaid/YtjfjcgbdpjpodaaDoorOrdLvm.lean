/- Mathematics of levels: layer by layer, what a level is, and that the levels of an order and of its reverse fit. No program. -/
import Derived.Test.YtjfjcgbdpjpodaaDoorOrdAt
namespace Go.Proofs.YtjfjcgbdpjpodaaDoor

/-- Levels of a strict order: c of them. -/
structure LvOk (n : Nat) (R : Nat → Nat → Bool) (c : Nat) (L : Nat → Nat) : Prop where
  lt : ∀ x, x < n → L x < c
  up : ∀ y x, R y x = true → L y < L x
  step : ∀ x j, x < n → L x = j + 1 → ∃ y, R y x = true ∧ L y = j
  full : ∀ j, j < c → ∃ x, x < n ∧ L x = j
  le : c ≤ n
/-- How many of the numbers below n are in a set. -/
def cnt (n p : Nat) : Nat := ((List.range n).filter fun x => p.testBit x).length
theorem cnt_n (n p : Nat) : cnt n p ≤ n := Nat.le_trans (List.length_filter_le _ _) (by simp)
/-- What is known after k layers. -/
structure LvI (n : Nat) (R : Nat → Nat → Bool) (k p : Nat) (L : Nat → Nat) : Prop where
  m : p < M64
  lt : ∀ x, p.testBit x = true → x < n ∧ L x < k
  up : ∀ y x, p.testBit x = true → R y x = true → p.testBit y = true ∧ L y < L x
  step : ∀ x j, p.testBit x = true → L x = j + 1 → ∃ y, R y x = true ∧ L y = j
  full : ∀ j, j < k → ∃ x, p.testBit x = true ∧ L x = j
  mx : ∀ x, x < n → p.testBit x = false → ∀ j, k = j + 1 → ∃ y, R y x = true ∧ (p.testBit y = true → L y = j)
  cnt : k ≤ cnt n p
theorem LvI.start (n : Nat) (R : Nat → Nat → Bool) (L : Nat → Nat) : LvI n R 0 0 L :=
  ⟨by decide, fun x h => by simp at h, fun y x h => by simp at h, fun x j h => by simp at h, fun j h => by omega, fun x _ _ j h => by omega, Nat.zero_le _⟩
section
variable {n : Nat} (hn : n ≤ 64) {R : Nat → Nat → Bool} (hR : SO n R) {N : Nat → Nat} (hN : ∀ e, N e < M64) (hb : ∀ e, e < n → ∀ y, (N e).testBit y = R y e)
include hn hN hb
theorem ly_bit {p : Nat} (hp : p < M64) (e : Nat) : (rdy n N p).testBit e = true ↔ e < n ∧ p.testBit e = false ∧ ∀ y, R y e = true → p.testBit y = true := by
  rw [rdy_bit hn hN hp]
  constructor
  · rintro ⟨h1, h2, h3⟩; exact ⟨h1, h2, fun y hy => h3 y (by rw [hb e h1]; exact hy)⟩
  · rintro ⟨h1, h2, h3⟩; exact ⟨h1, h2, fun y hy => h3 y (by rw [← hb e h1]; exact hy)⟩
include hR
/-- The next layer is not empty. -/
theorem ly_some {p : Nat} (hp : p < M64) {x : Nat} (hx : x < n) (hxp : p.testBit x = false) : ∃ e, (rdy n N p).testBit e = true := by
  obtain ⟨m, hm, hmin⟩ := hR.min (fun y => y < n ∧ p.testBit y = false) _ x (Nat.le_refl _) ⟨hx, hxp⟩
  refine ⟨m, (ly_bit hn hN hb hp m).2 ⟨hm.1, hm.2, fun y hy => ?_⟩⟩
  cases h : p.testBit y
  · exact absurd ⟨(hR.lt y m hy).1, h⟩ (hmin y hy)
  · rfl
theorem LvI.next {k p : Nat} {L : Nat → Nat} (h : LvI n R k p L) {x : Nat} (hx : x < n) (hxp : p.testBit x = false) :
    LvI n R (k + 1) (p ||| rdy n N p) (fun x => if (rdy n N p).testBit x = true then k else L x) := by
  have hl := ly_bit hn hN hb h.m
  have hsome := ly_some hn hR hN hb h.m hx hxp
  have hm : rdy n N p < M64 := rdy_lt _ _ _
  generalize rdy n N p = q at *
  have hq : ∀ x, p.testBit x = true → ¬ q.testBit x = true := fun x h1 h2 => by rw [((hl x).1 h2).2.1] at h1; cases h1
  refine ⟨or_lt h.m hm, fun x hx => ?_, fun y x hx hr => ?_, fun x j hx hj => ?_, fun j hj => ?_, fun x hx hxp j hj => ?_, ?_⟩
  · rw [Nat.testBit_or, Bool.or_eq_true] at hx
    by_cases hqx : q.testBit x = true
    · rw [if_pos hqx]; exact ⟨((hl x).1 hqx).1, by omega⟩
    · rw [if_neg hqx]
      have := h.lt x (by rcases hx with hx | hx; exact hx; exact absurd hx hqx)
      exact ⟨this.1, by omega⟩
  · rw [Nat.testBit_or, Bool.or_eq_true] at hx
    by_cases hqx : q.testBit x = true
    · have hy := ((hl x).1 hqx).2.2 y hr
      rw [if_pos hqx, if_neg (hq y hy)]
      exact ⟨by rw [Nat.testBit_or, hy]; rfl, (h.lt y hy).2⟩
    · have hpx : p.testBit x = true := by rcases hx with hx | hx; exact hx; exact absurd hx hqx
      obtain ⟨h1, h2⟩ := h.up y x hpx hr
      rw [if_neg hqx, if_neg (hq y h1)]
      exact ⟨by rw [Nat.testBit_or, h1]; rfl, h2⟩
  · rw [Nat.testBit_or, Bool.or_eq_true] at hx
    by_cases hqx : q.testBit x = true
    · rw [if_pos hqx] at hj
      have h1 := (hl x).1 hqx
      obtain ⟨y, hy, hy2⟩ := h.mx x h1.1 h1.2.1 j hj
      have hyp := h1.2.2 y hy
      exact ⟨y, hy, by rw [if_neg (hq y hyp)]; exact hy2 hyp⟩
    · rw [if_neg hqx] at hj
      have hpx : p.testBit x = true := by rcases hx with hx | hx; exact hx; exact absurd hx hqx
      obtain ⟨y, hy, hy2⟩ := h.step x j hpx hj
      exact ⟨y, hy, by rw [if_neg (hq y (h.up y x hpx hy).1)]; exact hy2⟩
  · by_cases hjk : j = k
    · obtain ⟨e, he⟩ := hsome
      exact ⟨e, by rw [Nat.testBit_or, he, Bool.or_true], by rw [if_pos he, hjk]⟩
    · obtain ⟨e, he, he2⟩ := h.full j (by omega)
      exact ⟨e, by rw [Nat.testBit_or, he]; rfl, by rw [if_neg (hq e he)]; exact he2⟩
  · rw [Nat.testBit_or, Bool.or_eq_false_iff] at hxp
    obtain rfl : k = j := by omega
    have hnot : ¬ (x < n ∧ p.testBit x = false ∧ ∀ y, R y x = true → p.testBit y = true) := fun h1 => by rw [(hl x).2 h1] at hxp; cases hxp.2
    have : ∃ y, R y x = true ∧ p.testBit y = false := Classical.byContradiction fun hc => hnot ⟨hx, hxp.1, fun y hy => by
      cases hpy : p.testBit y
      · exact absurd ⟨y, hy, hpy⟩ hc
      · rfl⟩
    obtain ⟨y, hy, hpy⟩ := this
    refine ⟨y, hy, fun h1 => ?_⟩
    rw [Nat.testBit_or, hpy, Bool.false_or] at h1
    rw [if_pos h1]
  · have hlt : Proofs.YtjfjcgbdpjpodaaDoor.cnt n p < Proofs.YtjfjcgbdpjpodaaDoor.cnt n (p ||| q) := by
      obtain ⟨e, he⟩ := hsome
      exact cnt_lt n (fun j _ hj => by rw [Nat.testBit_or, hj]; rfl) ⟨e, ((hl e).1 he).1, by rw [Nat.testBit_or, he, Bool.or_true], ((hl e).1 he).2.1⟩
    have := h.cnt
    omega
theorem ly_cnt {p : Nat} (hp : p < M64) {x : Nat} (hx : x < n) (hxp : p.testBit x = false) : cnt n p < cnt n (p ||| rdy n N p) := by
  obtain ⟨e, he⟩ := ly_some hn hR hN hb hp hx hxp
  have h1 := (ly_bit hn hN hb hp e).1 he
  exact cnt_lt n (fun j _ hj => by rw [Nat.testBit_or, hj]; rfl) ⟨e, h1.1, by rw [Nat.testBit_or, he, Bool.or_true], h1.2.1⟩
end
theorem ne_all {n p : Nat} (hn : n ≤ 64) (hb : ∀ x, p.testBit x = true → x < n) (h : p ≠ allS n) : ∃ x, x < n ∧ p.testBit x = false := by
  apply Classical.byContradiction
  intro hc
  apply h
  apply Nat.eq_of_testBit_eq
  intro j
  rw [allS_bit hn]
  by_cases hj : j < n
  · cases hpj : p.testBit j
    · exact absurd ⟨j, hj, hpj⟩ hc
    · simp [hj]
  · cases hpj : p.testBit j
    · simp [hj]
    · exact absurd (hb j hpj) hj
theorem LvI.done {n : Nat} {R : Nat → Nat → Bool} (hR : SO n R) {k p : Nat} {L : Nat → Nat} (hn : n ≤ 64) (h : LvI n R k p L) (hp : p = allS n) : LvOk n R k L := by
  have hb : ∀ x, x < n → p.testBit x = true := fun x hx => by rw [hp, allS_bit hn]; simpa using hx
  refine ⟨fun x hx => (h.lt x (hb x hx)).2, fun y x hr => (h.up y x (hb x (hR.lt y x hr).2) hr).2, fun x j hx hj => h.step x j (hb x hx) hj, fun j hj => ?_, Nat.le_trans h.cnt (cnt_n _ _)⟩
  obtain ⟨x, h1, h2⟩ := h.full j hj
  exact ⟨x, (h.lt x h1).1, h2⟩
theorem SO.rev {n : Nat} {R : Nat → Nat → Bool} (h : SO n R) : SO n (fun a b => R b a) :=
  ⟨h.irr, fun a b c h1 h2 => h.tr c b a h2 h1, fun a b h1 => ⟨(h.lt b a h1).2, (h.lt b a h1).1⟩⟩
/-- Two levelings of one order are the same. -/
theorem LvOk.same {n : Nat} {R : Nat → Nat → Bool} {c c' : Nat} {L L' : Nat → Nat} (hR : SO n R) (h : LvOk n R c L) (h' : LvOk n R c' L') : ∀ k x, x < n → L x ≤ k → L x = L' x := by
  intro k
  induction k with
  | zero =>
    intro x hx hk
    cases hl : L' x with
    | zero => omega
    | succ j =>
      obtain ⟨y, hy, _⟩ := h'.step x j hx hl
      have := h.up y x hy
      omega
  | succ k ih =>
    intro x hx hk
    apply Nat.le_antisymm
    · cases hl : L x with
      | zero => omega
      | succ j =>
        obtain ⟨y, hy, hy2⟩ := h.step x j hx hl
        have h1 := ih y (hR.lt y x hy).1 (by omega)
        have h2 := h'.up y x hy
        omega
    · cases hl : L' x with
      | zero => omega
      | succ j =>
        obtain ⟨y, hy, hy2⟩ := h'.step x j hx hl
        have h2 := h.up y x hy
        have h1 := ih y (hR.lt y x hy).1 (by omega)
        omega
/-- Down the levels of the order, the levels of its reverse go up. -/
theorem LvOk.fit {n : Nat} {R : Nat → Nat → Bool} {c c' : Nat} {L D : Nat → Nat} (hR : SO n R) (h : LvOk n R c L) (h' : LvOk n (fun a b => R b a) c' D) : ∀ k x, x < n → L x = k → L x + D x < c'
  | 0, x, hx, hk => by have := h'.lt x hx; omega
  | k + 1, x, hx, hk => by
    obtain ⟨y, hy, hy2⟩ := h.step x k hx hk
    have h1 := LvOk.fit hR h h' k y (hR.lt y x hy).1 hy2
    have h2 := h'.up x y hy
    omega
end Go.Proofs.YtjfjcgbdpjpodaaDoor
