/- Mathematics of the down-closed sets: the program's search and the reference's list the same sets. No program. -/
import Derived.Test.YtjfjcgbdpjpodaaDoorOrdMnm
namespace Go.Proofs.YtjfjcgbdpjpodaaDoor

/-- Whether a list is down-closed. -/
def down (n : Nat) (R : Nat → Nat → Bool) (l : List Nat) : Bool := l.all fun x => (List.range n).all fun y => !R y x || decide (y ∈ l)
theorem down_iff {n : Nat} {R : Nat → Nat → Bool} (hR : SO n R) {l : List Nat} : down n R l = true ↔ ∀ x ∈ l, ∀ y, R y x = true → y ∈ l := by
  unfold down
  simp only [List.all_eq_true, List.mem_range, Bool.or_eq_true, Bool.not_eq_true', decide_eq_true_eq]
  constructor
  · intro h x hx y hy
    rcases h x hx y (hR.lt y x hy).1 with h1 | h1
    · rw [hy] at h1; cases h1
    · exact h1
  · intro h x hx y _
    cases hy : R y x
    · exact .inl rfl
    · exact .inr (h x hx y hy)
/-- The reference's list: from l on, with elements from p on; f bounds the depth. -/
def frm (n : Nat) (R : Nat → Nat → Bool) : Nat → List Nat → Nat → List (List Nat)
  | 0, l, _ => if down n R l then [l] else []
  | f + 1, l, p => (if down n R l then [l] else []) ++ (List.range' p (n - p)).flatMap fun i => frm n R f (l ++ [i]) (i + 1)
/-- The elements still to come. -/
def rst (n : Nat) (R : Nat → Nat → Bool) (f : Nat) (l : List Nat) (p : Nat) : List (List Nat) := (List.range' p (n - p)).flatMap fun i => frm n R f (l ++ [i]) (i + 1)
theorem frm_succ (n : Nat) (R : Nat → Nat → Bool) (f : Nat) (l : List Nat) (p : Nat) : frm n R (f + 1) l p = (if down n R l then [l] else []) ++ rst n R f l p := rfl
theorem rst_end (n : Nat) (R : Nat → Nat → Bool) (f : Nat) (l : List Nat) {p : Nat} (h : n ≤ p) : rst n R f l p = [] := by
  unfold rst; rw [show n - p = 0 by omega]; rfl
theorem rst_step (n : Nat) (R : Nat → Nat → Bool) (f : Nat) (l : List Nat) {p : Nat} (h : p < n) : rst n R f l p = frm n R f (l ++ [p]) (p + 1) ++ rst n R f l (p + 1) := by
  unfold rst; rw [show n - p = (n - (p + 1)) + 1 by omega, List.range'_succ]; rfl
/-- A lack that can't be filled. -/
theorem frm_nil {n : Nat} {R : Nat → Nat → Bool} (hR : SO n R) {y : Nat} : ∀ (f : Nat) (l : List Nat) (p : Nat), y < p → y ∉ l → (∃ x ∈ l, R y x = true) → frm n R f l p = []
  | 0, l, p, h1, h2, ⟨x, hx, hr⟩ => by
    unfold frm
    rw [if_neg]
    intro hd
    exact h2 ((down_iff hR).1 hd x hx y hr)
  | f + 1, l, p, h1, h2, ⟨x, hx, hr⟩ => by
    rw [frm_succ, if_neg (fun hd => h2 ((down_iff hR).1 hd x hx y hr)), List.nil_append]
    unfold rst
    rw [List.flatMap_eq_nil_iff]
    intro i hi
    have hip : p ≤ i := by simp [List.mem_range'] at hi; omega
    exact frm_nil hR f (l ++ [i]) (i + 1) (by omega) (by simp [h2]; omega) ⟨x, by simp [hx], hr⟩
theorem rst_nil {n : Nat} {R : Nat → Nat → Bool} (hR : SO n R) {y : Nat} (f : Nat) (l : List Nat) (p : Nat) (h1 : y < p) (h2 : y ∉ l) (h3 : ∃ x ∈ l, R y x = true) : rst n R f l p = [] := by
  obtain ⟨x, hx, hr⟩ := h3
  unfold rst
  rw [List.flatMap_eq_nil_iff]
  intro i hi
  have hip : p ≤ i := by simp [List.mem_range'] at hi; omega
  exact frm_nil hR f (l ++ [i]) (i + 1) (by omega) (by simp [h2]; omega) ⟨x, by simp [hx], hr⟩

/-- A list as a set. -/
def msk (l : List Nat) : Nat := l.foldl (fun m e => m ||| sg e) 0
theorem msk_snoc (l : List Nat) (e : Nat) : msk (l ++ [e]) = msk l ||| sg e := by unfold msk; rw [foldl_snoc]
theorem msk_lt (l : List Nat) : msk l < M64 := foldl_inv (· < M64) _ l 0 (by decide) fun _ _ _ h => or_lt h (sg_lt _)
theorem msk_bit (l : List Nat) (h : ∀ x ∈ l, x < 64) (j : Nat) : (msk l).testBit j = decide (j ∈ l) := by
  have key : ∀ (l : List Nat) (m : Nat), (∀ x ∈ l, x < 64) → (l.foldl (fun m e => m ||| sg e) m).testBit j = (m.testBit j || decide (j ∈ l)) := by
    intro l
    induction l with
    | nil => intro m _; simp
    | cons x r ih =>
      intro m hl
      rw [List.foldl_cons, ih _ (fun y hy => hl y (by simp [hy])), Nat.testBit_or, sg_bit (hl x (by simp)), Bool.eq_iff_iff]
      simp only [Bool.or_eq_true, decide_eq_true_eq, List.mem_cons]
      constructor
      · rintro ((h1 | h1) | h1)
        · exact .inl h1
        · exact .inr (.inl h1.symm)
        · exact .inr (.inr h1)
      · rintro (h1 | h1 | h1)
        · exact .inl (.inl h1)
        · exact .inl (.inr h1.symm)
        · exact .inr h1
  unfold msk
  rw [key l 0 h]
  simp
/-- What the program visits behind (chosen, lacking, open); f bounds the rounds. -/
def lp (A B : Nat → Nat) : Nat → Nat → Nat → Nat → List Nat
  | 0, _, _, _ => []
  | f + 1, c, l, o => if o = 0 then [] else
      let e := low o
      let w := c ||| sg e
      let l2 := mns (l ||| B e) w
      ((if l2 = 0 then [w] else []) ++ lp A B f w l2 (mns o (sg e))) ++ (if l.testBit e then [] else lp A B f c l (mns o (sg e ||| A e)))
/-- The program's state at the list l, from p on. -/
structure DwI (n : Nat) (R : Nat → Nat → Bool) (l : List Nat) (p lack o : Nat) : Prop where
  lt : ∀ x ∈ l, x < p
  lk : ∀ y, lack.testBit y = true ↔ y ∉ l ∧ ∃ x ∈ l, R y x = true
  lm : lack < M64
  lo : ∀ y, lack.testBit y = true → p ≤ y
  op : ∀ x, o.testBit x = true ↔ p ≤ x ∧ x < n ∧ ∀ y, y < p → R y x = true → y ∈ l
  om : o < M64
theorem DwI.zero {n : Nat} {R : Nat → Nat → Bool} (hR : SO n R) {l : List Nat} {p lack o : Nat} (h : DwI n R l p lack o) : lack = 0 ↔ down n R l = true := by
  rw [down_iff hR]
  constructor
  · intro h0 x hx y hy
    apply Classical.byContradiction
    intro hc
    have := (h.lk y).2 ⟨hc, x, hx, hy⟩
    rw [h0] at this
    simp at this
  · intro h1
    apply Nat.eq_of_testBit_eq
    intro y
    rw [Nat.zero_testBit, Bool.eq_false_iff]
    intro hy
    obtain ⟨h2, x, hx, hr⟩ := (h.lk y).1 hy
    exact h2 (h1 x hx y hr)
theorem DwI.skip {n : Nat} {R : Nat → Nat → Bool} (hR : SO n R) {l : List Nat} {p lack o : Nat} (h : DwI n R l p lack o) (hp : o.testBit p = false) (hpn : p < n) : DwI n R l (p + 1) lack o ∧ lack.testBit p = false := by
  have hex : ∃ y, y < p ∧ R y p = true ∧ y ∉ l := by
    apply Classical.byContradiction
    intro hc
    have := (h.op p).2 ⟨Nat.le_refl _, hpn, fun y hy hr => Classical.byContradiction fun h1 => hc ⟨y, hy, hr, h1⟩⟩
    rw [hp] at this
    cases this
  obtain ⟨z, hz, hzr, hzl⟩ := hex
  have hlp : lack.testBit p = false := by
    rw [Bool.eq_false_iff]
    intro h1
    obtain ⟨_, x, hx, hr⟩ := (h.lk p).1 h1
    have := h.lo z ((h.lk z).2 ⟨hzl, x, hx, hR.tr _ _ _ hzr hr⟩)
    omega
  refine ⟨⟨fun x hx => by have := h.lt x hx; omega, h.lk, h.lm, fun y hy => ?_, fun x => ?_, h.om⟩, hlp⟩
  · have := h.lo y hy
    by_cases e : y = p
    · subst e; rw [hlp] at hy; cases hy
    · omega
  · rw [h.op]
    constructor
    · rintro ⟨h1, h2, h3⟩
      have hne : x ≠ p := by
        rintro rfl
        exact hzl (h3 z hz hzr)
      refine ⟨by omega, h2, fun y hy hr => ?_⟩
      by_cases e : y = p
      · subst e
        exact absurd (h3 z hz (hR.tr _ _ _ hzr hr)) hzl
      · exact h3 y (by omega) hr
    · rintro ⟨h1, h2, h3⟩
      exact ⟨by omega, h2, fun y hy hr => h3 y (by omega) hr⟩
theorem DwI.take {n : Nat} (hn : n ≤ 64) {B : Nat → Nat} (hB : ∀ i, B i < M64) {R : Nat → Nat → Bool} (hBR : ∀ e, e < n → ∀ y, (B e).testBit y = R y e) {l : List Nat} {p lack o : Nat} (h : DwI n R l p lack o) (hp : o.testBit p = true) : DwI n R (l ++ [p]) (p + 1) (mns (lack ||| B p) (msk l ||| sg p)) (mns o (sg p)) := by
  obtain ⟨_, hpn, hpl⟩ := (h.op p).1 hp
  have hl64 : ∀ x ∈ l, x < 64 := fun x hx => by have := h.lt x hx; omega
  have hpl2 : p ∉ l := fun h1 => by have := h.lt p h1; omega
  have hbit : ∀ y, (mns (lack ||| B p) (msk l ||| sg p)).testBit y = true ↔ y ∉ l ++ [p] ∧ ∃ x ∈ l ++ [p], R y x = true := by
    intro y
    rw [mns_bit (or_lt h.lm (hB p)) (or_lt (msk_lt l) (sg_lt p)), Nat.testBit_or, Nat.testBit_or, msk_bit l hl64, sg_bit (by omega), hBR p hpn]
    simp only [Bool.and_eq_true, Bool.or_eq_true, Bool.not_eq_true', Bool.or_eq_false_iff, decide_eq_false_iff_not, h.lk, List.mem_append, List.mem_singleton, not_or]
    constructor
    · rintro ⟨h1, h2, h3⟩
      refine ⟨⟨h2, fun e => h3 e.symm⟩, ?_⟩
      rcases h1 with ⟨_, x, hx, hr⟩ | h1
      · exact ⟨x, .inl hx, hr⟩
      · exact ⟨p, .inr rfl, h1⟩
    · rintro ⟨⟨h1, h2⟩, x, hx | hx, hr⟩
      · exact ⟨.inl ⟨h1, x, hx, hr⟩, h1, fun e => h2 e.symm⟩
      · subst hx; exact ⟨.inr hr, h1, fun e => h2 e.symm⟩
  refine ⟨fun x hx => ?_, hbit, mns_lt (or_lt h.lm (hB p)), fun y hy => ?_, fun x => ?_, mns_lt h.om⟩
  · rcases List.mem_append.1 hx with hx | hx
    · have := h.lt x hx; omega
    · simp at hx; omega
  · obtain ⟨h1, x, hx, hr⟩ := (hbit y).1 hy
    simp only [List.mem_append, List.mem_singleton, not_or] at h1
    have hpy : p ≤ y := by
      rcases List.mem_append.1 hx with hx | hx
      · exact h.lo y ((h.lk y).2 ⟨h1.1, x, hx, hr⟩)
      · simp at hx
        subst hx
        apply Nat.le_of_not_lt
        intro hlt
        exact h1.1 (hpl y hlt hr)
    omega
  · rw [mns_bit h.om (sg_lt p), sg_bit (by omega)]
    simp only [Bool.and_eq_true, Bool.not_eq_true', decide_eq_false_iff_not, h.op]
    constructor
    · rintro ⟨⟨h1, h2, h3⟩, h4⟩
      refine ⟨by omega, h2, fun y hy hr => ?_⟩
      by_cases e : y = p
      · subst e; simp
      · exact List.mem_append.2 (.inl (h3 y (by omega) hr))
    · rintro ⟨h1, h2, h3⟩
      refine ⟨⟨by omega, h2, fun y hy hr => ?_⟩, by omega⟩
      rcases List.mem_append.1 (h3 y (by omega) hr) with h4 | h4
      · exact h4
      · simp at h4; omega
theorem DwI.drop {n : Nat} (hn : n ≤ 64) {A : Nat → Nat} (hA : ∀ i, A i < M64) {R : Nat → Nat → Bool} (hAR : ∀ e, e < n → ∀ y, (A e).testBit y = R e y) {l : List Nat} {p lack o : Nat} (h : DwI n R l p lack o) (hp : o.testBit p = true) (hl : lack.testBit p = false) : DwI n R l (p + 1) lack (mns o (sg p ||| A p)) := by
  obtain ⟨_, hpn, hpl⟩ := (h.op p).1 hp
  have hpl2 : p ∉ l := fun h1 => by have := h.lt p h1; omega
  refine ⟨fun x hx => by have := h.lt x hx; omega, h.lk, h.lm, fun y hy => ?_, fun x => ?_, mns_lt h.om⟩
  · have := h.lo y hy
    by_cases e : y = p
    · subst e; rw [hl] at hy; cases hy
    · omega
  · rw [mns_bit h.om (or_lt (sg_lt p) (hA p)), Nat.testBit_or, sg_bit (by omega), hAR p hpn]
    simp only [Bool.and_eq_true, Bool.not_eq_true', Bool.or_eq_false_iff, decide_eq_false_iff_not, h.op]
    constructor
    · rintro ⟨⟨h1, h2, h3⟩, h4, h5⟩
      refine ⟨by omega, h2, fun y hy hr => ?_⟩
      by_cases e : y = p
      · subst e; rw [h5] at hr; cases hr
      · exact h3 y (by omega) hr
    · rintro ⟨h1, h2, h3⟩
      refine ⟨⟨by omega, h2, fun y hy hr => h3 y (by omega) hr⟩, by omega, ?_⟩
      rw [Bool.eq_false_iff]
      intro hr
      exact hpl2 (h3 p (by omega) hr)
theorem DwI.low {n : Nat} {R : Nat → Nat → Bool} {l : List Nat} {p lack o : Nat} (h : DwI n R l p lack o) (hp : o.testBit p = true) : o ≠ 0 ∧ Proofs.YtjfjcgbdpjpodaaDoor.low o = p := by
  have h0 : o ≠ 0 := by rintro rfl; simp at hp
  refine ⟨h0, ?_⟩
  have h1 := bit_low h0 h.om
  have h2 := ((h.op _).1 h1).1
  apply Nat.le_antisymm _ h2
  apply Nat.le_of_not_lt
  intro h3
  have := bit_below h0 h.om h3
  rw [hp] at this
  cases this
/-- The search lists what the reference lists. -/
theorem lp_eq {n : Nat} (hn : n ≤ 64) {A B : Nat → Nat} (hA : ∀ i, A i < M64) (hB : ∀ i, B i < M64) {R : Nat → Nat → Bool} (hR : SO n R) (hAR : ∀ e, e < n → ∀ y, (A e).testBit y = R e y) (hBR : ∀ e, e < n → ∀ y, (B e).testBit y = R y e) : ∀ (d : Nat) (l : List Nat) (p lack o f g : Nat), n - p ≤ d → n - p ≤ f → n - p ≤ g → p ≤ n → DwI n R l p lack o → lp A B f (msk l) lack o = (rst n R g l p).map msk
  | 0, l, p, lack, o, f, g, hd, _, _, hpn, h => by
    rw [rst_end n R g l (by omega)]
    have h0 : o = 0 := by
      apply Nat.eq_of_testBit_eq
      intro j
      rw [Nat.zero_testBit, Bool.eq_false_iff]
      intro hj
      have := (h.op j).1 hj
      omega
    subst h0
    cases f <;> simp [lp]
  | d + 1, l, p, lack, o, f, g, hd, hf, hg, hpn, h => by
    by_cases hp0 : p = n
    · exact lp_eq hn hA hB hR hAR hBR 0 l p lack o f g (by omega) hf hg hpn h
    rw [rst_step n R g l (by omega)]
    cases hp : o.testBit p
    · obtain ⟨h2, h3⟩ := DwI.skip hR h hp (by omega)
      have hex : ∃ y, y < p ∧ R y p = true ∧ y ∉ l := by
        apply Classical.byContradiction
        intro hc
        have := (h.op p).2 ⟨Nat.le_refl _, by omega, fun y hy hr => Classical.byContradiction fun h1 => hc ⟨y, hy, hr, h1⟩⟩
        rw [hp] at this
        cases this
      obtain ⟨z, hz, hzr, hzl⟩ := hex
      rw [frm_nil hR (y := z) g (l ++ [p]) (p + 1) (by omega) (by simp [hzl]; omega) ⟨p, by simp, hzr⟩, List.nil_append]
      exact lp_eq hn hA hB hR hAR hBR d l (p + 1) lack o f g (by omega) (by omega) (by omega) (by omega) h2
    · obtain ⟨h0, hlow⟩ := DwI.low h hp
      obtain ⟨f, rfl⟩ : ∃ f', f = f' + 1 := ⟨f - 1, by omega⟩
      obtain ⟨g, rfl⟩ : ∃ g', g = g' + 1 := ⟨g - 1, by omega⟩
      have ht := DwI.take hn hB hBR h hp
      have ih1 := lp_eq hn hA hB hR hAR hBR d (l ++ [p]) (p + 1) _ _ f g (by omega) (by omega) (by omega) (by omega) ht
      rw [msk_snoc] at ih1
      have hz := DwI.zero hR ht
      have e1 : lp A B (f + 1) (msk l) lack o = ((if mns (lack ||| B p) (msk l ||| sg p) = 0 then [msk l ||| sg p] else []) ++ lp A B f (msk l ||| sg p) (mns (lack ||| B p) (msk l ||| sg p)) (mns o (sg p))) ++ (if lack.testBit p then [] else lp A B f (msk l) lack (mns o (sg p ||| A p))) := by
        rw [lp, if_neg h0, hlow]
      rw [e1, ih1, frm_succ, List.map_append, List.map_append]
      congr 1
      · congr 1
        by_cases hdw : down n R (l ++ [p]) = true
        · rw [if_pos (hz.2 hdw), if_pos hdw, List.map_singleton, msk_snoc]
        · rw [if_neg (fun h1 => hdw (hz.1 h1)), if_neg hdw, List.map_nil]
      · cases hlp : lack.testBit p
        · rw [if_neg (by simp)]
          exact lp_eq hn hA hB hR hAR hBR d l (p + 1) lack _ f (g + 1) (by omega) (by omega) (by omega) (by omega) (DwI.drop hn hA hAR h hp hlp)
        · rw [if_pos rfl]
          obtain ⟨h2, x, hx, hr⟩ := (h.lk p).1 hlp
          rw [rst_nil hR (y := p) (g + 1) l (p + 1) (by omega) h2 ⟨x, hx, hr⟩, List.map_nil]
end Go.Proofs.YtjfjcgbdpjpodaaDoor
