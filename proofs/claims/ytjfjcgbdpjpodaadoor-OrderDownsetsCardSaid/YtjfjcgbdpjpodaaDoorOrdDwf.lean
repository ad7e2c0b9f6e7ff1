/- What Downsets answers: mathematics. Bounds on sizes alone. -/
import Derived.Test.YtjfjcgbdpjpodaaDoorOrdGat
namespace Go.Proofs.YtjfjcgbdpjpodaaDoor
open Go.RowKit

theorem frm_rst_len (n : Nat) (R : Nat → Nat → Bool) : ∀ (d f : Nat) (l : List Nat) (p : Nat), n - p ≤ d → (rst n R f l p).length + 1 ≤ 2 ^ d ∧ (frm n R f l p).length ≤ 2 ^ d
  | d, f, l, p, h => by
    have h1 : (rst n R f l p).length + 1 ≤ 2 ^ d := by
      by_cases hp : n ≤ p
      · rw [rst_end n R f l hp]; exact Nat.one_le_two_pow
      · match d, h with
        | 0, h => omega
        | d + 1, h =>
          rw [rst_step n R f l (by omega), List.length_append]
          have q1 := (frm_rst_len n R d f (l ++ [p]) (p + 1) (by omega)).2
          have q2 := (frm_rst_len n R d f l (p + 1) (by omega)).1
          rw [Nat.pow_succ]
          omega
    refine ⟨h1, ?_⟩
    cases f with
    | zero =>
      unfold frm
      have := @Nat.one_le_two_pow d
      split <;> simp <;> omega
    | succ f =>
      rw [frm_succ, List.length_append]
      have h2 : (rst n R f l p).length + 1 ≤ 2 ^ d := by
        by_cases hp : n ≤ p
        · rw [rst_end n R f l hp]; exact Nat.one_le_two_pow
        · match d, h with
          | 0, h => omega
          | d + 1, h =>
            rw [rst_step n R f l (by omega), List.length_append]
            have q1 := (frm_rst_len n R d f (l ++ [p]) (p + 1) (by omega)).2
            have q2 := (frm_rst_len n R d f l (p + 1) (by omega)).1
            rw [Nat.pow_succ]
            omega
      split <;> simp <;> omega
termination_by d f => (d, f)

/-- A list of numbers below p, increasing. -/
def Inc (l : List Nat) (p : Nat) : Prop := els (msk l) = l ∧ ∀ x ∈ l, x < p
theorem inc_nil (p : Nat) : Inc [] p := ⟨by simp [msk, els], by simp⟩
theorem Inc.mono {l : List Nat} {p q : Nat} (h : Inc l p) (hq : p ≤ q) : Inc l q := ⟨h.1, fun x hx => by have := h.2 x hx; omega⟩
theorem Inc.snoc {l : List Nat} {p i : Nat} (h : Inc l p) (hi : p ≤ i) (h64 : i < 64) : Inc (l ++ [i]) (i + 1) := by
  refine ⟨?_, fun x hx => ?_⟩
  · have hb : ∀ j, (msk (l ++ [i])).testBit j = decide (j ∈ l ++ [i]) := msk_bit _ (fun x hx => by
      rcases List.mem_append.1 hx with h1 | h1
      · have := h.2 x h1; omega
      · rw [List.mem_singleton.1 h1]; exact h64)
    have hb0 : ∀ j, (msk l).testBit j = decide (j ∈ l) := msk_bit _ (fun x hx => by have := h.2 x hx; omega)
    have hsplit : List.range 64 = List.range i ++ (i :: List.range' (i + 1) (63 - i)) := by
      rw [List.range_eq_range', List.range_eq_range']
      have e1 : (64 : Nat) = i + (1 + (63 - i)) := by omega
      conv => lhs; rw [e1]
      rw [← List.range'_append_1 (s := 0), Nat.zero_add, Nat.add_comm 1 (63 - i), List.range'_succ]
    have hl : (List.range i).filter (fun e => (msk l).testBit e) = l := by
      have q := h.1
      unfold els at q
      rw [hsplit, List.filter_append] at q
      have q2 : (i :: List.range' (i + 1) (63 - i)).filter (fun e => (msk l).testBit e) = [] := by
        rw [List.filter_eq_nil_iff]
        intro x hx
        rw [hb0, decide_eq_true_iff]
        intro hm
        have := h.2 x hm
        rcases List.mem_cons.1 hx with rfl | hx
        · omega
        · rw [List.mem_range'_1] at hx; omega
      rw [q2, List.append_nil] at q
      exact q
    unfold els
    rw [hsplit, List.filter_append, List.filter_cons, if_pos (by rw [hb]; simp)]
    have q3 : (List.range i).filter (fun e => (msk (l ++ [i])).testBit e) = (List.range i).filter (fun e => (msk l).testBit e) := by
      apply List.filter_congr
      intro x hx
      rw [List.mem_range] at hx
      rw [hb, hb0]
      simp [show x ≠ i by omega]
    have q4 : (List.range' (i + 1) (63 - i)).filter (fun e => (msk (l ++ [i])).testBit e) = [] := by
      rw [List.filter_eq_nil_iff]
      intro x hx
      rw [List.mem_range'_1] at hx
      rw [hb, decide_eq_true_iff]
      intro hm
      rcases List.mem_append.1 hm with h1 | h1
      · have := h.2 x h1; omega
      · rw [List.mem_singleton] at h1; omega
    rw [q3, q4, hl]
  · rcases List.mem_append.1 hx with h1 | h1
    · have := h.2 x h1; omega
    · rw [List.mem_singleton] at h1; omega
theorem frm_inc {n : Nat} (hn : n ≤ 64) (R : Nat → Nat → Bool) : ∀ (f : Nat) (l : List Nat) (p : Nat), Inc l p → ∀ x ∈ frm n R f l p, els (msk x) = x
  | 0, l, p, h, x, hx => by
    unfold frm at hx
    split at hx
    · rw [List.mem_singleton.1 hx]; exact h.1
    · cases hx
  | f + 1, l, p, h, x, hx => by
    rw [frm_succ] at hx
    rcases List.mem_append.1 hx with hx | hx
    · split at hx
      · rw [List.mem_singleton.1 hx]; exact h.1
      · cases hx
    · unfold rst at hx
      obtain ⟨i, hi, hx⟩ := List.mem_flatMap.1 hx
      rw [List.mem_range'_1] at hi
      exact frm_inc hn R f (l ++ [i]) (i + 1) (h.snoc hi.1 (by omega)) x hx

/-- The down-closed sets, in their order. -/
def DS (n : Nat) (R : Nat → Nat → Bool) : List (List Nat) := frm n R (n + 1) [] 0
theorem ds_len {n : Nat} (hn : n ≤ 12) (R : Nat → Nat → Bool) : (DS n R).length ≤ 4096 :=
  Nat.le_trans (frm_rst_len n R n (n + 1) [] 0 (by omega)).2 (Nat.le_trans (Nat.pow_le_pow_right (by decide) hn) (by decide))
theorem ds_els {n : Nat} (hn : n ≤ 64) (R : Nat → Nat → Bool) {x : List Nat} (hx : x ∈ DS n R) : els (msk x) = x := frm_inc hn R (n + 1) [] 0 (inc_nil _) x hx
theorem ext_ds {n : Nat} (hn : n ≤ 63) {A B : Nat → Nat} (hA : ∀ i, A i < M64) (hB : ∀ i, B i < M64) {R : Nat → Nat → Bool} (hR : SO n R) (hAR : ∀ e, e < n → ∀ y, (A e).testBit y = R e y) (hBR : ∀ e, e < n → ∀ y, (B e).testBit y = R y e) : ext A B 64 0 0 (allS n) = (DS n R).map msk := by
  have hI : DwI n R [] 0 0 (allS n) := ⟨by simp, by simp, by decide, by simp, fun x => by rw [allS_bit (by omega)]; simp, allS_lt n⟩
  have h := lp_eq (by omega) hA hB hR hAR hBR n [] 0 0 (allS n) 64 n (by omega) (by omega) (by omega) (by omega) hI
  have hd : down n R [] = true := by simp [down]
  unfold ext DS
  rw [frm_succ, if_pos rfl, if_pos hd, show (0 : Nat) = msk [] from rfl]
  rw [show msk [] = 0 from rfl] at h ⊢
  rw [h, List.map_append]
  rfl
theorem prc_lim (lim : Int) : ∀ (L d : List Nat), (d.length : Int) ≤ lim → (prc (okc lim) d L).2 = decide (((d.length + L.length : Nat) : Int) ≤ lim)
  | [], d, h => by simp [prc]; exact h
  | c :: r, d, h => by
    unfold prc
    by_cases h1 : okc lim (d ++ [c]) = true
    · rw [if_pos h1, prc_lim lim r (d ++ [c]) (by simpa [okc] using h1)]
      simp
      omega
    · rw [if_neg h1]
      unfold okc at h1
      simp only [List.length_append, List.length_singleton, decide_eq_true_eq] at h1
      symm
      simp
      omega
theorem prc_all : ∀ (L d : List Nat), prc (fun _ => true) d L = (d ++ L, true)
  | [], d => by simp [prc]
  | c :: r, d => by rw [prc, if_pos rfl, prc_all r (d ++ [c])]; simp
end Go.Proofs.YtjfjcgbdpjpodaaDoor
