/- The reference's Less, and the law of the lexicographic order. No condition. -/
import Derived.Test.YtpmajdgabpmooaaRanRefC
import Derived.Test.YtpmajdgabpmooaaRanLink
namespace Go.Proofs.Ytpmajdgabpmooaa
open Go.RowKit

theorem lessI_self : ∀ l, ¬ lessI l l := by
  intro l; induction l with
  | nil => exact fun h => h
  | cons a l ih => rintro (h | ⟨_, h⟩); · omega
                   · exact ih h
theorem lessI_at : ∀ (l m : List Int) (k : Nat), k < l.length → k < m.length → (∀ j, j < k → l.getD j 0 = m.getD j 0) → l.getD k 0 ≠ m.getD k 0 → (lessI l m ↔ l.getD k 0 < m.getD k 0) := by
  intro l; induction l with
  | nil => intro m k h; simp at h
  | cons a l ih =>
    intro m k hk hm he hne
    cases m with
    | nil => simp at hm
    | cons b m =>
      cases k with
      | zero =>
        simp only [List.getD_cons_zero] at hne ⊢
        rw [lessI]
        constructor
        · rintro (h | ⟨h, _⟩)
          · exact h
          · exact absurd h hne
        · exact fun h => .inl h
      | succ k =>
        have h0 := he 0 (by omega)
        simp only [List.getD_cons_zero] at h0
        subst h0
        simp only [List.getD_cons_succ] at hne ⊢
        rw [lessI, ← ih m k (by simpa using hk) (by simpa using hm) (fun j hj => by have := he (j + 1) (by omega); simpa using this) hne]
        constructor
        · rintro (h | ⟨_, h⟩)
          · omega
          · exact h
        · exact fun h => .inr ⟨rfl, h⟩
theorem eq_of_getD {l m : List Int} {n : Nat} (hl : n = l.length) (hm : n = m.length) (h : ∀ j, j < n → l.getD j 0 = m.getD j 0) : l = m := by
  apply List.ext_getElem (by omega)
  intro i h1 h2
  have := h i (by omega)
  simpa [List.getD, h1, h2] using this
noncomputable def lessB (l m : List Int) : Bool := @decide (lessI l m) (Classical.propDecidable _)
theorem lessB_yes {l m : List Int} (h : lessI l m) : lessB l m = true := by unfold lessB; exact @decide_eq_true _ (Classical.propDecidable _) h
theorem lessB_no {l m : List Int} (h : ¬ lessI l m) : lessB l m = false := by unfold lessB; exact @decide_eq_false _ (Classical.propDecidable _) h

set_option maxRecDepth 100000 in
set_option maxHeartbeats 800000 in
theorem less_any (a0 b0 : Option Addr) (n ca cb : Nat) (l m : List Int) (w : World) (Ra : Rd w (.slice a0 n ca) (is l)) (Rb : Rd w (.slice b0 n cb) (is m)) :
    Calls Try.prog 33 #[.slice a0 n ca, .slice b0 n cb] w fun e w' => e = .returned (.bool (lessB l m)) ∧ Below w.heap.size w w' := by
  obtain ⟨hn, h1, h2, h3⟩ := rd_open Ra
  obtain ⟨hm, h4, h5, h6⟩ := rd_open Rb
  have HN := hid_of hn
  have HM := hid_of hm
  clear hn hm Ra Rb
  have hend : decide (n < n) = false := by simp
  by_cases h0 : n = 0
  · have H0 := hid_of h0
    have HF : Hid (lessB l m = false) := hid_of (lessB_no (by
      have e1 : l = [] := List.eq_nil_of_length_eq_zero (by have := HN.out; omega)
      have e2 : m = [] := List.eq_nil_of_length_eq_zero (by have := HM.out; omega)
      rw [e1, e2]; exact fun h => h))
    clear h0 h3 h6
    go_enter Try.func33, Try.ntmps33
    go_wp2
    go_loopw [5] (fun iv wr => ∃ k : Nat, k ≤ n ∧ iv = .int .i64 k ∧ w = wr) (fun iv _ => n - (intOf iv).toNat)
    case atStart => exact ⟨0, Nat.zero_le _, rfl, rfl⟩
    case round =>
      obtain ⟨k, hk, rfl, rfl⟩ := hrel
      have hge : decide (k < n) = false := by have := H0.out; simp; omega
      go_wp2
      go_ret
      exact ⟨ret_bool HF.out.symm, Below.refl _ _⟩
  · obtain ⟨g, o, rfl, hg, hc⟩ := h3.resolve_left h0
    obtain ⟨g2, o2, rfl, hg2, hc2⟩ := h6.resolve_left h0
    have HC := hid_of hc
    have HC2 := hid_of hc2
    clear hc hc2 h3 h6 h0
    go_enter Try.func33, Try.ntmps33
    go_wp2
    go_loopw [5] (fun iv wr => ∃ k : Nat, k ≤ n ∧ iv = .int .i64 k ∧ Hid (∀ j, j < k → l.getD j 0 = m.getD j 0) ∧ Hid (Below w.heap.size w wr)) (fun iv _ => n - (intOf iv).toNat)
    case atStart => exact ⟨0, Nat.zero_le _, rfl, hid_of (fun j hj => by omega), hid_of (Below.refl _ _)⟩
    case round =>
      obtain ⟨k, hk, rfl, hall, hb⟩ := hrel
      by_cases hlt : k < n
      · have hd : decide (k < n) = true := by simp; omega
        have c1 := (hb.out.cell (p := ⟨g, o + k, none⟩) hg).trans (HC.out k hlt)
        have c2 := (hb.out.cell (p := ⟨g2, o2 + k, none⟩) hg2).trans (HC2.out k hlt)
        obtain ⟨x, hx⟩ : ∃ x, x = l.getD k 0 := ⟨_, rfl⟩
        obtain ⟨y, hy⟩ : ∃ y, y = m.getD k 0 := ⟨_, rfl⟩
        rw [← hx] at c1
        rw [← hy] at c2
        have HX := hid_of hx
        have HY := hid_of hy
        have b1 : (k : Int) < (n : Int) := by omega
        have b0 : (0 : Int) ≤ (k : Int) := by omega
        clear hx hy
        by_cases hxy : x = y
        · subst hxy
          have hne : (x != x) = false := by simp
          have HALL : Hid (∀ j, j < k + 1 → l.getD j 0 = m.getD j 0) := hid_of (fun j hj => by
            by_cases e : j = k
            · subst e; rw [← HX.out, ← HY.out]
            · exact hall.out j (by omega))
          go_wp2
          go_quiet (fail)
          go_wp2
          go_roundw
          case rel => exact ⟨k + 1, by omega, by go_num, HALL, hid_of (bel_drewN hb.out _)⟩
          case measure => simp [intOf]; omega
        · have hne : (x != y) = true := by simpa using hxy
          have HB : Hid (lessB l m = decide (x < y)) := hid_of (by
            have h := lessI_at l m k (by have := HN.out; omega) (by have := HM.out; omega) hall.out (by rw [← HX.out, ← HY.out]; exact hxy)
            rw [← HX.out, ← HY.out] at h
            by_cases hlt : x < y
            · rw [lessB_yes (h.2 hlt)]; simp [hlt]
            · rw [lessB_no (fun hh => hlt (h.1 hh))]; simp [hlt])
          clear hxy
          go_wp2
          go_quiet (fail)
          go_wp2
          go_quiet (fail)
          go_wp2
          go_ret
          exact ⟨ret_bool HB.out.symm, bel_drewN (bel_drewN hb.out _) _⟩
      · obtain rfl : k = n := by omega
        have HF : Hid (lessB l m = false) := hid_of (lessB_no (by
          rw [eq_of_getD HN.out HM.out hall.out]; exact lessI_self m))
        go_wp2
        go_ret
        exact ⟨ret_bool HF.out.symm, hb.out⟩

/-- RankPermutation in one form. -/
theorem rankP_gen (l : List Int) (n : Nat) (hn : n = l.length) : ∃ (x : Nat) (ep : Int), (ep = 0 ∨ ep = 1) ∧ (ep = 0 → permB l = true ∧ n ≤ 20 ∧ x = rkM l n) ∧
    ∀ ao cap w, Rd w (.slice ao n cap) (is l) → Calls Try.prog 29 #[.slice ao n cap] w fun e w' => e = .returned (.tuple #[.int .u64 (x : Int), .int .i64 ep]) ∧ Below w.heap.size w w' := by
  by_cases h : n ≤ 20 ∧ permB l = true
  · exact ⟨rkM l n, 0, .inl rfl, fun _ => ⟨h.2, h.1, rfl⟩, fun ao cap w R => rankPerm_ok ao n cap l w R h.1 h.2⟩
  · refine ⟨0, 1, .inr rfl, fun e => by omega, fun ao cap w R => rankPerm_bad ao n cap l w R ?_⟩
    by_cases h20 : 20 < n
    · exact .inl h20
    · exact .inr (by cases hp : permB l with
        | true => exact absurd ⟨by omega, hp⟩ h
        | false => rfl)
/-- RankSubset in one form. -/
theorem rankS_gen (z : Int) (l : List Int) (n : Nat) (hn : n = l.length) : ∃ (x : Nat) (ep : Int), (ep = 0 ∨ ep = 1) ∧ (ep = 0 → ∃ k : Nat, z = k ∧ k ≤ 60 ∧ incTo z l l.length ∧ x = rsI k l n) ∧
    ∀ ao cap w, Rd w (.slice ao n cap) (is l) → Calls Try.prog 34 #[.int .i64 z, .slice ao n cap] w fun e w' => e = .returned (.tuple #[.int .u64 (x : Int), .int .i64 ep]) ∧ w = w' := by
  by_cases h : 0 ≤ z ∧ z ≤ 60 ∧ incTo z l l.length
  · obtain ⟨k, rfl⟩ := Int.eq_ofNat_of_zero_le h.1
    exact ⟨rsI k l n, 0, .inl rfl, fun _ => ⟨k, rfl, by omega, h.2.2, rfl⟩, fun ao cap w R => rankSub_ok k k ao n cap l w rfl (by omega) R h.2.2⟩
  · refine ⟨0, 1, .inr rfl, fun e => by omega, fun ao cap w R => rankSub_bad z ao n cap l w R ?_⟩
    by_cases h0 : z < 0
    · exact .inl h0
    · by_cases h1 : 60 < z
      · exact .inr (.inl h1)
      · exact .inr (.inr fun h2 => h ⟨by omega, by omega, h2⟩)
theorem perm_order {l m : List Int} {n : Nat} (hl : n = l.length) (hm : n = m.length) (h20 : n ≤ 20) (hp : permB l = true) (hq : permB m = true) : rkM l n < rkM m n ↔ lessI l m := by
  obtain ⟨p, rfl, hp2⟩ := okTo_open (permB_iff.1 hp)
  obtain ⟨q, rfl, hq2⟩ := okTo_open (permB_iff.1 hq)
  rw [nI_length] at hl hm
  have e1 := rkM_all p (by omega)
  have e2 := rkM_all q (by omega)
  rw [← hl] at e1
  rw [← hm] at e2
  rw [e1, e2, lessI_nI]
  exact rk_less p q (List.range n) (sorted_range n) (by rw [hl]; exact permF_perm hp2) (by rw [hm]; exact permF_perm hq2)
theorem sub_order {l m : List Int} {n k : Nat} (hl : n = l.length) (hm : n = m.length) (hk : k ≤ 60) (hp : incTo (k : Int) l l.length) (hq : incTo (k : Int) m m.length) : rsI k l n < rsI k m n ↔ lessI l m := by
  obtain ⟨p, rfl, hp2⟩ := incTo_open hp
  obtain ⟨q, rfl, hq2⟩ := incTo_open hq
  rw [nI_length] at hl hm
  have e1 := rsI_all k p hk hp2
  have e2 := rsI_all k q hk hq2
  rw [← hl] at e1
  rw [← hm] at e2
  rw [e1, e2, lessI_nI]
  exact rs_less p q k 0 hp2 hq2 (by omega) (by omega)
end Go.Proofs.Ytpmajdgabpmooaa
