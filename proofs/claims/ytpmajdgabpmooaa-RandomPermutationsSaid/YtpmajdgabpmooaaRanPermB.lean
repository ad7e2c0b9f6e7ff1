/- The test of a permutation, and its rank. Bounds on sizes alone. -/
import Derived.Test.YtpmajdgabpmooaaRanShuf
namespace Go.Proofs.Ytpmajdgabpmooaa
open Go.RowKit

theorem ret_bool {a b : Bool} (h : a = b) : Ending.returned (.bool a) = .returned (.bool b) := by rw [h]
/-- The first k elements of l are different numbers below its length. -/
def okTo (l : List Int) (k : Nat) : Prop := ∀ i, i < k → 0 ≤ l.getD i 0 ∧ l.getD i 0 < l.length ∧ ∀ j, j < i → l.getD j 0 ≠ l.getD i 0
def seenAt (l : List Int) (k : Nat) (v : Int) : Bool := (l.take k).contains v
theorem seenAt_iff {l : List Int} {k : Nat} (hk : k ≤ l.length) (v : Int) : seenAt l k v = true ↔ ∃ j, j < k ∧ l.getD j 0 = v := by
  unfold seenAt
  rw [List.contains_iff_mem, List.mem_iff_getElem]
  constructor
  · rintro ⟨j, hj, e⟩
    simp at hj
    exact ⟨j, by omega, by simp [List.getD, show j < l.length by omega]; simpa using e⟩
  · rintro ⟨j, hj, e⟩
    exact ⟨j, by simp; omega, by simp [List.getD, show j < l.length by omega] at e; simpa using e⟩
theorem okTo_succ {l : List Int} {k : Nat} (hk : k < l.length) (h : okTo l k) (h0 : 0 ≤ l.getD k 0) (h1 : l.getD k 0 < l.length) (h2 : seenAt l k (l.getD k 0) = false) : okTo l (k + 1) := by
  intro i hi
  by_cases e : i = k
  · subst e
    refine ⟨h0, h1, fun j hj ej => ?_⟩
    have := (seenAt_iff (Nat.le_of_lt hk) (l.getD i 0)).2 ⟨j, hj, ej⟩
    rw [h2] at this; cases this
  · exact h i (by omega)
/-- The cells of seen, of N places. -/
def seenL (l : List Int) (k N : Nat) : List Value := (List.range N).map fun v : Nat => .bool (seenAt l k (v : Int))
theorem seenL_zero (l : List Int) (N : Nat) : seenL l 0 N = List.replicate N (.bool false) := by
  apply List.ext_getElem
  · simp [seenL]
  · intro j h1 h2; simp [seenL, seenAt]
theorem seenL_set {l : List Int} {k N m : Nat} (hk : k < l.length) (hm : m < N) (e : l.getD k 0 = (m : Int)) : (seenL l k N).set m (.bool true) = seenL l (k + 1) N := by
  have e2 : l[k] = (m : Int) := by rw [← e]; simp [List.getD, hk]
  apply List.ext_getElem
  · simp [seenL]
  · intro j h1 h2
    simp [seenL] at h2
    simp only [seenL, List.getElem_set, List.getElem_map, List.getElem_range, seenAt]
    rw [List.take_succ_eq_append_getElem hk, e2]
    by_cases hj : m = j
    · subst hj; simp
    · simp [hj, show ¬ (j : Int) = (m : Int) by omega]
noncomputable def permB (l : List Int) : Bool := @decide (okTo l l.length) (Classical.propDecidable _)
theorem permB_yes {l : List Int} (h : okTo l l.length) : permB l = true := by unfold permB; exact @decide_eq_true _ (Classical.propDecidable _) h
theorem permB_no {l : List Int} (h : ¬ okTo l l.length) : permB l = false := by unfold permB; exact @decide_eq_false _ (Classical.propDecidable _) h
theorem permB_iff {l : List Int} : permB l = true ↔ okTo l l.length := by unfold permB; exact @decide_eq_true_iff _ (Classical.propDecidable _)
theorem not_ok {l : List Int} {k : Nat} (hk : k < l.length) (h : l.getD k 0 < 0 ∨ (l.length : Int) ≤ l.getD k 0 ∨ seenAt l k (l.getD k 0) = true) : ¬ okTo l l.length := by
  intro hok
  obtain ⟨a, b, c⟩ := hok k hk
  rcases h with h | h | h
  · omega
  · omega
  · obtain ⟨j, hj, e⟩ := (seenAt_iff (Nat.le_of_lt hk) _).1 h
    exact c j hj e

theorem bools20 (w : World) (l : List Int) : (w.alloc (.cells #[.bool false, .bool false, .bool false, .bool false, .bool false, .bool false, .bool false, .bool false, .bool false, .bool false, .bool false, .bool false, .bool false, .bool false, .bool false, .bool false, .bool false, .bool false, .bool false, .bool false] 65)).heap[w.heap.size]? = some (.cells (seenL l 0 20).toArray 65 (0, 0)) := by
  rw [heap_alloc_new, seenL_zero]; rfl

set_option maxRecDepth 100000 in
set_option maxHeartbeats 800000 in
theorem isPerm_any (ao : Option Addr) (n cap : Nat) (l : List Int) (w : World) (R : Rd w (.slice ao n cap) (is l)) (hn20 : n ≤ 20) :
    Calls Try.prog 43 #[.slice ao n cap] w fun e w' => e = .returned (.bool (permB l)) ∧ Below w.heap.size w w' := by
  obtain ⟨hn, h1, h2, h3⟩ := rd_open R
  have HN := hid_of hn
  have d1 : decide ((20 : Int) < (n : Int)) = false := by simp; omega
  clear R hn
  rcases h3 with h3 | ⟨g, o, rfl, hg, hc⟩
  · have H3 := hid_of h3
    clear h3
    go_enter Try.func43, Try.ntmps43
    go_wp2
    go_loopw [11] (fun iv wr => ∃ k : Nat, k ≤ n ∧ iv = .int .i64 k ∧ Hid (Below w.heap.size w wr)) (fun iv _ => n - (intOf iv).toNat)
    case atStart => exact ⟨0, Nat.zero_le _, rfl, hid_of (bel_alloc _ _)⟩
    case round =>
      obtain ⟨k, hk, rfl, hb⟩ := hrel
      have hge : ¬ k < n := by have := H3.out; omega
      go_wp2
      go_ret
      refine ⟨ret_bool (permB_yes ?_).symm, hb.out⟩
      intro i hi
      have := H3.out; have := HN.out; omega
  · have HC := hid_of hc
    clear hc
    go_enter Try.func43, Try.ntmps43
    go_wp2
    go_loopw [11] (fun iv wr => ∃ k : Nat, k ≤ n ∧ iv = .int .i64 k ∧ Hid (okTo l k) ∧ Hid (wr.heap[w.heap.size]? = some (.cells (seenL l k 20).toArray 65 (0, 0))) ∧ Hid (Below w.heap.size w wr)) (fun iv _ => n - (intOf iv).toNat)
    case atStart => exact ⟨0, Nat.zero_le _, rfl, hid_of (fun i hi => by omega), hid_of (bools20 w l), hid_of (bel_alloc _ _)⟩
    case round =>
      obtain ⟨k, hk, rfl, hok, hrow, hb⟩ := hrel
      by_cases hlt : k < n
      · have c1 := (hb.out.cell (p := ⟨g, o + k, none⟩) hg).trans (HC.out k hlt)
        have hkl : Hid (k < l.length) := hid_of (by have := HN.out; omega)
        obtain ⟨x, hx⟩ : ∃ x, x = l.getD k 0 := ⟨_, rfl⟩
        rw [← hx] at c1
        have HX := hid_of hx
        clear hx
        by_cases x0 : x < 0
        · have hF : Hid (permB l = false) := hid_of (permB_no (not_ok hkl.out (.inl (by rw [← HX.out]; exact x0))))
          go_wp2
          go_ret
          exact ⟨ret_bool hF.out.symm, hb.out⟩
        · by_cases x1 : (n : Int) ≤ x
          · have hF : Hid (permB l = false) := hid_of (permB_no (not_ok hkl.out (.inr (.inl (by rw [← HX.out, ← HN.out]; exact x1)))))
            have x2 : decide (x < 0) = false := by simp; omega
            go_wp2
            go_ret
            exact ⟨ret_bool hF.out.symm, hb.out⟩
          · obtain ⟨m, rfl⟩ := Int.eq_ofNat_of_zero_le (show 0 ≤ x by omega)
            have x2 : decide ((m : Int) < 0) = false := by simp
            have x3 : decide ((n : Int) ≤ (m : Int)) = false := by simp; omega
            have hm : (m : Int) < 20 := by omega
            have hm0 : (0 : Int) ≤ (m : Int) := by omega
            have c2 : wr.cell? ⟨w.heap.size, m, none⟩ = some (.bool (seenAt l k (m : Int))) := by
              rw [cell_of_row _ _ _ _ _ _ hrow.out]
              simp [seenL, show m < 20 by omega]
            have f2 : wr.frozen? ⟨w.heap.size, m, none⟩ = false := by simp [World.frozen?, hrow.out]
            by_cases hs : seenAt l k (m : Int) = true
            · rw [hs] at c2
              have hF : Hid (permB l = false) := hid_of (permB_no (not_ok hkl.out (.inr (.inr (by rw [← HX.out]; exact hs)))))
              clear hs
              go_wp2
              go_ret
              exact ⟨ret_bool hF.out.symm, hb.out⟩
            · have hs2 : seenAt l k (m : Int) = false := by simpa using hs
              rw [hs2] at c2
              have HS := hid_of hs2
              clear hs hs2
              go_wp2
              go_roundw
              case rel =>
                refine ⟨k + 1, by omega, by go_num, hid_of (okTo_succ hkl.out hok.out (by rw [← HX.out]; omega) (by rw [← HX.out, ← HN.out]; omega) (by rw [← HX.out]; exact HS.out)), hid_of ?_, hid_of (hb.out.setCell (Nat.le_refl _) _)⟩
                rw [← seenL_set hkl.out (by omega) HX.out.symm]
                exact blk_setCell hrow.out
              case measure => simp [intOf]; omega
      · obtain rfl : k = n := by omega
        go_wp2
        go_ret
        exact ⟨ret_bool (permB_yes (by rw [← HN.out]; exact hok.out)).symm, hb.out⟩
end Go.Proofs.Ytpmajdgabpmooaa
