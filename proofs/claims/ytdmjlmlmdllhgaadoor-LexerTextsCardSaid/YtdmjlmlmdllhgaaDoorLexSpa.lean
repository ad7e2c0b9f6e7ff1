/- The spelling of whatever token: of the program. Bounds on sizes alone. -/
import Derived.Test.YtdmjlmlmdllhgaaDoorLexSpl2
namespace Go.Proofs.YtdmjlmlmdllhgaaDoor
open Go.RowKit

/-- A token's numbers are those of the machine, and its text is short. -/
structure Sm (t : T4) : Prop where
  txt : t.text.size ≤ 1000000
  lo : -9223372036854775808 ≤ t.n
  hi : t.n ≤ 9223372036854775807
/-- A token as a value. -/
def T4.v (t : T4) : Value := .agg #[.int .i64 t.kind, .string t.text, .int .i64 t.n, .int .i64 t.place]
theorem ok3 {tx : ByteArray} {n p : Int} : okF ⟨3, tx, n, p⟩ = decide (tx = ⟨#[]⟩ ∧ 0 ≤ n ∧ n ≤ 1000000000000000) := rfl
theorem ok1 {tx : ByteArray} {n p : Int} : okF ⟨1, tx, n, p⟩ = (isName (strBytes tx) && !kw tx && decide (n = 0)) := rfl
theorem ok2 {tx : ByteArray} {n p : Int} : okF ⟨2, tx, n, p⟩ = (kw tx && decide (n = 0)) := rfl
theorem ok4 {tx : ByteArray} {n p : Int} : okF ⟨4, tx, n, p⟩ = (isName (strBytes tx) && decide (n = 0)) := rfl
theorem ok5 {tx : ByteArray} {n p : Int} : okF ⟨5, tx, n, p⟩ = (sgn tx && decide (n = 0)) := rfl
theorem ok6 {tx : ByteArray} {n p : Int} : okF ⟨6, tx, n, p⟩ = (decide (tx = ⟨#[]⟩) && decide (n = 0)) := rfl
theorem okx {k : Int} {tx : ByteArray} {n p : Int} (h1 : k ≠ 1) (h2 : k ≠ 2) (h3 : k ≠ 3) (h4 : k ≠ 4) (h5 : k ≠ 5) (h6 : k ≠ 6) : okF ⟨k, tx, n, p⟩ = false := by
  simp only [okF, if_neg h1, if_neg h2, if_neg h3, if_neg h4, if_neg h5, if_neg h6, Bool.false_and]
theorem spp_cong {ok ok2 : Bool} {sp sp2 : ByteArray} {w w' : World} {e : Ending} (h : SpP ok2 sp2 w e w') (h1 : ok2 = ok) (h2 : ok = true → sp2 = sp) : SpP ok sp w e w' := by
  subst h1
  obtain ⟨x, q1, q2, q3⟩ := h
  exact ⟨x, q1, fun h => (q2 h).trans (h2 h), q3⟩
theorem sp_any (t : T4) (hs : Sm t) (w : World) (hG : Glob w) : Calls Tryd.prog 36 #[t.v] w (SpP (okF t) (spell t) w) := by
  obtain ⟨k, tx, n, p⟩ := t
  obtain ⟨htx, hlo, hhi⟩ := hs
  simp only at htx hlo hhi
  by_cases h3 : k = 3
  · subst h3
    by_cases ht : tx = ⟨#[]⟩
    · subst ht
      by_cases h0 : 0 ≤ n
      · by_cases h1 : n ≤ 1000000000000000
        · exact (spell3_yes n p w h0 h1 hG).mono fun _ _ h => spp_cong h (by rw [ok3]; exact (decide_eq_true ⟨rfl, h0, h1⟩).symm) (fun _ => rfl)
        · exact (spell3_big n p w (by omega) hhi hG).mono fun _ _ h => spp_cong h (by rw [ok3]; exact (decide_eq_false (fun h => h1 h.2.2)).symm) (fun h2 => by rw [ok3] at h2; exact absurd (of_decide_eq_true h2).2.2 h1)
      · exact (spell3_neg n p w hlo (by omega) hG).mono fun _ _ h => spp_cong h (by rw [ok3]; exact (decide_eq_false (fun h => h0 h.2.1)).symm) (fun h2 => by rw [ok3] at h2; exact absurd (of_decide_eq_true h2).2.1 h0)
    · exact (spell3_text n p tx w hlo hhi ht hG).mono fun _ _ h => spp_cong h (by rw [ok3]; exact (decide_eq_false (fun h => ht h.1)).symm) (fun h2 => by rw [ok3] at h2; exact absurd (of_decide_eq_true h2).1 ht)
  by_cases h1 : k = 1
  · subst h1
    cases hv : isName (strBytes tx) with
    | false => exact (spell1_bad n p tx w htx hv).mono fun _ _ h => spp_cong h (by rw [ok1, hv]; rfl) (fun h2 => by rw [ok1, hv] at h2; cases h2)
    | true =>
      cases hk : kw tx with
      | true => exact (spell1_kw n p tx w htx hG hv hk).mono fun _ _ h => spp_cong h (by rw [ok1, hv, hk]; rfl) (fun h2 => by rw [ok1, hv, hk] at h2; cases h2)
      | false =>
        by_cases hn : n = 0
        · subst hn
          exact (spell1_ok_z p tx w htx hG hv hk).mono fun _ _ h => spp_cong h (by rw [ok1, hv, hk]; rfl) (fun _ => rfl)
        · exact (spell1_ok_nz n p tx w htx hG hv hk hn).mono fun _ _ h => spp_cong h (by rw [ok1, decide_eq_false hn, Bool.and_false]) (fun h2 => by rw [ok1, decide_eq_false hn, Bool.and_false] at h2; cases h2)
  by_cases h2 : k = 2
  · subst h2
    cases hk : kw tx with
    | false => exact (spell2_bad n p tx w hG hk).mono fun _ _ h => spp_cong h (by rw [ok2, hk]; rfl) (fun h2 => by rw [ok2, hk] at h2; cases h2)
    | true =>
      by_cases hn : n = 0
      · subst hn
        exact (spell2_ok_z p tx w hG hk).mono fun _ _ h => spp_cong h (by rw [ok2, hk]; rfl) (fun _ => rfl)
      · exact (spell2_ok_nz n p tx w hG hk hn).mono fun _ _ h => spp_cong h (by rw [ok2, decide_eq_false hn, Bool.and_false]) (fun h2 => by rw [ok2, decide_eq_false hn, Bool.and_false] at h2; cases h2)
  by_cases h4 : k = 4
  · subst h4
    cases hv : isName (strBytes tx) with
    | false => exact (spell4_bad n p tx w htx hv).mono fun _ _ h => spp_cong h (by rw [ok4, hv]; rfl) (fun h2 => by rw [ok4, hv] at h2; cases h2)
    | true =>
      by_cases hn : n = 0
      · subst hn
        exact (spell4_ok_z p tx w htx hv).mono fun _ _ h => spp_cong h (by rw [ok4, hv]; rfl) (fun _ => rfl)
      · exact (spell4_ok_nz n p tx w htx hv hn).mono fun _ _ h => spp_cong h (by rw [ok4, decide_eq_false hn, Bool.and_false]) (fun h2 => by rw [ok4, decide_eq_false hn, Bool.and_false] at h2; cases h2)
  by_cases h5 : k = 5
  · subst h5
    cases hk : sgn tx with
    | false => exact (spell5_bad n p tx w hG hk).mono fun _ _ h => spp_cong h (by rw [ok5, hk]; rfl) (fun h2 => by rw [ok5, hk] at h2; cases h2)
    | true =>
      by_cases hn : n = 0
      · subst hn
        exact (spell5_ok_z p tx w hG hk).mono fun _ _ h => spp_cong h (by rw [ok5, hk]; rfl) (fun _ => rfl)
      · exact (spell5_ok_nz n p tx w hG hk hn).mono fun _ _ h => spp_cong h (by rw [ok5, decide_eq_false hn, Bool.and_false]) (fun h2 => by rw [ok5, decide_eq_false hn, Bool.and_false] at h2; cases h2)
  by_cases h6 : k = 6
  · subst h6
    by_cases ht : tx = ⟨#[]⟩
    · subst ht
      by_cases hn : n = 0
      · subst hn
        exact (spell6_ok_z p w).mono fun _ _ h => spp_cong h (by rw [ok6]; rfl) (fun _ => rfl)
      · exact (spell6_ok_nz n p w hn).mono fun _ _ h => spp_cong h (by rw [ok6, decide_eq_false hn, Bool.and_false]) (fun h2 => by rw [ok6, decide_eq_false hn, Bool.and_false] at h2; cases h2)
    · exact (spell6_bad n p tx w ht).mono fun _ _ h => spp_cong h (by rw [ok6, decide_eq_false ht]; rfl) (fun h2 => by rw [ok6, decide_eq_false ht] at h2; cases h2)
  · exact (spell_other k n p tx w h1 h2 h3 h4 h5 h6).mono fun _ _ h => spp_cong h (okx h1 h2 h3 h4 h5 h6).symm (fun h2' => by rw [okx h1 h2 h3 h4 h5 h6] at h2'; cases h2')
end Go.Proofs.YtdmjlmlmdllhgaaDoor
