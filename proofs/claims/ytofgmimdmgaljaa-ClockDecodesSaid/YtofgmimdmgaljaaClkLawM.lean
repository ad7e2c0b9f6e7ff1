/- The mathematics of clock's laws. No condition. -/
import Derived.Test.YtofgmimdmgaljaaClkAwake
namespace Go.Proofs.Ytofgmimdmgaljaa
open Go.RowKit

section
variable {a b c : List Tk}
theorem leV_anti (ha : VV a) (hb : VV b) : (leV a b ∧ leV b a) ↔ a = b := by
  constructor
  · rintro ⟨h1, h2⟩
    exact vv_ext ha hb fun p => by have := h1 p; have := h2 p; omega
  · rintro rfl; exact ⟨fun p => Int.le_refl _, fun p => Int.le_refl _⟩
theorem mrg_up (ha : VV a) (hb : VV b) : mrg a b = b ↔ leV a b := by
  constructor
  · intro h p
    have := mrg_look ha hb p
    rw [h] at this; omega
  · intro h
    exact vv_ext (mrg_vv ha hb) hb fun p => by rw [mrg_look ha hb p]; have := h p; omega
theorem mrg_comm (ha : VV a) (hb : VV b) : mrg a b = mrg b a :=
  vv_ext (mrg_vv ha hb) (mrg_vv hb ha) fun p => by rw [mrg_look ha hb, mrg_look hb ha]; omega
theorem cmn_comm (ha : VV a) (hb : VV b) : cmn a b = cmn b a :=
  vv_ext (cmn_vv ha hb) (cmn_vv hb ha) fun p => by rw [cmn_look ha hb, cmn_look hb ha]; omega
theorem mrg_idem (ha : VV a) : mrg a a = a := vv_ext (mrg_vv ha ha) ha fun p => by rw [mrg_look ha ha]; omega
theorem cmn_idem (ha : VV a) : cmn a a = a := vv_ext (cmn_vv ha ha) ha fun p => by rw [cmn_look ha ha]; omega
theorem mrg_assoc (ha : VV a) (hb : VV b) (hc : VV c) : mrg (mrg a b) c = mrg a (mrg b c) :=
  vv_ext (mrg_vv (mrg_vv ha hb) hc) (mrg_vv ha (mrg_vv hb hc)) fun p => by
    rw [mrg_look (mrg_vv ha hb) hc, mrg_look ha hb, mrg_look ha (mrg_vv hb hc), mrg_look hb hc]; omega
theorem cmn_assoc (ha : VV a) (hb : VV b) (hc : VV c) : cmn (cmn a b) c = cmn a (cmn b c) :=
  vv_ext (cmn_vv (cmn_vv ha hb) hc) (cmn_vv ha (cmn_vv hb hc)) fun p => by
    rw [cmn_look (cmn_vv ha hb) hc, cmn_look ha hb, cmn_look ha (cmn_vv hb hc), cmn_look hb hc]; omega
theorem mrg_absorb (ha : VV a) (hb : VV b) : mrg a (cmn a b) = a :=
  vv_ext (mrg_vv ha (cmn_vv ha hb)) ha fun p => by rw [mrg_look ha (cmn_vv ha hb), cmn_look ha hb]; omega
theorem cmn_absorb (ha : VV a) (hb : VV b) : cmn a (mrg a b) = a :=
  vv_ext (cmn_vv ha (mrg_vv ha hb)) ha fun p => by rw [cmn_look ha (mrg_vv ha hb), mrg_look ha hb]; omega
theorem cmn_dist (ha : VV a) (hb : VV b) (hc : VV c) : cmn (mrg a b) c = mrg (cmn a c) (cmn b c) :=
  vv_ext (cmn_vv (mrg_vv ha hb) hc) (mrg_vv (cmn_vv ha hc) (cmn_vv hb hc)) fun p => by
    rw [cmn_look (mrg_vv ha hb) hc, mrg_look ha hb, mrg_look (cmn_vv ha hc) (cmn_vv hb hc), cmn_look ha hc, cmn_look hb hc]; omega
theorem sub_back (ha : VV a) (hb : VV b) : mrg b (sub a b) = mrg a b :=
  vv_ext (mrg_vv hb (sub_vv ha hb)) (mrg_vv ha hb) fun p => by
    have := ha.bd p
    have := hb.bd p
    rw [mrg_look hb (sub_vv ha hb), sub_look ha hb, mrg_look ha hb]
    split <;> omega
theorem sub_least (ha : VV a) (hb : VV b) (hc : VV c) (h : mrg b c = mrg a b) : mrg (sub a b) c = c :=
  vv_ext (mrg_vv (sub_vv ha hb) hc) hc fun p => by
    have h1 := mrg_look hb hc p
    have h2 := mrg_look ha hb p
    rw [h, h2] at h1
    have := hc.bd p
    rw [mrg_look (sub_vv ha hb) hc, sub_look ha hb]
    split <;> omega

/-- The four ways in which two version vectors compare. -/
theorem orders (ha : VV a) (hb : VV b) :
    (cmpW a b = 0 ∧ cmpW b a = 0 ∧ decide (a = b) = true ∧ decide (mrg a b = b) = true) ∨ (cmpW a b = 1 ∧ cmpW b a = 2 ∧ decide (a = b) = false ∧ decide (mrg a b = b) = true) ∨
    (cmpW a b = 2 ∧ cmpW b a = 1 ∧ decide (a = b) = false ∧ decide (mrg a b = b) = false) ∨ (cmpW a b = 3 ∧ cmpW b a = 3 ∧ decide (a = b) = false ∧ decide (mrg a b = b) = false) := by
  have e := leV_anti ha hb
  have u := mrg_up ha hb
  obtain ⟨r, s, h1, h2, h3⟩ := cmp_ok ha hb
  obtain ⟨r', s', h4, h5, h6⟩ := cmp_ok hb ha
  have er : r' = s := by rw [Bool.eq_iff_iff, h5, h3]
  have es : s' = r := by rw [Bool.eq_iff_iff, h6, h2]
  subst er es
  rw [h1, h4]
  simp only [decide_eq_true_eq, decide_eq_false_iff_not]
  rw [← e, u, ← h2, ← h3]
  cases r' <;> cases s' <;> simp [cmpB]
theorem cmp_low (h : cmpW a b = 0 ∨ cmpW a b = 1) : VV a ∧ VV b ∧ leV a b ∧ (cmpW a b = 0 → leV b a) ∧ (cmpW a b = 1 → ¬ leV b a) := by
  have hv : okV a = true ∧ okV b = true := by
    unfold cmpW cmpB at h
    cases h1 : okV a <;> cases h2 : okV b <;> rw [h1, h2] at h <;> simp at h ⊢
  have ha := (okV_iff a).1 hv.1
  have hb := (okV_iff b).1 hv.2
  obtain ⟨r, s, h1, h2, h3⟩ := cmp_ok ha hb
  rw [h1] at h ⊢
  refine ⟨ha, hb, ?_, ?_, ?_⟩
  · rw [← h2]; cases r <;> cases s <;> simp [cmpB] at h ⊢
  · rw [← h3]; cases r <;> cases s <;> simp [cmpB] at h ⊢
  · rw [← h3]; cases r <;> cases s <;> simp [cmpB] at h ⊢
theorem cmp_four (a b : List Tk) : cmpW a b = 0 ∨ cmpW a b = 1 ∨ cmpW a b = 2 ∨ cmpW a b = 3 := by
  unfold cmpW
  cases okV a <;> cases okV b <;> cases decide (vop gSub a b = []) <;> cases decide (vop gSub b a = []) <;> simp [cmpB]
theorem cmp_of (ha : VV a) (hb : VV b) (h1 : leV a b) : (leV b a → cmpW a b = 0) ∧ (¬ leV b a → cmpW a b = 1) := by
  obtain ⟨r, s, e, h2, h3⟩ := cmp_ok ha hb
  rw [e]
  rw [← h2] at h1
  rw [← h3]
  cases r <;> cases s <;> simp [cmpB] at h1 ⊢
theorem leV_trans (h1 : leV a b) (h2 : leV b c) : leV a c := fun p => Int.le_trans (h1 p) (h2 p)
theorem trans00 (h1 : cmpW a b = 0) (h2 : cmpW b c = 0) : cmpW a c = 0 := by
  obtain ⟨ha, hb, l1, q1, _⟩ := cmp_low (.inl h1)
  obtain ⟨_, hc, l2, q2, _⟩ := cmp_low (.inl h2)
  exact (cmp_of ha hc (leV_trans l1 l2)).1 (leV_trans (q2 h2) (q1 h1))
theorem trans1 (h1 : cmpW a b = 0 ∨ cmpW a b = 1) (h2 : cmpW b c = 0 ∨ cmpW b c = 1) (h3 : cmpW a b = 1 ∨ cmpW b c = 1) : cmpW a c = 1 := by
  obtain ⟨ha, hb, l1, q1, n1⟩ := cmp_low h1
  obtain ⟨_, hc, l2, q2, n2⟩ := cmp_low h2
  refine (cmp_of ha hc (leV_trans l1 l2)).2 fun h => ?_
  rcases h3 with h3 | h3
  · exact n1 h3 (leV_trans l2 h)
  · exact n2 h3 (leV_trans h l1)

/-- What Inc does. -/
theorem inc_cases (c : List Tk) (p : Int) : incV c p = ([], 1) ∨ incV c p = ([], 6) ∨
    ∃ D, incV c p = (D, 0) ∧ VV c ∧ VV D ∧ look c p < 1000000000000000 ∧ (∀ x, look D x = if x = p then look c p + 1 else look c x) ∧ cmpW c D = 1 := by
  by_cases h : okV c = true ∧ 0 ≤ p ∧ p ≤ 63
  · have vc := (okV_iff c).1 h.1
    have hb := vc.bd p
    by_cases hm : look c p = 1000000000000000
    · exact .inr (.inl (by unfold incV; rw [if_pos h, if_pos hm]))
    · have v1 : VV [(p, look c p + 1)] := one_vv h.2.1 h.2.2 (by omega) (by omega)
      have hl : ∀ x, look (mrg c [(p, look c p + 1)]) x = if x = p then look c p + 1 else look c x := fun x => by
        rw [mrg_look vc v1]
        have := vc.bd x
        show max _ (if p = x then look c p + 1 else 0) = _
        by_cases hx : x = p
        · subst hx; rw [if_pos rfl, if_pos rfl]; omega
        · rw [if_neg (fun e => hx e.symm), if_neg hx]; omega
      refine .inr (.inr ⟨mrg c [(p, look c p + 1)], by unfold incV; rw [if_pos h, if_neg hm], vc, mrg_vv vc v1, by omega, hl, ?_⟩)
      refine (cmp_of vc (mrg_vv vc v1) fun x => ?_).2 fun hh => ?_
      · rw [hl]; split
        · rename_i e; subst e; omega
        · exact Int.le_refl _
      · have := hh p
        rw [hl, if_pos rfl] at this
        omega
  · exact .inl (if_neg h)
theorem inc_c {ao : Option Addr} {n cap : Nat} {w : World} {p er : Int} {D : List Tk} (ra : TRd w (.slice ao n cap) c) (h : incV c p = (D, er)) :
    Calls Try.prog 14 #[.slice ao n cap, .int .i64 p] w fun e w' => ∃ x k d, e = .returned (.tuple #[.slice x k d, .int .i64 er]) ∧ TRd w' (.slice x k d) D ∧ Below w.heap.size w w' := by
  have := inc_any ao n cap c p w ra
  rw [h] at this
  exact this
end
end Go.Proofs.Ytofgmimdmgaljaa
