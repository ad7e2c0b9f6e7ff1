/- Compare and Inc of package clock. -/
import Derived.Test.YtofgmimdmgaljaaClkMax
import Derived.Test.YtofgmimdmgaljaaClkMin
import Derived.Test.YtofgmimdmgaljaaClkSub
namespace Go.Proofs.Ytofgmimdmgaljaa
open Go.RowKit

/-- Minus, and whether it is empty. -/
theorem minus_b (ao bo : Option Addr) (n cap m cbp : Nat) (a b : List Tk) (w : World) (r : Bool) (hr : r = decide (vop gSub a b = [])) (ra : TRd w (.slice ao n cap) a) (rb : TRd w (.slice bo m cbp) b) :
    Calls Try.prog 26 #[.slice ao n cap, .slice bo m cbp] w fun e w' => ∃ x k c, e = .returned (.slice x k c) ∧ (((k : Nat) : Int) == 0) = r ∧ Below w.heap.size w w' :=
  (op_sub_any ao bo n cap m cbp a b w ra rb).mono fun e w' ⟨x, k, c, he, ht, hb⟩ => ⟨x, k, c, he, by
    have hk := ht.cut.1
    rw [hr, Bool.eq_iff_iff, beq_iff_eq, decide_eq_true_iff, hk]
    rw [← List.length_eq_zero_iff]
    omega, hb⟩
theorem valid_b (ao : Option Addr) (n cap : Nat) (a : List Tk) (w : World) (r : Bool) (hr : r = okV a) (ra : TRd w (.slice ao n cap) a) :
    Calls Try.prog 16 #[.slice ao n cap] w fun e w' => e = .returned (.bool r) ∧ Below w.heap.size w w' := by
  subst hr; exact valid_any ao n cap a w ra

def cmpB (va vb r s : Bool) : Int := if va && vb then (if r && s then 0 else if r then 1 else if s then 2 else 3) else 3
/-- What Compare returns. -/
def cmpW (a b : List Tk) : Int := cmpB (okV a) (okV b) (decide (vop gSub a b = [])) (decide (vop gSub b a = []))
theorem vop_ok {g : Int → Int → Int} {a b : List Tk} (ha : VV a) (hb : VV b) : vop g a b = comb g a b := if_pos ⟨(okV_iff a).2 ha, (okV_iff b).2 hb⟩
theorem vsub_nil {a b : List Tk} (ha : VV a) (hb : VV b) : vop gSub a b = [] ↔ leV a b := by
  rw [vop_ok ha hb]
  exact sub_nil ha hb
theorem cmp_ok {a b : List Tk} (ha : VV a) (hb : VV b) : ∃ r s : Bool, cmpW a b = cmpB true true r s ∧ (r = true ↔ leV a b) ∧ (s = true ↔ leV b a) := by
  refine ⟨decide (vop gSub a b = []), decide (vop gSub b a = []), ?_, ?_, ?_⟩
  · unfold cmpW
    rw [(okV_iff a).2 ha, (okV_iff b).2 hb]
  · rw [decide_eq_true_iff]; exact vsub_nil ha hb
  · rw [decide_eq_true_iff]; exact vsub_nil hb ha

set_option maxHeartbeats 800000 in
theorem compare_any (ao bo : Option Addr) (n cap m cbp : Nat) (a b : List Tk) (w : World) (ra : TRd w (.slice ao n cap) a) (rb : TRd w (.slice bo m cbp) b) :
    Calls Try.prog 21 #[.slice ao n cap, .slice bo m cbp] w fun e w' => e = .returned (.int .i64 (cmpW a b)) ∧ Below w.heap.size w w' := by
  unfold cmpW
  obtain ⟨va, hva⟩ : ∃ r, r = okV a := ⟨_, rfl⟩
  obtain ⟨vb, hvb⟩ : ∃ r, r = okV b := ⟨_, rfl⟩
  obtain ⟨r, hr⟩ : ∃ r, r = decide (vop gSub a b = []) := ⟨_, rfl⟩
  obtain ⟨s, hs⟩ : ∃ r, r = decide (vop gSub b a = []) := ⟨_, rfl⟩
  rw [← hva, ← hvb, ← hr, ← hs]
  have VA := hid_of (fun w' hb => valid_b ao n cap a w' va hva (ra.later (w' := w') (B := w.heap.size) hb (Nat.le_refl _)))
  have VB := hid_of (fun w' hb => valid_b bo m cbp b w' vb hvb (rb.later (w' := w') (B := w.heap.size) hb (Nat.le_refl _)))
  have MA := hid_of (fun w' hb => minus_b ao bo n cap m cbp a b w' r hr (ra.later (w' := w') (B := w.heap.size) hb (Nat.le_refl _)) (rb.later (w' := w') (B := w.heap.size) hb (Nat.le_refl _)))
  have MB := hid_of (fun w' hb => minus_b bo ao m cbp n cap b a w' s hs (rb.later (w' := w') (B := w.heap.size) hb (Nat.le_refl _)) (ra.later (w' := w') (B := w.heap.size) hb (Nat.le_refl _)))
  clear hva hvb hr hs ra rb
  cases va <;> cases vb <;> cases r <;> cases s
  all_goals (
    go_enter Try.func21, Try.ntmps21
    go_wp2_with (first
      | (go_at_call 16; (first
          | ((with_reducible refine (VA.out w (Below.refl _ _)).mono ?_); (rintro e w1 ⟨rfl, h1⟩; have HB1 := hid_of h1; clear h1))
          | ((with_reducible refine (VB.out w1 HB1.out).mono ?_); (rintro e w2 ⟨rfl, h2⟩; have HB2 := hid_of (bel_step HB1.out h2 (Nat.le_refl _)); clear h2))))
      | (go_at_call 26; (first
          | ((with_reducible refine (MA.out w2 HB2.out).mono ?_); (rintro e w3 ⟨x3, k3, c3, rfl, e3, h3⟩; have HB3 := hid_of (bel_step HB2.out h3 (Nat.le_refl _)); clear h3))
          | ((with_reducible refine (MB.out w3 HB3.out).mono ?_); (rintro e w4 ⟨x4, k4, c4, rfl, e4, h4⟩; have HB4 := hid_of (bel_step HB3.out h4 (Nat.le_refl _)); clear h4)))))
    go_ret
    first
    | exact ⟨rfl, HB4.out⟩
    | exact ⟨rfl, HB2.out⟩
    | exact ⟨rfl, HB1.out⟩)

/-- What Inc returns. -/
def incV (c : List Tk) (p : Int) : List Tk × Int :=
  if okV c = true ∧ 0 ≤ p ∧ p ≤ 63 then (if look c p = 1000000000000000 then ([], 6) else (mrg c [(p, look c p + 1)], 0)) else ([], 1)
theorem one_vv {p n : Int} (h0 : 0 ≤ p) (h1 : p ≤ 63) (h2 : 1 ≤ n) (h3 : n ≤ 1000000000000000) : VV [(p, n)] :=
  ⟨List.pairwise_singleton _ _, fun t ht => by rw [List.mem_singleton] at ht; subst ht; exact ⟨h0, h1, h2, h3⟩⟩

set_option maxHeartbeats 800000 in
theorem inc_any (ao : Option Addr) (n cap : Nat) (c : List Tk) (p : Int) (w : World) (ra : TRd w (.slice ao n cap) c) :
    Calls Try.prog 14 #[.slice ao n cap, .int .i64 p] w fun e w' => ∃ x k d, e = .returned (.tuple #[.slice x k d, .int .i64 (incV c p).2]) ∧ TRd w' (.slice x k d) (incV c p).1 ∧ Below w.heap.size w w' := by
  have RA := hid_of ra
  by_cases hv : okV c = true
  · have VA := hid_of (fun w' hb => valid_b ao n cap c w' true hv.symm (ra.later (w' := w') (B := w.heap.size) hb (Nat.le_refl _)))
    have GA : Hid (∀ w', Below w.heap.size w w' → Calls Try.prog 18 #[.slice ao n cap, .int .i64 p] w' fun e w'' => e = .returned (.int .i64 (look c p)) ∧ Below w'.heap.size w' w'') := hid_of (fun w' hb => by
      have := get_any ao n cap c p w' (ra.later hb (Nat.le_refl _))
      rw [if_pos hv] at this
      exact this)
    by_cases h0 : 0 ≤ p ∧ p ≤ 63
    · obtain ⟨h1, h2⟩ := h0
      have d1 : decide (p < 0) = false := by simp; omega
      have d2 : decide (p > 63) = false := by simp; omega
      have vc := (okV_iff c).1 hv
      have hl := vc.bd p
      by_cases hm : look c p = 1000000000000000
      · have HE : Hid (incV c p = ([], 6)) := hid_of (by unfold incV; rw [if_pos ⟨hv, h1, h2⟩, if_pos hm])
        rw [hm] at GA
        clear hm hl vc ra hv
        go_enter Try.func14, Try.ntmps14
        go_wp2_with (first
          | (go_at_call 16; ((with_reducible refine (VA.out w (Below.refl _ _)).mono ?_); (rintro e w1 ⟨rfl, h1⟩; have HB1 := hid_of h1; clear h1)))
          | (go_at_call 18; ((with_reducible refine (GA.out w1 HB1.out).mono ?_); (rintro e w2 ⟨rfl, h2⟩; have HB2 := hid_of (bel_step HB1.out h2 (Nat.le_refl _)); clear h2))))
        go_ret2
        exact ⟨_, _, _, by rw [HE.out]; rfl, by rw [HE.out]; exact trd_nil _, HB2.out⟩
      · have HE : Hid (incV c p = (mrg c [(p, look c p + 1)], 0)) := hid_of (by unfold incV; rw [if_pos ⟨hv, h1, h2⟩, if_neg hm])
        have v1 : VV [(p, look c p + 1)] := one_vv h1 h2 (by omega) (by omega)
        have HM : Hid (vop gMax c [(p, look c p + 1)] = mrg c [(p, look c p + 1)]) := hid_of (if_pos ⟨hv, (okV_iff _).2 v1⟩)
        obtain ⟨y, hy⟩ : ∃ y, y = look c p := ⟨_, rfl⟩
        rw [← hy] at GA HE HM hm hl
        have dm : (y == 1000000000000000) = false := by simp; omega
        have aw : IntKind.i64.wrap (y + 1) = y + 1 := IntWalk.i64_in _ (by omega)
        have MC : Hid (∀ w', Below w.heap.size w w' → Calls Try.prog 22 #[.slice ao n cap, .slice (some ⟨w'.heap.size, 0, none⟩) 1 1] (w'.alloc (.cells #[.int .i64 p, .int .i64 (y + 1)] 41)) fun e w'' => ∃ x k d, e = .returned (.slice x k d) ∧ TRd w'' (.slice x k d) (mrg c [(p, y + 1)]) ∧ Below w'.heap.size w' w'') := hid_of (fun w' hb => by
          have hb2 := bel_step hb (bel_alloc w' (.cells #[.int .i64 p, .int .i64 (y + 1)] 41)) (Nat.le_refl _)
          have := op_max_any ao (some ⟨w'.heap.size, 0, none⟩) n cap 1 1 c [(p, y + 1)] _ (RA.out.later hb2 (Nat.le_refl _)) (trd_new (w := w') (l := [(p, y + 1)]) (n := 1) (cs := #[.int .i64 p, .int .i64 (y + 1)]) (E := 41) (m := (0, 0)) rfl rfl (by simp))
          rw [HM.out] at this
          exact this.mono fun e w'' ⟨x, k, d, he, ht, hb3⟩ => ⟨x, k, d, he, ht, bel_fst hb3⟩)
        clear hm hl vc ra hv hy v1
        go_enter Try.func14, Try.ntmps14
        go_wp2_with (first
          | (go_at_call 16; ((with_reducible refine (VA.out w (Below.refl _ _)).mono ?_); (rintro e w1 ⟨rfl, h1⟩; have HB1 := hid_of h1; clear h1)))
          | (go_at_call 18; ((with_reducible refine (GA.out w1 HB1.out).mono ?_); (rintro e w2 ⟨rfl, h2⟩; have HB2 := hid_of (bel_step HB1.out h2 (Nat.le_refl _)); clear h2)))
          | (go_at_call 22; ((with_reducible refine (MC.out w2 HB2.out).mono ?_); (rintro e w3 ⟨x, k, d, rfl, ht, h3⟩; have HT3 := hid_of ht; have HB3 := hid_of (bel_step HB2.out h3 (Nat.le_refl _)); clear ht h3))))
        go_ret2
        exact ⟨_, _, _, by rw [HE.out]; rfl, by rw [HE.out]; exact HT3.out, HB3.out⟩
    · have HE : Hid (incV c p = ([], 1)) := hid_of (if_neg (fun h => h0 h.2))
      clear ra hv
      by_cases h1 : p < 0
      · have d1 : decide (p < 0) = true := by simp; omega
        clear h0 h1
        go_enter Try.func14, Try.ntmps14
        go_wp2_with (go_at_call 16; ((with_reducible refine (VA.out w (Below.refl _ _)).mono ?_); (rintro e w1 ⟨rfl, h1⟩; have HB1 := hid_of h1; clear h1)))
        go_ret2
        exact ⟨_, _, _, by rw [HE.out]; rfl, by rw [HE.out]; exact trd_nil _, HB1.out⟩
      · have d1 : decide (p < 0) = false := by simp; omega
        have d2 : decide (p > 63) = true := by simp; omega
        clear h0 h1
        go_enter Try.func14, Try.ntmps14
        go_wp2_with (go_at_call 16; ((with_reducible refine (VA.out w (Below.refl _ _)).mono ?_); (rintro e w1 ⟨rfl, h1⟩; have HB1 := hid_of h1; clear h1)))
        go_ret2
        exact ⟨_, _, _, by rw [HE.out]; rfl, by rw [HE.out]; exact trd_nil _, HB1.out⟩
  · have HE : Hid (incV c p = ([], 1)) := hid_of (if_neg (fun h => hv h.1))
    have VA := hid_of (fun w' hb => valid_b ao n cap c w' false (by simpa using hv) (ra.later (w' := w') (B := w.heap.size) hb (Nat.le_refl _)))
    clear ra hv
    go_enter Try.func14, Try.ntmps14
    go_wp2_with (go_at_call 16; ((with_reducible refine (VA.out w (Below.refl _ _)).mono ?_); (rintro e w1 ⟨rfl, h1⟩; have HB1 := hid_of h1; clear h1)))
    go_ret2
    exact ⟨_, _, _, by rw [HE.out]; rfl, by rw [HE.out]; exact trd_nil _, HB1.out⟩
end Go.Proofs.Ytofgmimdmgaljaa
