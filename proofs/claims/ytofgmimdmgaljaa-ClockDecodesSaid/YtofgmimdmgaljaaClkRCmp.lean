/- The reference of package clock: Leq, Compare. -/
import Derived.Test.YtofgmimdmgaljaaClkRMax
import Derived.Test.YtofgmimdmgaljaaClkRMin
import Derived.Test.YtofgmimdmgaljaaClkRSub
namespace Go.Proofs.Ytofgmimdmgaljaa
open Go.RowKit

set_option maxRecDepth 100000 in
set_option maxHeartbeats 1600000 in
theorem rleq_c {ao bo : Option Addr} {n cap m cbp : Nat} {a b : List Tk} {w : World} {r : Bool} (ra : TRd w (.slice ao n cap) a) (rb : TRd w (.slice bo m cbp) b) (va : VV a) (vb : VV b) (hr : r = true ↔ leV a b) :
    Calls Try.prog 39 #[.slice ao n cap, .slice bo m cbp] w fun e w' => e = .returned (.bool r) ∧ Below w.heap.size w w' := by
  have RB := hid_of rb
  have h1 := (okV_iff a).2 va
  have h2 := (okV_iff b).2 vb
  have ALA : Hid (Calls Try.prog 33 #[.slice ao n cap] w fun e w'' => ∃ g k, e = .returned (.slice (some ⟨g, 0, none⟩) 64 k) ∧ 64 ≤ k ∧ k ≤ 9223372036854775807 ∧ w.heap.size ≤ g ∧ N64 w'' g (fun j : Nat => look a (j : Int)) ∧ Below w.heap.size w w'') := hid_of (by
    have := rall_any ao n cap a w ra
    simp only [if_pos h1] at this
    exact this)
  have ALB : Hid (∀ w', Below w.heap.size w w' → Calls Try.prog 33 #[.slice bo m cbp] w' fun e w'' => ∃ g k, e = .returned (.slice (some ⟨g, 0, none⟩) 64 k) ∧ 64 ≤ k ∧ k ≤ 9223372036854775807 ∧ w'.heap.size ≤ g ∧ N64 w'' g (fun j : Nat => look b (j : Int)) ∧ Below w'.heap.size w' w'') := hid_of (fun w' hb => by
    have := rall_any bo m cbp b w' (RB.out.later hb (Nat.le_refl _))
    simp only [if_pos h2] at this
    exact this)
  have END : Hid ((∀ j : Nat, j < 64 → look a j ≤ look b j) → r = true) := hid_of (fun h => hr.2 fun p => by
    by_cases hp : 0 ≤ p ∧ p ≤ 63
    · have := h p.toNat (by omega)
      rw [show ((p.toNat : Nat) : Int) = p by omega] at this
      exact this
    · rw [va.out (by omega), vb.out (by omega)]; exact Int.le_refl _)
  have BAD : Hid (∀ j : Nat, look b j < look a j → r = false) := hid_of (fun j hj => by
    cases r with
    | false => rfl
    | true => exact absurd (hr.1 rfl j) (by omega))
  clear ra rb h1 h2 hr va vb
  go_enter Try.func39, Try.ntmps39
  go_wp2_with (go_at_call 33; (first
      | ((with_reducible refine ALA.out.mono ?_); (rintro e w3 ⟨g1, k1, rfl, q1, q2, q3, h3, h4⟩; have X3 := hid_of h3; have HB3 := hid_of h4; clear h3 h4 q3))
      | ((with_reducible refine (ALB.out w3 HB3.out).mono ?_); (rintro e w4 ⟨g2, k2, rfl, p1, p2, p3, h3, h4⟩; have Y4 := hid_of h3; have X4 := hid_of (X3.out.at h4); have HB4 := hid_of (bel_step HB3.out h4 (Nat.le_refl _)); clear h3 h4 p3))))
  go_loopw [7] (fun iv wr => ∃ (k : Nat), k ≤ 64 ∧ iv = .int .i64 k ∧ Hid (∀ j : Nat, j < k → look a j ≤ look b j) ∧ Hid (N64 wr g1 (fun j : Nat => look a (j : Int))) ∧ Hid (N64 wr g2 (fun j : Nat => look b (j : Int))) ∧ Hid (Below w.heap.size w wr)) (fun iv _ => 64 - (intOf iv).toNat)
  case atStart => exact ⟨0, by omega, rfl, hid_of (fun j hj => by omega), X4, Y4, HB4⟩
  case round =>
    obtain ⟨k, hk, rfl, hl, hx, hy, hb⟩ := hrel
    have HL := hid_of hl.out
    have HX := hid_of hx.out
    have HY := hid_of hy.out
    have HB := hid_of hb.out
    clear hx hy hb hl
    by_cases hlt : k < 64
    · have b1 : (k : Int) < (64 : Int) := by omega
      have b0 : (0 : Int) ≤ (k : Int) := by omega
      obtain ⟨x, hx⟩ : ∃ x, x = look a k := ⟨_, rfl⟩
      obtain ⟨y, hy⟩ : ∃ y, y = look b k := ⟨_, rfl⟩
      have c1 : wr.cell? ⟨g1, k, none⟩ = some (.int .i64 x) := by rw [hx]; exact HX.out.cell hlt
      have c2 : wr.cell? ⟨g2, k, none⟩ = some (.int .i64 y) := by rw [hy]; exact HY.out.cell hlt
      have NX := hid_of hx
      have NY := hid_of hy
      clear hx hy
      by_cases hxy : y < x
      · have HE : Hid (r = false) := hid_of (BAD.out k (by rw [← NX.out, ← NY.out]; exact hxy))
        have dxy : decide (x > y) = true := by simp; omega
        clear hxy
        go_wp2
        go_quiet (fail)
        go_wp2
        go_ret
        exact ⟨by rw [HE.out]; rfl, bel_drewN HB.out _⟩
      · have dxy : decide (x > y) = false := by simp; omega
        have HK : Hid (look a k ≤ look b k) := hid_of (by rw [← NX.out, ← NY.out]; omega)
        clear hxy
        go_wp2
        go_quiet (fail)
        go_wp2
        go_roundw
        case rel => exact ⟨k + 1, by omega, by go_num, hid_of (fun j hj => by
          by_cases e : j = k
          · subst e; exact HK.out
          · exact HL.out j (by omega)), hid_of (HX.out.same rfl), hid_of (HY.out.same rfl), hid_of (bel_drewN HB.out _)⟩
        case measure => simp [intOf]; omega
    · obtain rfl : k = 64 := by omega
      have HE : Hid (r = true) := hid_of (END.out HL.out)
      go_wp2
      go_ret
      exact ⟨by rw [HE.out]; rfl, HB.out⟩

theorem rvalid_r {c : List Tk} {ao : Option Addr} {n cap : Nat} {w : World} {r : Bool} (ra : TRd w (.slice ao n cap) c) (h : r = okV c) :
    Calls Try.prog 17 #[.slice ao n cap] w fun e w' => e = .returned (.bool r) ∧ Below w.heap.size w w' := by
  subst h; exact rvalid_any ao n cap c w ra
theorem cmp_bad {a b : List Tk} (h : ¬ (okV a = true ∧ okV b = true)) : cmpW a b = 3 := by
  unfold cmpW cmpB
  cases h1 : okV a <;> cases h2 : okV b <;> simp [h1, h2] at h ⊢
set_option maxRecDepth 100000 in
set_option maxHeartbeats 1600000 in
theorem rcmp_c {ao bo : Option Addr} {n cap m cbp : Nat} {a b : List Tk} {w : World} {x : Int} (ra : TRd w (.slice ao n cap) a) (rb : TRd w (.slice bo m cbp) b) (hx : x = cmpW a b) :
    Calls Try.prog 28 #[.slice ao n cap, .slice bo m cbp] w fun e w' => e = .returned (.int .i64 x) ∧ Below w.heap.size w w' := by
  have R0 := hid_of ra
  have R1 := hid_of rb
  have HB := hid_of (Below.refl w.heap.size w)
  obtain ⟨v0, hv0⟩ : ∃ v, v = okV a := ⟨_, rfl⟩
  obtain ⟨v1, hv1⟩ : ∃ v, v = okV b := ⟨_, rfl⟩
  have V0 := hid_of hv0
  have V1 := hid_of hv1
  have X := hid_of hx
  clear ra rb hv0 hv1 hx
  cases v0
  case false =>
    obtain rfl : x = 3 := X.out.trans (cmp_bad fun h => by have := V0.out; rw [h.1] at this; cases this)
    go_enter Try.func28, Try.ntmps28
    go_wp2_with (go_at_call 17; ((with_reducible refine (rvalid_r R0.out V0.out).mono ?_); (rintro e w2 ⟨rfl, h2⟩; replace HB := hid_of (bel_step HB.out h2 (Nat.le_refl _)); clear h2)))
    go_ret
    exact ⟨rfl, HB.out⟩
  cases v1
  case false =>
    obtain rfl : x = 3 := X.out.trans (cmp_bad fun h => by have := V1.out; rw [h.2] at this; cases this)
    go_enter Try.func28, Try.ntmps28
    go_wp2_with (go_at_call 17; (first
      | ((with_reducible refine (rvalid_r R0.out V0.out).mono ?_); (rintro e w2 ⟨rfl, h2⟩; replace R1 := hid_of (R1.out.at h2); replace HB := hid_of (bel_step HB.out h2 (Nat.le_refl _)); clear h2 R0))
      | ((with_reducible refine (rvalid_r R1.out V1.out).mono ?_); (rintro e w3 ⟨rfl, h2⟩; replace HB := hid_of (bel_step HB.out h2 (Nat.le_refl _)); clear h2))))
    go_ret
    exact ⟨rfl, HB.out⟩
  have va := (okV_iff a).1 V0.out.symm
  have vb := (okV_iff b).1 V1.out.symm
  have VA := hid_of va
  have VB := hid_of vb
  obtain ⟨r, s, e1, e2, e3⟩ := cmp_ok va vb
  have hs : decide (a = b) = (r && s) := by
    have := leV_anti va vb
    rw [Bool.eq_iff_iff, decide_eq_true_iff, ← this, Bool.and_eq_true, e2, e3]
  have S := hid_of hs.symm
  have LQ1 := hid_of (fun (W : World) (h1 : TRd W (.slice ao n cap) a) (h2 : TRd W (.slice bo m cbp) b) => rleq_c h1 h2 va vb e2)
  have LQ2 := hid_of (fun (W : World) (h1 : TRd W (.slice bo m cbp) b) (h2 : TRd W (.slice ao n cap) a) => rleq_c h1 h2 vb va e3)
  have X2 := hid_of (X.out.trans e1)
  clear va vb e1 e2 e3 hs X
  cases r <;> cases s
  all_goals (
    have XX := X2.out
    simp only [cmpB, Bool.and_true, Bool.and_false, Bool.and_self, if_true, Bool.false_eq_true, if_false] at XX
    subst XX
    first
    | replace S : Hid (true = decide (a = b)) := S
    | replace S : Hid (false = decide (a = b)) := S
    go_enter Try.func28, Try.ntmps28
    go_wp2_with (first
      | (go_at_call 17; (first
        | ((with_reducible refine (rvalid_r R0.out V0.out).mono ?_); (rintro e w2 ⟨rfl, h2⟩; replace R0 := hid_of (R0.out.at h2); replace R1 := hid_of (R1.out.at h2); replace HB := hid_of (bel_step HB.out h2 (Nat.le_refl _)); clear h2))
        | ((with_reducible refine (rvalid_r R1.out V1.out).mono ?_); (rintro e w3 ⟨rfl, h2⟩; replace R0 := hid_of (R0.out.at h2); replace R1 := hid_of (R1.out.at h2); replace HB := hid_of (bel_step HB.out h2 (Nat.le_refl _)); clear h2))))
      | (go_at_call 20; ((refine (same_c R0.out R1.out S.out).mono ?_); (rintro e w4 ⟨rfl, h2⟩; replace R0 := hid_of (R0.out.at h2); replace R1 := hid_of (R1.out.at h2); replace HB := hid_of (bel_step HB.out h2 (Nat.le_refl _)); clear h2)))
      | (go_at_call 39; (first
        | ((with_reducible refine (LQ1.out _ R0.out R1.out).mono ?_); (rintro e w5 ⟨rfl, h2⟩; replace R0 := hid_of (R0.out.at h2); replace R1 := hid_of (R1.out.at h2); replace HB := hid_of (bel_step HB.out h2 (Nat.le_refl _)); clear h2))
        | ((with_reducible refine (LQ2.out _ R1.out R0.out).mono ?_); (rintro e w6 ⟨rfl, h2⟩; replace HB := hid_of (bel_step HB.out h2 (Nat.le_refl _)); clear h2)))))
    go_ret
    exact ⟨rfl, HB.out⟩)
end Go.Proofs.Ytofgmimdmgaljaa
