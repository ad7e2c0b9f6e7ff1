/- ClockSteps. -/
import Derived.Test.YtofgmimdmgaljaaClkLawM
namespace Go.Proofs.Ytofgmimdmgaljaa
open Go.RowKit

set_option maxRecDepth 100000 in
set_option maxHeartbeats 6400000 in
theorem clockSteps_law (a0 : Option Addr) (n0 c0 : Nat) (l0 : List Tk) (p : Int) (q : Int) (w : World) (w0 : TIn w a0 n0 c0 l0) :
    Calls Try.prog 4 #[.slice a0 n0 c0, .int .i64 p, .int .i64 q] w fun e w' => e = .returned (.bool true) ∧ Below w.heap.size w w' := by
  have R0 := hid_of w0.1
  have HB := hid_of (Below.refl w.heap.size w)
  obtain ⟨b0, hb0⟩ : ∃ r, r = decide (200 < n0) := ⟨_, rfl⟩
  have L0 := hid_of hb0
  clear w0 hb0
  cases b0
  case true =>
    go_enter Try.func4, Try.ntmps4
    go_wp2_with (first
    | (go_at_call 12; ((with_reducible refine (awake_any w).mono ?_); (rintro e w2 ⟨rfl, h2⟩; replace R0 := hid_of (R0.out.at h2); replace HB := hid_of (bel_step HB.out h2 (Nat.le_refl _)); clear h2)))
    | (go_at_call 13; ((with_reducible refine (long_c L0.out).mono ?_); (rintro e w2 ⟨rfl, rfl⟩))))
    go_ret
    exact ⟨rfl, HB.out⟩
  rcases inc_cases l0 p with hi | hi | ⟨D, hi, vc, vd, hm, hl, hc⟩
  · have I := hid_of hi
    clear hi
    go_enter Try.func4, Try.ntmps4
    go_wp2_with (first
    | (go_at_call 12; ((with_reducible refine (awake_any w).mono ?_); (rintro e w2 ⟨rfl, h2⟩; replace R0 := hid_of (R0.out.at h2); replace HB := hid_of (bel_step HB.out h2 (Nat.le_refl _)); clear h2)))
    | (go_at_call 13; ((with_reducible refine (long_c L0.out).mono ?_); (rintro e w2 ⟨rfl, rfl⟩)))
    | (go_at_call 14; ((with_reducible refine (inc_c R0.out I.out).mono ?_); (rintro e w2 ⟨xX, kX, cX, rfl, h1, h2⟩; have X := hid_of h1; replace R0 := hid_of (R0.out.at h2); replace HB := hid_of (bel_step HB.out h2 (Nat.le_refl _)); clear h2; clear h1))))
    have hk := X.out.cut.1
    obtain rfl : kX = 0 := hk
    go_ret
    exact ⟨rfl, HB.out⟩
  · have I := hid_of hi
    clear hi
    go_enter Try.func4, Try.ntmps4
    go_wp2_with (first
    | (go_at_call 12; ((with_reducible refine (awake_any w).mono ?_); (rintro e w2 ⟨rfl, h2⟩; replace R0 := hid_of (R0.out.at h2); replace HB := hid_of (bel_step HB.out h2 (Nat.le_refl _)); clear h2)))
    | (go_at_call 13; ((with_reducible refine (long_c L0.out).mono ?_); (rintro e w2 ⟨rfl, rfl⟩)))
    | (go_at_call 14; ((with_reducible refine (inc_c R0.out I.out).mono ?_); (rintro e w2 ⟨xX, kX, cX, rfl, h1, h2⟩; have X := hid_of h1; replace R0 := hid_of (R0.out.at h2); replace HB := hid_of (bel_step HB.out h2 (Nat.le_refl _)); clear h2; clear h1))))
    have hk := X.out.cut.1
    obtain rfl : kX = 0 := hk
    go_ret
    exact ⟨rfl, HB.out⟩
  · have I := hid_of hi
    have VC := hid_of vc
    have VD := hid_of vd
    have OK : Hid (true = okV D) := hid_of ((okV_iff D).2 vd).symm
    have C : Hid (1 = cmpW l0 D) := hid_of hc.symm
    obtain ⟨y, hy⟩ : ∃ y, y = look l0 p := ⟨_, rfl⟩
    obtain ⟨g, hg⟩ : ∃ y, y = look D p := ⟨_, rfl⟩
    have hgy : g = y + 1 := by rw [hg, hl, if_pos rfl, hy]
    have hb := vc.bd p
    rw [← hy] at hb
    have aw : IntKind.i64.wrap (g - 1) = y := by rw [hgy, Int.add_sub_cancel]; exact IntWalk.i64_in _ (by omega)
    have Y := hid_of hy
    have G := hid_of hg
    have ey : (y != y) = false := by simp
    by_cases hpq : p = q
    · have dpq : (p == q) = true := by simp [hpq]
      clear hi vc vd hm hl hc hy hg hgy hb hpq
      go_enter Try.func4, Try.ntmps4
      go_wp2_with (first
    | (go_at_call 12; ((with_reducible refine (awake_any w).mono ?_); (rintro e w2 ⟨rfl, h2⟩; replace R0 := hid_of (R0.out.at h2); replace HB := hid_of (bel_step HB.out h2 (Nat.le_refl _)); clear h2)))
    | (go_at_call 13; ((with_reducible refine (long_c L0.out).mono ?_); (rintro e w2 ⟨rfl, rfl⟩)))
    | (go_at_call 14; ((with_reducible refine (inc_c R0.out I.out).mono ?_); (rintro e w2 ⟨xX, kX, cX, rfl, h1, h2⟩; have X := hid_of h1; replace R0 := hid_of (R0.out.at h2); replace HB := hid_of (bel_step HB.out h2 (Nat.le_refl _)); clear h2; clear h1)))
    | (go_at_call 16; ((with_reducible refine (valid_c X.out OK.out).mono ?_); (rintro e w2 ⟨rfl, h2⟩; replace R0 := hid_of (R0.out.at h2); replace X := hid_of (X.out.at h2); replace HB := hid_of (bel_step HB.out h2 (Nat.le_refl _)); clear h2)))
    | (go_at_call 21; ((with_reducible refine (cmp_c R0.out X.out C.out).mono ?_); (rintro e w2 ⟨rfl, h2⟩; replace R0 := hid_of (R0.out.at h2); replace X := hid_of (X.out.at h2); replace HB := hid_of (bel_step HB.out h2 (Nat.le_refl _)); clear h2)))
    | (go_at_call 18; (first
      | ((with_reducible refine (get_c X.out VD.out G.out).mono ?_); (rintro e w2 ⟨rfl, h2⟩; replace R0 := hid_of (R0.out.at h2); replace X := hid_of (X.out.at h2); replace HB := hid_of (bel_step HB.out h2 (Nat.le_refl _)); clear h2))
      | ((with_reducible refine (get_c R0.out VC.out Y.out).mono ?_); (rintro e w2 ⟨rfl, h2⟩; replace R0 := hid_of (R0.out.at h2); replace X := hid_of (X.out.at h2); replace HB := hid_of (bel_step HB.out h2 (Nat.le_refl _)); clear h2)))))
      go_ret
      exact ⟨rfl, HB.out⟩
    · have dpq : (p == q) = false := by simp [hpq]
      obtain ⟨z, hz⟩ : ∃ z, z = look l0 q := ⟨_, rfl⟩
      have Q2 := hid_of hz
      have Q : Hid (z = look D q) := hid_of (by rw [hl, if_neg (fun e => hpq e.symm)]; exact hz)
      have ez : (z == z) = true := by simp
      clear hi vc vd hm hl hc hy hg hgy hb hpq hz
      go_enter Try.func4, Try.ntmps4
      go_wp2_with (first
    | (go_at_call 12; ((with_reducible refine (awake_any w).mono ?_); (rintro e w2 ⟨rfl, h2⟩; replace R0 := hid_of (R0.out.at h2); replace HB := hid_of (bel_step HB.out h2 (Nat.le_refl _)); clear h2)))
    | (go_at_call 13; ((with_reducible refine (long_c L0.out).mono ?_); (rintro e w2 ⟨rfl, rfl⟩)))
    | (go_at_call 14; ((with_reducible refine (inc_c R0.out I.out).mono ?_); (rintro e w2 ⟨xX, kX, cX, rfl, h1, h2⟩; have X := hid_of h1; replace R0 := hid_of (R0.out.at h2); replace HB := hid_of (bel_step HB.out h2 (Nat.le_refl _)); clear h2; clear h1)))
    | (go_at_call 16; ((with_reducible refine (valid_c X.out OK.out).mono ?_); (rintro e w2 ⟨rfl, h2⟩; replace R0 := hid_of (R0.out.at h2); replace X := hid_of (X.out.at h2); replace HB := hid_of (bel_step HB.out h2 (Nat.le_refl _)); clear h2)))
    | (go_at_call 21; ((with_reducible refine (cmp_c R0.out X.out C.out).mono ?_); (rintro e w2 ⟨rfl, h2⟩; replace R0 := hid_of (R0.out.at h2); replace X := hid_of (X.out.at h2); replace HB := hid_of (bel_step HB.out h2 (Nat.le_refl _)); clear h2)))
    | (go_at_call 18; (first
      | ((with_reducible refine (get_c X.out VD.out G.out).mono ?_); (rintro e w2 ⟨rfl, h2⟩; replace R0 := hid_of (R0.out.at h2); replace X := hid_of (X.out.at h2); replace HB := hid_of (bel_step HB.out h2 (Nat.le_refl _)); clear h2))
      | ((with_reducible refine (get_c R0.out VC.out Y.out).mono ?_); (rintro e w2 ⟨rfl, h2⟩; replace R0 := hid_of (R0.out.at h2); replace X := hid_of (X.out.at h2); replace HB := hid_of (bel_step HB.out h2 (Nat.le_refl _)); clear h2))
      | ((with_reducible refine (get_c X.out VD.out Q.out).mono ?_); (rintro e w2 ⟨rfl, h2⟩; replace R0 := hid_of (R0.out.at h2); replace HB := hid_of (bel_step HB.out h2 (Nat.le_refl _)); clear h2))
      | ((with_reducible refine (get_c R0.out VC.out Q2.out).mono ?_); (rintro e w2 ⟨rfl, h2⟩; replace R0 := hid_of (R0.out.at h2); replace HB := hid_of (bel_step HB.out h2 (Nat.le_refl _)); clear h2)))))
      go_ret
      exact ⟨rfl, HB.out⟩
end Go.Proofs.Ytofgmimdmgaljaa
