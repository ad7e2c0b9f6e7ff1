/- ClockIncs. -/
import Derived.Test.YtofgmimdmgaljaaClkRef2
namespace Go.Proofs.Ytofgmimdmgaljaa
open Go.RowKit

theorem rinc_c {c : List Tk} {ao : Option Addr} {n cap : Nat} {w : World} {p er : Int} {D : List Tk} (ra : TRd w (.slice ao n cap) c) (h : incV c p = (D, er)) :
    Calls Try.prog 15 #[.slice ao n cap, .int .i64 p] w fun e w' => ∃ x k d, e = .returned (.tuple #[.slice x k d, .int .i64 er]) ∧ TRd w' (.slice x k d) D ∧ Below w.heap.size w w' := by
  have := rinc_any ao n cap c p w ra
  rw [h] at this
  exact this
theorem get_g {c : List Tk} {ao : Option Addr} {n cap : Nat} {w : World} {p r : Int} (ra : TRd w (.slice ao n cap) c) (h : r = if okV c = true then look c p else 0) :
    Calls Try.prog 18 #[.slice ao n cap, .int .i64 p] w fun e w' => e = .returned (.int .i64 r) ∧ Below w.heap.size w w' := by
  subst h; exact get_any ao n cap c p w ra
theorem rget_g {c : List Tk} {ao : Option Addr} {n cap : Nat} {w : World} {p r : Int} (ra : TRd w (.slice ao n cap) c) (h : r = if okV c = true then look c p else 0) :
    Calls Try.prog 19 #[.slice ao n cap, .int .i64 p] w fun e w' => e = .returned (.int .i64 r) ∧ Below w.heap.size w w' := by
  subst h; exact rget_any ao n cap c p w ra
theorem rvalid_c {c : List Tk} {ao : Option Addr} {n cap : Nat} {w : World} {r : Bool} (ra : TRd w (.slice ao n cap) c) (h : r = okV c) :
    Calls Try.prog 17 #[.slice ao n cap] w fun e w' => e = .returned (.bool r) ∧ Below w.heap.size w w' := by
  subst h; exact rvalid_any ao n cap c w ra

set_option maxRecDepth 100000 in
set_option maxHeartbeats 6400000 in
theorem clockIncs_law (a0 : Option Addr) (n0 c0 : Nat) (l0 : List Tk) (p : Int) (w : World) (w0 : TIn w a0 n0 c0 l0) :
    Calls Try.prog 3 #[.slice a0 n0 c0, .int .i64 p] w fun e w' => e = .returned (.bool true) ∧ Below w.heap.size w w' := by
  have R0 := hid_of w0.1
  have HB := hid_of (Below.refl w.heap.size w)
  obtain ⟨b0, hb0⟩ : ∃ r, r = decide (200 < n0) := ⟨_, rfl⟩
  have L0 := hid_of hb0
  clear w0 hb0
  cases b0
  case true =>
    go_enter Try.func3, Try.ntmps3
    go_wp2_with (first
    | (go_at_call 12; ((with_reducible refine (awake_any w).mono ?_); (rintro e w2 ⟨rfl, h2⟩; replace R0 := hid_of (R0.out.at h2); replace HB := hid_of (bel_step HB.out h2 (Nat.le_refl _)); clear h2)))
    | (go_at_call 13; ((with_reducible refine (long_c L0.out).mono ?_); (rintro e w2 ⟨rfl, rfl⟩))))
    go_ret
    exact ⟨rfl, HB.out⟩
  obtain ⟨D, er, hi⟩ : ∃ D er, incV l0 p = (D, er) := ⟨_, _, rfl⟩
  have I := hid_of hi
  obtain ⟨v, hv⟩ : ∃ v, v = okV l0 := ⟨_, rfl⟩
  have V := hid_of hv
  obtain ⟨g, hg⟩ : ∃ g, g = if okV l0 = true then look l0 p else 0 := ⟨_, rfl⟩
  have G := hid_of hg
  have E : Hid (true = decide (D = D)) := hid_of (decide_eq_true rfl).symm
  have ev : (v == v) = true := by simp
  have eg : (g == g) = true := by simp
  have ee : (er == er) = true := by simp
  clear hi hv hg
  go_enter Try.func3, Try.ntmps3
  go_wp2_with (first
    | (go_at_call 12; ((with_reducible refine (awake_any w).mono ?_); (rintro e w2 ⟨rfl, h2⟩; replace R0 := hid_of (R0.out.at h2); replace HB := hid_of (bel_step HB.out h2 (Nat.le_refl _)); clear h2)))
    | (go_at_call 13; ((with_reducible refine (long_c L0.out).mono ?_); (rintro e w2 ⟨rfl, rfl⟩)))
    | (go_at_call 14; ((with_reducible refine (inc_c R0.out I.out).mono ?_); (rintro e w2 ⟨xX, kX, cX, rfl, h1, h2⟩; have X := hid_of h1; replace R0 := hid_of (R0.out.at h2); replace HB := hid_of (bel_step HB.out h2 (Nat.le_refl _)); clear h2; clear h1)))
    | (go_at_call 15; ((with_reducible refine (rinc_c R0.out I.out).mono ?_); (rintro e w2 ⟨xY, kY, cY, rfl, h1, h2⟩; have Y := hid_of h1; replace R0 := hid_of (R0.out.at h2); replace X := hid_of (X.out.at h2); replace HB := hid_of (bel_step HB.out h2 (Nat.le_refl _)); clear h2; clear h1)))
    | (go_at_call 16; ((with_reducible refine (valid_c R0.out V.out).mono ?_); (rintro e w2 ⟨rfl, h2⟩; replace R0 := hid_of (R0.out.at h2); replace X := hid_of (X.out.at h2); replace Y := hid_of (Y.out.at h2); replace HB := hid_of (bel_step HB.out h2 (Nat.le_refl _)); clear h2)))
    | (go_at_call 17; ((with_reducible refine (rvalid_c R0.out V.out).mono ?_); (rintro e w2 ⟨rfl, h2⟩; replace R0 := hid_of (R0.out.at h2); replace X := hid_of (X.out.at h2); replace Y := hid_of (Y.out.at h2); replace HB := hid_of (bel_step HB.out h2 (Nat.le_refl _)); clear h2)))
    | (go_at_call 18; ((with_reducible refine (get_g R0.out G.out).mono ?_); (rintro e w2 ⟨rfl, h2⟩; replace R0 := hid_of (R0.out.at h2); replace X := hid_of (X.out.at h2); replace Y := hid_of (Y.out.at h2); replace HB := hid_of (bel_step HB.out h2 (Nat.le_refl _)); clear h2)))
    | (go_at_call 19; ((with_reducible refine (rget_g R0.out G.out).mono ?_); (rintro e w2 ⟨rfl, h2⟩; replace R0 := hid_of (R0.out.at h2); replace X := hid_of (X.out.at h2); replace Y := hid_of (Y.out.at h2); replace HB := hid_of (bel_step HB.out h2 (Nat.le_refl _)); clear h2)))
    | (go_at_call 20; ((with_reducible refine (same_c X.out Y.out (decide_eq_true rfl).symm).mono ?_); (rintro e w2 ⟨rfl, h2⟩; replace HB := hid_of (bel_step HB.out h2 (Nat.le_refl _)); clear h2))))
  go_ret
  exact ⟨rfl, HB.out⟩
end Go.Proofs.Ytofgmimdmgaljaa
