/- The reference of package clock: Merge. -/
import Derived.Test.YtofgmimdmgaljaaClkRef2
namespace Go.Proofs.Ytofgmimdmgaljaa
open Go.RowKit

/-- What x holds behind k rounds. -/
def upTo_max (a b : List Tk) (k : Nat) : Nat → Int := fun j => if j < k then gMax (look a j) (look b j) else look a j
set_option maxRecDepth 100000 in
set_option maxHeartbeats 3200000 in
theorem rop_max_any (ao bo : Option Addr) (n cap m cbp : Nat) (a b : List Tk) (w : World) (ra : TRd w (.slice ao n cap) a) (rb : TRd w (.slice bo m cbp) b) :
    Calls Try.prog 23 #[.slice ao n cap, .slice bo m cbp] w fun e w' => ∃ x k c, e = .returned (.slice x k c) ∧ TRd w' (.slice x k c) (vop gMax a b) ∧ Below w.heap.size w w' := by
  have RA := hid_of ra
  have RB := hid_of rb
  by_cases h1 : okV a = true
  case neg =>
    have h2 : okV a = false := by simpa using h1
    have hc : vop gMax a b = [] := if_neg (fun h => h1 h.1)
    rw [hc]
    have VA : Hid (Calls Try.prog 17 #[.slice ao n cap] w fun e w' => e = .returned (.bool false) ∧ Below w.heap.size w w') := hid_of (by rw [← h2]; exact rvalid_any ao n cap a w ra)
    clear ra rb h1 h2 hc
    go_enter Try.func23, Try.ntmps23
    go_wp2_with (go_at_call 17; ((with_reducible refine VA.out.mono ?_); (rintro e w1 ⟨rfl, h1⟩; have HB1 := hid_of h1; clear h1)))
    go_ret
    exact ⟨_, _, _, rfl, trd_nil _, HB1.out⟩
  have VA : Hid (Calls Try.prog 17 #[.slice ao n cap] w fun e w' => e = .returned (.bool true) ∧ Below w.heap.size w w') := hid_of (by rw [← h1]; exact rvalid_any ao n cap a w ra)
  by_cases h2 : okV b = true
  case neg =>
    have h3 : okV b = false := by simpa using h2
    have hc : vop gMax a b = [] := if_neg (fun h => h2 h.2)
    rw [hc]
    have VB : Hid (∀ w', Below w.heap.size w w' → Calls Try.prog 17 #[.slice bo m cbp] w' fun e w'' => e = .returned (.bool false) ∧ Below w'.heap.size w' w'') := hid_of (fun w' hb => by rw [← h3]; exact rvalid_any bo m cbp b w' (RB.out.later hb (Nat.le_refl _)))
    clear ra rb h1 h2 h3 hc
    go_enter Try.func23, Try.ntmps23
    go_wp2_with (go_at_call 17; (first
      | ((with_reducible refine VA.out.mono ?_); (rintro e w1 ⟨rfl, h1⟩; have HB1 := hid_of h1; clear h1))
      | ((with_reducible refine (VB.out w1 HB1.out).mono ?_); (rintro e w2 ⟨rfl, h2⟩; have HB2 := hid_of (bel_step HB1.out h2 (Nat.le_refl _)); clear h2))))
    go_ret
    exact ⟨_, _, _, rfl, trd_nil _, HB2.out⟩
  have VB : Hid (∀ w', Below w.heap.size w w' → Calls Try.prog 17 #[.slice bo m cbp] w' fun e w'' => e = .returned (.bool true) ∧ Below w'.heap.size w' w'') := hid_of (fun w' hb => by rw [← h2]; exact rvalid_any bo m cbp b w' (RB.out.later hb (Nat.le_refl _)))
  have va := (okV_iff a).1 h1
  have vb := (okV_iff b).1 h2
  have hc : vop gMax a b = comb gMax a b := if_pos ⟨h1, h2⟩
  rw [hc]
  have ALA : Hid (∀ w', Below w.heap.size w w' → Calls Try.prog 33 #[.slice ao n cap] w' fun e w'' => ∃ g k, e = .returned (.slice (some ⟨g, 0, none⟩) 64 k) ∧ 64 ≤ k ∧ k ≤ 9223372036854775807 ∧ w'.heap.size ≤ g ∧ N64 w'' g (fun j : Nat => look a (j : Int)) ∧ Below w'.heap.size w' w'') := hid_of (fun w' hb => by
    have := rall_any ao n cap a w' (RA.out.later hb (Nat.le_refl _))
    simp only [if_pos h1] at this
    exact this)
  have ALB : Hid (∀ w', Below w.heap.size w w' → Calls Try.prog 33 #[.slice bo m cbp] w' fun e w'' => ∃ g k, e = .returned (.slice (some ⟨g, 0, none⟩) 64 k) ∧ 64 ≤ k ∧ k ≤ 9223372036854775807 ∧ w'.heap.size ≤ g ∧ N64 w'' g (fun j : Nat => look b (j : Int)) ∧ Below w'.heap.size w' w'') := hid_of (fun w' hb => by
    have := rall_any bo m cbp b w' (RB.out.later hb (Nat.le_refl _))
    simp only [if_pos h2] at this
    exact this)
  have FIN : Hid (can (fun q => upTo_max a b 64 q.toNat) = comb gMax a b) := hid_of (canTo_congr 64 fun q q0 q1 => by
    show upTo_max a b 64 q.toNat = gMax (look a q) (look b q)
    unfold upTo_max
    rw [if_pos (by omega), show ((q.toNat : Nat) : Int) = q by omega])
  clear ra rb h1 h2 va vb hc
  go_enter Try.func23, Try.ntmps23
  go_wp2_with (first
    | (go_at_call 17; (first
      | ((with_reducible refine VA.out.mono ?_); (rintro e w1 ⟨rfl, h1⟩; have HB1 := hid_of h1; clear h1))
      | ((with_reducible refine (VB.out w1 HB1.out).mono ?_); (rintro e w2 ⟨rfl, h2⟩; have HB2 := hid_of (bel_step HB1.out h2 (Nat.le_refl _)); clear h2))))
    | (go_at_call 33; (first
      | ((with_reducible refine (ALA.out w2 HB2.out).mono ?_); (rintro e w3 ⟨g1, k1, rfl, q1, q2, q3, h3, h4⟩; have X3 := hid_of h3; have G1 := hid_of (Nat.le_trans HB2.out.size q3); have HB3 := hid_of (bel_step HB2.out h4 (Nat.le_refl _)); clear h3 h4 q3))
      | ((with_reducible refine (ALB.out w3 HB3.out).mono ?_); (rintro e w4 ⟨g2, k2, rfl, p1, p2, p3, h3, h4⟩; have Y4 := hid_of h3; have NE : Hid (g1 ≠ g2) := hid_of (by have := X3.out.lt; omega); have X4 := hid_of (X3.out.at h4); have HB4 := hid_of (bel_step HB3.out h4 (Nat.le_refl _)); clear h3 h4 p3)))))
  go_loopw [7] (fun iv wr => ∃ (k : Nat), k ≤ 64 ∧ iv = .int .i64 k ∧ Hid (N64 wr g1 (upTo_max a b k)) ∧ Hid (N64 wr g2 (fun j : Nat => look b (j : Int))) ∧ Hid (Below w.heap.size w wr)) (fun iv _ => 64 - (intOf iv).toNat)
  case atStart => exact ⟨0, by omega, rfl, hid_of (X4.out.congr fun j _ => by unfold upTo_max; rw [if_neg (by omega)]), Y4, HB4⟩
  case round =>
    obtain ⟨k, hk, rfl, hx, hy, hb⟩ := hrel
    have HX := hid_of hx.out
    have HY := hid_of hy.out
    have HB := hid_of hb.out
    clear hx hy hb
    by_cases hlt : k < 64
    · have b1 : (k : Int) < (64 : Int) := by omega
      have b0 : (0 : Int) ≤ (k : Int) := by omega
      obtain ⟨x, hx⟩ : ∃ x, x = look a k := ⟨_, rfl⟩
      obtain ⟨y, hy⟩ : ∃ y, y = look b k := ⟨_, rfl⟩
      have c1 : wr.cell? ⟨g1, k, none⟩ = some (.int .i64 x) := by
        have := HX.out.cell hlt
        unfold upTo_max at this
        rw [if_neg (by omega)] at this
        rw [hx]; exact this
      have c2 : wr.cell? ⟨g2, k, none⟩ = some (.int .i64 y) := by rw [hy]; exact HY.out.cell hlt
      have f1 : wr.frozen? ⟨g1, k, none⟩ = false := HX.out.free k
      have NX := hid_of hx
      have NY := hid_of hy
      have STEP : Hid (∀ W : World, W.heap = (wr.setCell ⟨g1, k, none⟩ (.int .i64 (gMax x y))).heap → N64 W g1 (upTo_max a b (k + 1)) ∧ N64 W g2 (fun j : Nat => look b (j : Int))) := hid_of (fun W hW => by
        have hs : W.heap[g1]? = (wr.setCell ⟨g1, k, none⟩ (.int .i64 (gMax x y))).heap[g1]? := by rw [hW]
        have hs2 : W.heap[g2]? = wr.heap[g2]? := by rw [hW]; exact Below.heap_setCell _ _ _ _ (Ne.symm NE.out)
        refine ⟨((HX.out.set k (gMax x y)).same hs).congr fun j hj => ?_, HY.out.same hs2⟩
        unfold upTo_max
        by_cases e : j = k
        · subst e; rw [if_pos rfl, if_pos (by omega), hx, hy]
        · rw [if_neg e]
          by_cases e2 : j < k
          · rw [if_pos e2, if_pos (by omega)]
          · rw [if_neg e2, if_neg (by omega)])
      have BEL : Hid (∀ z, Below w.heap.size w (wr.setCell ⟨g1, k, none⟩ z)) := hid_of (fun z => HB.out.setCell (p := ⟨g1, k, none⟩) G1.out z)
      clear hx hy
      rcases (show (x < y ∧ gMax x y = y) ∨ (x = y ∧ gMax x y = x) ∨ (y < x ∧ gMax x y = x) by unfold gMax; omega) with ⟨hxy, hz⟩ | ⟨rfl, hz⟩ | ⟨hxy, hz⟩
      all_goals (
        rw [hz] at STEP
        clear hz
        go_wp2
        go_region
        all_goals go_wp2
        all_goals (
          go_roundw
          case rel => exact ⟨k + 1, by omega, by go_num, hid_of (STEP.out _ rfl).1, hid_of (STEP.out _ rfl).2, hid_of (BEL.out _).drew⟩
          case measure => simp [intOf]; omega))
    · obtain rfl : k = 64 := by omega
      go_wp2_with (go_at_call 34; ((with_reducible refine (rof_any g1 k1 (upTo_max a b 64) wr q1 q2 HX.out).mono ?_); (rintro e w5 ⟨x, k, c, rfl, h5, h6⟩; rw [FIN.out] at h5; have H5 := hid_of h5; have HB5 := hid_of (bel_step HB.out h6 (Nat.le_refl _)); clear h5 h6)))
      go_ret
      exact ⟨_, _, _, rfl, H5.out, HB5.out⟩
end Go.Proofs.Ytofgmimdmgaljaa
