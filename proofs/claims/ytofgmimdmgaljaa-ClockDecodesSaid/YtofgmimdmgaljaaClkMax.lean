/- combine with the closure of Merge; Merge of package clock. -/
import Derived.Test.YtofgmimdmgaljaaClkMrg
namespace Go.Proofs.Ytofgmimdmgaljaa
open Go.RowKit

set_option maxRecDepth 100000 in
set_option maxHeartbeats 1600000 in
theorem comb_max (ao bo : Option Addr) (n cap m cbp : Nat) (a b : List Tk) (w : World) (ra : TRd w (.slice ao n cap) a) (rb : TRd w (.slice bo m cbp) b) (va : VV a) (vb : VV b) :
    Calls Try.prog 35 #[.slice ao n cap, .slice bo m cbp, .func (.func 36) #[] #[]] w fun e w' => ∃ x k c, e = .returned (.slice x k c) ∧ OT w.heap.size w w' (.slice x k c) (comb gMax a b) := by
  have HS : Hid (CSt gMax a b w w (.slice ao n cap) (.slice bo m cbp) (.slice none 0 0) a b []) := hid_of ⟨ra, rb, ot_nil w, cinv_start _ va vb⟩
  have VA : Hid (∀ w', Below w.heap.size w w' → Calls Try.prog 16 #[.slice ao n cap] w' fun e w'' => e = .returned (.bool true) ∧ Below w'.heap.size w' w'') := hid_of (fun w' hb => by rw [← (okV_iff a).2 va]; exact valid_any ao n cap a w' (ra.at hb))
  have VB : Hid (∀ w', Below w.heap.size w w' → Calls Try.prog 16 #[.slice bo m cbp] w' fun e w'' => e = .returned (.bool true) ∧ Below w'.heap.size w' w'') := hid_of (fun w' hb => by rw [← (okV_iff b).2 vb]; exact valid_any bo m cbp b w' (rb.at hb))
  clear ra rb va vb
  go_enter Try.func35, Try.ntmps35
  go_wp2_with (go_at_call 16; (first
      | ((with_reducible refine (VA.out w (Below.refl _ _)).mono ?_); (rintro e w1 ⟨rfl, h1⟩; have HB1 := hid_of h1; clear h1))
      | ((with_reducible refine (VB.out w1 HB1.out).mono ?_); (rintro e w2 ⟨rfl, h2⟩; have HB2 := hid_of (bel_step HB1.out h2 (Nat.le_refl _)); clear h2))))
  go_loopw [0, 1, 7] (fun av bv lv wr => ∃ (ao bo lo : Option Addr) (n c m d k e : Nat) (a' b' list : List Tk), av = .slice ao n c ∧ bv = .slice bo m d ∧ lv = .slice lo k e ∧ n ≤ c ∧ m ≤ d ∧ c ≤ 9223372036854775807 ∧ d ≤ 9223372036854775807 ∧ Hid (CSt gMax a b w wr av bv lv a' b' list)) (fun av bv _ _ => slen av + slen bv)
  case atStart => exact ⟨_, _, _, _, _, _, _, _, _, a, b, [], rfl, rfl, rfl, HS.out.ra.cut.2.1, HS.out.rb.cut.2.1, HS.out.ra.cut.2.2, HS.out.rb.cut.2.2, hid_of ⟨HS.out.ra, HS.out.rb, ⟨Nat.le_refl _, HB2.out, World.ownsRow_nil _ _ _ _⟩, HS.out.inv⟩⟩
  case round =>
    obtain ⟨ao, bo, lo, n, c, m, d, k, e, a', b', list, rfl, rfl, rfl, hnc, hmd, hc, hd, hs⟩ := hrel
    have HC := hid_of hs.out
    clear hs
    by_cases h0 : n = 0 ∧ m = 0
    · obtain ⟨rfl, rfl⟩ := h0
      go_wp2
      go_ret
      have ea := nil_of HC.out.ra
      have eb := nil_of HC.out.rb
      have hi := HC.out.inv
      rw [ea, eb] at hi
      have ho := HC.out.own
      rw [cinv_end gd_max hi] at ho
      exact ⟨_, _, _, rfl, ho⟩
    · have hne : Hid (¬ (a' = [] ∧ b' = [])) := hid_of (fun ⟨ea, eb⟩ => by
        have h1 := HC.out.ra.cut.1
        have h2 := HC.out.rb.cut.1
        rw [ea] at h1
        rw [eb] at h2
        simp at h1 h2
        omega)
      have ST := hid_of (cinv_step gd_max HC.out.inv hne.out)
      have LN := hid_of (cinv_len HC.out.inv)
      obtain ⟨p, hp⟩ : ∃ p, p = firstP a' b' := ⟨_, rfl⟩
      obtain ⟨x, hx⟩ : ∃ x, x = cutX a' p := ⟨_, rfl⟩
      obtain ⟨y, hy⟩ : ∃ y, y = cutX b' p := ⟨_, rfl⟩
      obtain ⟨z, hz⟩ : ∃ z, z = gMax x y := ⟨_, rfl⟩
      have S2 := ST.out
      rw [← hp, ← hx, ← hy, ← hz] at S2
      have HP := hid_of hp
      have HX := hid_of hx
      have HY := hid_of hy
      have HZ := hid_of hz
      have ST2 := hid_of S2
      have FST : Hid (∀ w', Below w.heap.size w w' → Calls Try.prog 48 #[.slice ao n c, .slice bo m d] w' fun e w'' => e = .returned (.int .i64 p) ∧ w' = w'') := hid_of (fun w' hb => by rw [hp]; exact first_any ao bo n c m d a' b' w' (HC.out.ra.later hb (Nat.le_refl _)) (HC.out.rb.later hb (Nat.le_refl _)))
      have CUA : Hid (∀ w', Below w.heap.size w w' → Calls Try.prog 49 #[.slice ao n c, .int .i64 p] w' fun e w'' => ∃ a2 n2 c2, e = .returned (.tuple #[.int .i64 x, .slice a2 n2 c2]) ∧ (∀ w0, TRd w0 (.slice ao n c) a' → TRd w0 (.slice a2 n2 c2) (cutR a' p)) ∧ Below w'.heap.size w' w'') := hid_of (fun w' hb => by rw [hx]; exact cut_any ao n c a' p w' (HC.out.ra.later hb (Nat.le_refl _)))
      have CUB : Hid (∀ w', Below w.heap.size w w' → Calls Try.prog 49 #[.slice bo m d, .int .i64 p] w' fun e w'' => ∃ a2 n2 c2, e = .returned (.tuple #[.int .i64 y, .slice a2 n2 c2]) ∧ (∀ w0, TRd w0 (.slice bo m d) b' → TRd w0 (.slice a2 n2 c2) (cutR b' p)) ∧ Below w'.heap.size w' w'') := hid_of (fun w' hb => by rw [hy]; exact cut_any bo m d b' p w' (HC.out.rb.later hb (Nat.le_refl _)))
      have CLO : Hid (∀ w', Calls Try.prog 36 #[.int .i64 x, .int .i64 y] w' fun e w'' => e = .returned (.int .i64 z) ∧ w' = w'') := hid_of (fun w' => by rw [hz]; exact max_clo x y w')
      have HB0 := hid_of HC.out.own.bel
      clear hp hx hy hz S2 ST
      have hor : 0 < n ∨ 0 < m := by omega
      have LZ : Hid (CInv gMax a b (cutR a' p) (cutR b' p) (list ++ if 0 < z then [(p, z)] else [])) := hid_of ST2.out.2.2.2.2.1
      have LM : Hid ((cutR a' p).length + (cutR b' p).length < n + m) := hid_of (by rw [HC.out.ra.cut.1, HC.out.rb.cut.1]; exact ST2.out.2.2.2.2.2)
      clear h0
      have hsplit : (n = 0 ∧ 0 < m ∨ 0 < n) ∧ (0 < z ∨ ¬ 0 < z) := by omega
      obtain ⟨⟨rfl, hm0⟩ | hn0, hz0 | hz0⟩ := hsplit
      all_goals clear hor
      all_goals have b0 := hz0
      all_goals go_wp2_with (first
            | (go_at_call 48; ((with_reducible refine (FST.out wr HB0.out).mono ?_); (rintro e w' ⟨rfl, rfl⟩)))
            | (go_at_call 49; (first
                | ((with_reducible refine (CUA.out wr HB0.out).mono ?_); (rintro e w3 ⟨a2, n2, c2, rfl, h2, h3⟩; have HA2 := hid_of (h2 w HC.out.ra); have HB3 := hid_of (bel_step HB0.out h3 (Nat.le_refl _)); have HO3 := hid_of (HC.out.own.later h3); clear h2 h3))
                | ((with_reducible refine (CUB.out w3 HB3.out).mono ?_); (rintro e w4 ⟨a3, n3, c3, rfl, h2, h3⟩; have HA3 := hid_of (h2 w HC.out.rb); have HB4 := hid_of (bel_step HB3.out h3 (Nat.le_refl _)); have HO4 := hid_of (HO3.out.later h3); clear h2 h3))))
            | (go_at_call 36; ((with_reducible refine (CLO.out w4).mono ?_); (rintro e w' ⟨rfl, rfl⟩)))
            | (at_builtin; (refine wpList_tick rfl _ _ rfl (v := .slice lo k e) rfl HO4.out (p, z) rfl (by have := LN.out; omega) ?_); intro xo xn xc w5 hxn h5; have H5 := hid_of h5; clear h5 hxn))
      all_goals (
        go_roundw
        case rel =>
          first
          | exact ⟨_, _, _, _, _, _, _, _, _, cutR a' p, cutR b' p, list ++ [(p, z)], rfl, rfl, rfl, HA2.out.cut.2.1, HA3.out.cut.2.1, HA2.out.cut.2.2, HA3.out.cut.2.2, hid_of ⟨HA2.out, HA3.out, H5.out, by have := LZ.out; rw [if_pos hz0] at this; exact this⟩⟩
          | exact ⟨_, _, _, _, _, _, _, _, _, cutR a' p, cutR b' p, list, rfl, rfl, rfl, HA2.out.cut.2.1, HA3.out.cut.2.1, HA2.out.cut.2.2, HA3.out.cut.2.2, hid_of ⟨HA2.out, HA3.out, HO4.out, by have := LZ.out; rw [if_neg (by omega), List.append_nil] at this; exact this⟩⟩
        case measure => simp only [slen]; have := LM.out; have := HA2.out.cut.1; have := HA3.out.cut.1; simp; omega)

theorem comb_max_bad (ao bo : Option Addr) (n cap m cbp : Nat) (a b : List Tk) (w : World) (ra : TRd w (.slice ao n cap) a) (rb : TRd w (.slice bo m cbp) b) (hbad : ¬ (okV a = true ∧ okV b = true)) :
    Calls Try.prog 35 #[.slice ao n cap, .slice bo m cbp, .func (.func 36) #[] #[]] w fun e w' => e = .returned (.slice none 0 0) ∧ Below w.heap.size w w' := by
  have RA := hid_of ra
  have RB := hid_of rb
  by_cases h1 : okV a = true
  · have h2 : okV b = false := by
      cases h : okV b with
      | false => rfl
      | true => exact absurd ⟨h1, h⟩ hbad
    have VA : Hid (Calls Try.prog 16 #[.slice ao n cap] w fun e w'' => e = .returned (.bool true) ∧ Below w.heap.size w w'') := hid_of (by rw [← h1]; exact valid_any ao n cap a w ra)
    have VB : Hid (∀ w', Below w.heap.size w w' → Calls Try.prog 16 #[.slice bo m cbp] w' fun e w'' => e = .returned (.bool false) ∧ Below w'.heap.size w' w'') := hid_of (fun w' hb => by rw [← h2]; exact valid_any bo m cbp b w' (RB.out.at hb))
    clear ra rb hbad h1 h2
    go_enter Try.func35, Try.ntmps35
    go_wp2_with (go_at_call 16; (first
      | ((with_reducible refine VA.out.mono ?_); (rintro e w1 ⟨rfl, h1⟩; have HB1 := hid_of h1; clear h1))
      | ((with_reducible refine (VB.out w1 HB1.out).mono ?_); (rintro e w2 ⟨rfl, h2⟩; have HB2 := hid_of (bel_step HB1.out h2 (Nat.le_refl _)); clear h2))))
    go_ret
    exact ⟨rfl, HB2.out⟩
  · have h2 : okV a = false := by simpa using h1
    have VA : Hid (Calls Try.prog 16 #[.slice ao n cap] w fun e w'' => e = .returned (.bool false) ∧ Below w.heap.size w w'') := hid_of (by rw [← h2]; exact valid_any ao n cap a w ra)
    clear ra rb hbad h1 h2
    go_enter Try.func35, Try.ntmps35
    go_wp2_with (go_at_call 16; ((with_reducible refine VA.out.mono ?_); (rintro e w1 ⟨rfl, h1⟩; have HB1 := hid_of h1; clear h1)))
    go_ret
    exact ⟨rfl, HB1.out⟩
theorem op_max_any (ao bo : Option Addr) (n cap m cbp : Nat) (a b : List Tk) (w : World) (ra : TRd w (.slice ao n cap) a) (rb : TRd w (.slice bo m cbp) b) :
    Calls Try.prog 22 #[.slice ao n cap, .slice bo m cbp] w fun e w' => ∃ x k c, e = .returned (.slice x k c) ∧ TRd w' (.slice x k c) (vop gMax a b) ∧ Below w.heap.size w w' := by
  by_cases hv : okV a = true ∧ okV b = true
  · have hc : vop gMax a b = comb gMax a b := if_pos hv
    rw [hc]
    have C := hid_of (comb_max ao bo n cap m cbp a b w ra rb ((okV_iff a).1 hv.1) ((okV_iff b).1 hv.2))
    clear ra rb hv hc
    go_enter Try.func22, Try.ntmps22
    go_wp2_with (go_at_call 35; refine C.out.mono ?_; rintro e w1 ⟨x, k, c, rfl, h1⟩; have H1 := hid_of h1; clear h1)
    go_ret
    exact ⟨_, _, _, rfl, H1.out.rd, H1.out.bel⟩
  · have hc : vop gMax a b = [] := if_neg hv
    rw [hc]
    have C := hid_of (comb_max_bad ao bo n cap m cbp a b w ra rb hv)
    clear ra rb hv hc
    go_enter Try.func22, Try.ntmps22
    go_wp2_with (go_at_call 35; refine C.out.mono ?_; rintro e w1 ⟨rfl, h1⟩; have H1 := hid_of h1; clear h1)
    go_ret
    exact ⟨_, _, _, rfl, trd_nil _, H1.out⟩
end Go.Proofs.Ytofgmimdmgaljaa
