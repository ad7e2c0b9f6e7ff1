/- The reference's Sorted, Close and Entails. Bounds on sizes alone. -/
import Derived.Test.YtjponegeidiheaaClsRch
import Derived.Test.YtjponegeidiheaaClsOp
import Derived.Test.YtjponegeidiheaaClsEnt
namespace Go.Proofs.Ytjponegeidiheaa
open Go.RowKit

theorem srt_next {U l : List Str} {k : Nat} {x : Str} (h : U[k]? = some x) : meetS (U.take (k + 1)) l = meetS (U.take k) l ++ (if x ∈ l then [x] else []) := by
  unfold meetS
  rw [take_snoc_get h, List.filter_append]
  by_cases e : x ∈ l <;> simp [e]

set_option maxRecDepth 100000 in
set_option maxHeartbeats 1600000 in
theorem rsrt_any (uo : Option Addr) (un uc : Nat) (U : List Str) (lo : Option Addr) (ln lc : Nat) (l : List Str) (w : World) (hU : Rd w (.slice uo un uc) (ss U)) (hL : Rd w (.slice lo ln lc) (ss l)) (hun : un ≤ 1000000) :
    Calls Try.prog 51 #[.slice uo un uc, .slice lo ln lc] w fun e w' => ∃ ao n cap, e = .returned (.slice ao n cap) ∧ n = (meetS U l).length ∧ Ow 9 w.heap.size w w' (.slice ao n cap) (ss (meetS U l)) := by
  obtain ⟨hn, h1, h2, h3⟩ := rds_open hU
  have HN := hid_of hn
  have HCE : Hid (∀ k wr, k < un → Below w.heap.size w wr → ∃ g o bx x, uo = some ⟨g, o, none⟩ ∧ U[k]? = some x ∧ bx = ba x ∧ wr.cell? ⟨g, o + k, none⟩ = some (.string bx) ∧
      Hid (Calls Try.prog 26 #[.slice lo ln lc, .string bx] wr fun e w' => e = .returned (.bool (decide (x ∈ l))) ∧ wr = w')) := hid_of (fun k wr hk hb => by
    obtain ⟨x, hx⟩ : ∃ x, U[k]? = some x := ⟨_, List.getElem?_eq_getElem (by omega)⟩
    obtain ⟨_, _, _, q3⟩ := rds_open (hU.at hb)
    rcases q3 with q3 | ⟨g, o, e2, _, q2⟩
    · rw [q3] at hx; simp at hx
    · exact ⟨g, o, _, x, e2, hx, rfl, q2 k x hx, hid_of (rhas_any lo ln lc l x wr (hL.at hb))⟩)
  clear hn h3 hU hL
  go_enter Try.func51, Try.ntmps51
  go_wp2
  go_loopw [5, 6] (fun ov iv wr => ∃ (k : Nat) (oo : Option Addr) (n oc : Nat), ov = .slice oo n oc ∧ n ≤ k ∧ k ≤ un ∧ iv = .int .i64 k ∧ Hid ((ss (meetS (U.take k) l)).length = n) ∧ Hid (Ow 9 w.heap.size w wr (.slice oo n oc) (ss (meetS (U.take k) l)))) (fun _ iv _ => un - (intOf iv).toNat)
  case atStart => exact ⟨0, _, 0, 0, rfl, Nat.le_refl _, Nat.zero_le _, rfl, hid_of rfl, hid_of (ow_empty 9 w)⟩
  case round =>
    obtain ⟨k, oo, n, oc, rfl, hnk, hk, rfl, hl, how⟩ := hrel
    by_cases hlt : k < un
    · have hd : decide (k < un) = true := by simp; omega
      obtain ⟨g, o, bx, x, rfl, e1, e2, c1, HH⟩ := HCE.out k wr hlt how.out.bel
      have E1 := hid_of e1
      have E2 := hid_of e2
      obtain ⟨b, hb⟩ : ∃ b, b = decide (x ∈ l) := ⟨_, rfl⟩
      rw [← hb] at HH
      have HB := hid_of hb
      clear e1 e2 hb
      cases b
      · have HE : Hid (meetS (U.take (k + 1)) l = meetS (U.take k) l) := hid_of (by rw [srt_next E1.out, if_neg (of_decide_eq_false HB.out.symm), List.append_nil])
        go_wp2_with (go_at_call 26; ((with_reducible refine (HH.out).mono ?_); (rintro ee w' ⟨rfl, rfl⟩)))
        go_roundw
        case rel => exact ⟨k + 1, oo, n, oc, rfl, by omega, by omega, by go_num, hid_of (by rw [HE.out]; exact hl.out), hid_of (by rw [HE.out]; exact how.out)⟩
        case measure => simp [intOf]; omega
      · have HE : Hid (ss (meetS (U.take (k + 1)) l) = ss (meetS (U.take k) l) ++ [.string bx]) := hid_of (by rw [srt_next E1.out, if_pos (of_decide_eq_true HB.out.symm), E2.out]; simp [ss])
        go_wp2_with (first
          | (go_at_call 26; ((with_reducible refine (HH.out).mono ?_); (rintro ee w' ⟨rfl, rfl⟩)))
          | (at_builtin; (refine wpList_app strsE rfl (.tmp 20) (.tmp 25) rfl (v := .slice oo n oc) (l := ss (meetS (U.take k) l)) rfl (how.out.alloc _) (vx := .slice (some ⟨wr.heap.size, 0, none⟩) 1 1) (m := [.string bx]) rfl (rd_new rfl rfl (by simp)) (by intro u hu; rw [List.mem_singleton.1 hu]; rfl) (by rw [hl.out]; simp only [List.length_singleton]; omega) (by rw [hl.out]; simp only [List.length_singleton]; omega) ?_); intro ao2 n2 cap2 w4 e1 h5; have HN2 : Hid (n2 = n + 1) := hid_of (by rw [hl.out] at e1; simpa using e1); have HO2 := hid_of h5; clear e1 h5))
        go_roundw
        case rel => exact ⟨k + 1, ao2, n2, cap2, rfl, by have := HN2.out; omega, by omega, by go_num, hid_of (by rw [HE.out, List.length_append, hl.out, HN2.out]; rfl), hid_of (by rw [HE.out]; exact HO2.out)⟩
        case measure => simp [intOf]; omega
    · have hd : decide (k < un) = false := by simp; omega
      have HF : Hid (n = (meetS U l).length ∧ Ow 9 w.heap.size w wr (.slice oo n oc) (ss (meetS U l))) := hid_of (by
        have h1 := how.out
        have h2 := hl.out
        rw [List.take_of_length_le (by have := HN.out; omega)] at h1 h2
        exact ⟨by rw [← h2]; simp [ss], h1⟩)
      go_wp2
      go_ret
      exact ⟨oo, n, oc, rfl, HF.out⟩

section
variable (uo : Option Addr) (un uc : Nat) (U : List Str) (ro : Option Addr) (rn rc : Nat) (rs : List Gr) (so : Option Addr) (sn sc : Nat) (s : List Str) (x : Str) (w : World)
set_option maxRecDepth 100000 in
set_option maxHeartbeats 1600000 in
theorem rclose_any (hU : Rd w (.slice uo un uc) (ss U)) (hun : un ≤ 1000000) (hR : RuR w (.slice ro rn rc) rs) (hrn : rn ≤ 1000000) (hS : Rd w (.slice so sn sc) (ss s)) (hsn : sn ≤ 1000000) :
    Calls Try.prog 23 #[.slice uo un uc, .slice ro rn rc, .slice so sn sc] w fun e w' => ∃ ao n cap, e = .returned (.slice ao n cap) ∧ n = (clF U rs s).length ∧ Ow 9 w.heap.size w w' (.slice ao n cap) (ss (clF U rs s)) := by
  have HC := hid_of (rchn_any ro rn rc rs so sn sc s w hR hS hrn hsn)
  have HS : Hid (∀ w1 l is oo n oc vo m vc, TR w l is oo n oc vo m vc w1 → (∀ x, x ∈ l ↔ DerS rs (fun x => x ∈ s) x) → Calls Try.prog 51 #[.slice uo un uc, .slice oo n oc] w1 fun e w' => ∃ ao n cap, e = .returned (.slice ao n cap) ∧ Hid (n = (clF U rs s).length ∧ Ow 9 w.heap.size w w' (.slice ao n cap) (ss (clF U rs s)))) := hid_of (fun w1 l is oo n oc vo m vc ht hd => (rsrt_any uo un uc U oo n oc l w1 (hU.at ht.bel) ht.rd hun).mono (by
    rintro e w' ⟨ao, k, cap, rfl, h1, h2⟩
    have e : meetS U l = clF U rs s := List.filter_congr fun y _ => by
      by_cases hy : y ∈ l
      · have := (hd y).1 hy
        simp [hy, this]
      · have : ¬ DerS rs (fun x => x ∈ s) y := fun h => hy ((hd y).2 h)
        simp [hy, this]
    rw [e] at h1 h2
    exact ⟨ao, k, cap, rfl, hid_of ⟨h1, ow_later0 h2 ht.bel⟩⟩))
  clear hU hR hS hun hrn hsn
  go_enter Try.func23, Try.ntmps23
  go_wp2_with (first
    | (go_at_call 50; ((with_reducible refine (HC.out).mono ?_); (rintro e w1 ⟨l, is, oo, n, oc, vo, m, vc, rfl, h1, h2⟩)); have HT := hid_of h1; have HD := hid_of h2; clear h1 h2)
    | (go_at_call 51; ((with_reducible refine (HS.out w1 l is oo n oc vo m vc HT.out HD.out).mono ?_); (rintro e w2 ⟨ao, k, cap, rfl, H2⟩))))
  go_ret
  exact ⟨ao, k, cap, rfl, H2.out⟩

set_option maxRecDepth 100000 in
set_option maxHeartbeats 1600000 in
theorem rent_any (hU : Rd w (.slice uo un uc) (ss U)) (hun : un ≤ 1000000) (hR : RuR w (.slice ro rn rc) rs) (hrn : rn ≤ 1000000) (hS : Rd w (.slice so sn sc) (ss s)) (hsn : sn ≤ 1000000) (b : Bool) (hb : b = decide (x ∈ clF U rs s)) :
    Calls Try.prog 29 #[.slice uo un uc, .slice ro rn rc, .agg #[.slice so sn sc, .string (ba x)]] w fun e w' => e = .returned (.bool b) ∧ Below w.heap.size w w' := by
  obtain ⟨bx, hbx⟩ : ∃ bx, bx = ba x := ⟨_, rfl⟩
  have e0 := heap_alloc_new w (.cells #[.slice so sn sc, .string (ba x)] 41)
  have B : Below w.heap.size w (w.alloc (.cells #[.slice so sn sc, .string (ba x)] 41)).drew := (bel_alloc w (.cells #[.slice so sn sc, .string (ba x)] 41)).drew
  have K0 : Hid ((w.alloc (.cells #[.slice so sn sc, .string bx] 41)).drew.cell? ⟨w.heap.size, 0, none⟩ = some (.slice so sn sc) ∧ (w.alloc (.cells #[.slice so sn sc, .string bx] 41)).drew.cell? ⟨w.heap.size, 1, none⟩ = some (.string bx)) := hid_of (by
    rw [hbx]
    exact ⟨blk_cell (cs := [.slice so sn sc, .string (ba x)]) e0 (j := 0) rfl, blk_cell (cs := [.slice so sn sc, .string (ba x)]) e0 (j := 1) rfl⟩)
  have HC : Hid (Calls Try.prog 23 #[.slice uo un uc, .slice ro rn rc, .slice so sn sc] (w.alloc (.cells #[.slice so sn sc, .string bx] 41)).drew fun e w1 => ∃ ao n cap, e = .returned (.slice ao n cap) ∧ (w1.cell? ⟨w.heap.size, 0, none⟩ = some (.slice so sn sc) ∧ w1.cell? ⟨w.heap.size, 1, none⟩ = some (.string bx)) ∧ Below w.heap.size w w1 ∧
      Hid (Calls Try.prog 26 #[.slice ao n cap, .string bx] w1 fun e w' => e = .returned (.bool b) ∧ w1 = w')) := hid_of (by
    rw [hbx]
    refine (rclose_any uo un uc U ro rn rc rs so sn sc s _ (hU.at B) hun (hR.at B) hrn (hS.at B) hsn).mono ?_
    rintro e w1 ⟨ao, n, cap, rfl, h1, h2⟩
    have e1 := (h2.bel.block _ (by show w.heap.size < (w.alloc (.cells #[.slice so sn sc, .string (ba x)] 41)).heap.size; simp)).trans e0
    refine ⟨ao, n, cap, rfl, ⟨blk_cell (cs := [.slice so sn sc, .string (ba x)]) e1 (j := 0) rfl, blk_cell (cs := [.slice so sn sc, .string (ba x)]) e1 (j := 1) rfl⟩, B.trans (h2.bel.mono B.size), hid_of ?_⟩
    rw [hb]
    have h3 := h2.own
    have h4 : (ss (clF U rs s)).length = n := by rw [h1]; simp [ss]
    rw [h4] at h3
    exact rhas_any ao n cap (clF U rs s) x w1 (rd_of_own1 h3 h4))
  rw [← hbx]
  clear hU hR hS hun hrn hsn hb hbx e0 B
  go_enter Try.func29, Try.ntmps29
  go_wp2
  go_region_held_law (fun W => W.cell? ⟨w.heap.size, 0, none⟩ = some (.slice so sn sc) ∧ W.cell? ⟨w.heap.size, 1, none⟩ = some (.string bx)) (first | exact K0.out | exact K1.out) (first
    | (go_at_call 23; ((with_reducible refine (HC.out).mono ?_); (rintro ee w1 ⟨ao, n, cap, rfl, q1, q2, q3⟩; have K1 := hid_of q1; have B1 := hid_of q2; have H1 := q3; clear q1 q2 q3)))
    | (go_at_call 26; ((with_reducible refine (H1.out).mono ?_); (rintro ee w2 ⟨rfl, rfl⟩))))
  all_goals go_wp2
  go_ret
  exact ⟨rfl, B1.out⟩
end
end Go.Proofs.Ytjponegeidiheaa
