/- The reference's Permutation and Shuffle. Bounds on sizes alone. -/
import Derived.Test.YtpmajdgabpmooaaRanLaws2
namespace Go.Proofs.Ytpmajdgabpmooaa
open Go.RowKit

theorem boolsE : Elem Try.prog 61 4 (.bool false) 1 := ⟨Try.underlying61, by kernel_rfl, rfl⟩

set_option maxRecDepth 100000 in
set_option maxHeartbeats 1600000 in
theorem refPerm_any (ao : Option Addr) (n cap : Nat) (l : List Int) (w : World) (R : Rd w (.slice ao n cap) (is l)) (hn9 : n ≤ 10000) :
    Calls Try.prog 23 #[.slice ao n cap] w fun e w' => e = .returned (.bool (permB l)) ∧ Below w.heap.size w w' := by
  obtain ⟨i0, hi, hz0, hz1, hz2⟩ := info_parts boolsE.info
  obtain ⟨hn, h1, h2, h3⟩ := rd_open R
  have HN := hid_of hn
  clear R hn
  rcases h3 with h3 | ⟨g, o, rfl, hg, hc⟩
  · have H3 := hid_of h3
    clear h3
    go_enter Try.func23, Try.ntmps23
    go_wp2_with (first | (at_make; refine wpList_make_full _ rfl _ _ 61 rfl w.heap.size 4 i0 (.bool false) 1 Try.underlying61 hi hz0 hz1 .i64 .i64 n n n rfl rfl rfl rfl ?b2 ?b3 ?b4 ?_))
    case b2 => rw [hz2]; omega
    case b3 => unfold maxLen; omega
    case b4 => exact Nat.le_refl _
    intro w1 hown hgrow
    have HB : Hid (Below w.heap.size w w1) := hid_of ((Below.refl _ _).grown hgrow (Nat.le_refl _) (fun k h => by cases h))
    clear hown hgrow
    go_wp2
    go_loopw [4] (fun iv wr => ∃ k : Nat, k ≤ n ∧ iv = .int .i64 k ∧ w1 = wr) (fun iv _ => n - (intOf iv).toNat)
    case atStart => exact ⟨0, Nat.zero_le _, rfl, rfl⟩
    case round =>
      obtain ⟨k, hk, rfl, rfl⟩ := hrel
      have hge : ¬ k < n := by have := H3.out; omega
      go_wp2
      go_ret
      refine ⟨ret_bool (permB_yes ?_).symm, HB.out⟩
      intro i hi
      have := H3.out; have := HN.out; omega
  · have HC := hid_of hc
    clear hc
    go_enter Try.func23, Try.ntmps23
    go_wp2_with (first | (at_make; refine wpList_make_full _ rfl _ _ 61 rfl w.heap.size 4 i0 (.bool false) 1 Try.underlying61 hi hz0 hz1 .i64 .i64 n n n rfl rfl rfl rfl ?b2 ?b3 ?b4 ?_))
    case b2 => rw [hz2]; omega
    case b3 => unfold maxLen; omega
    case b4 => exact Nat.le_refl _
    intro w1 hown hgrow
    have HH : Hid (w1.heap[w.heap.size]? = some (.cells (seenL l 0 n).toArray 4 (0, 0))) := hid_of (by
      rw [made_row hown, seenL_zero])
    have HB : Hid (Below w.heap.size w w1) := hid_of ((Below.refl _ _).grown hgrow (Nat.le_refl _) (fun k h => by cases h))
    clear hown hgrow
    go_wp2
    go_loopw [4] (fun iv wr => ∃ k : Nat, k ≤ n ∧ iv = .int .i64 k ∧ Hid (okTo l k) ∧ Hid (wr.heap[w.heap.size]? = some (.cells (seenL l k n).toArray 4 (0, 0))) ∧ Hid (Below w.heap.size w wr)) (fun iv _ => n - (intOf iv).toNat)
    case atStart => exact ⟨0, Nat.zero_le _, rfl, hid_of (fun i hi => by omega), HH, HB⟩
    case round =>
      obtain ⟨k, hk, rfl, hok, hrow, hb⟩ := hrel
      by_cases hlt : k < n
      · have c1 := (hb.out.cell (p := ⟨g, o + k, none⟩) hg).trans (HC.out k hlt)
        have hkl : Hid (k < l.length) := hid_of (by have := HN.out; omega)
        obtain ⟨x, hx⟩ : ∃ x, x = l.getD k 0 := ⟨_, rfl⟩
        rw [← hx] at c1
        have HX := hid_of hx
        clear hx
        by_cases x0 : x < 0
        · have hF : Hid (permB l = false) := hid_of (permB_no (not_ok hkl.out (.inl (by rw [← HX.out]; exact x0))))
          go_wp2
          go_ret
          exact ⟨ret_bool hF.out.symm, hb.out⟩
        · by_cases x1 : (n : Int) ≤ x
          · have hF : Hid (permB l = false) := hid_of (permB_no (not_ok hkl.out (.inr (.inl (by rw [← HX.out, ← HN.out]; exact x1)))))
            have x2 : decide (x < 0) = false := by simp; omega
            go_wp2
            go_ret
            exact ⟨ret_bool hF.out.symm, hb.out⟩
          · obtain ⟨m, rfl⟩ := Int.eq_ofNat_of_zero_le (show 0 ≤ x by omega)
            have x2 : decide ((m : Int) < 0) = false := by simp
            have x3 : decide ((n : Int) ≤ (m : Int)) = false := by simp; omega
            have hm : (m : Int) < (n : Int) := by omega
            have hm0 : (0 : Int) ≤ (m : Int) := by omega
            have c2 : wr.cell? ⟨w.heap.size, m, none⟩ = some (.bool (seenAt l k (m : Int))) := by
              rw [cell_of_row _ _ _ _ _ _ hrow.out]
              simp [seenL, show m < n by omega]
            have f2 : wr.frozen? ⟨w.heap.size, m, none⟩ = false := by simp [World.frozen?, hrow.out]
            by_cases hs : seenAt l k (m : Int) = true
            · rw [hs] at c2
              have hF : Hid (permB l = false) := hid_of (permB_no (not_ok hkl.out (.inr (.inr (by rw [← HX.out]; exact hs)))))
              clear hs
              go_wp2
              go_ret
              exact ⟨ret_bool hF.out.symm, hb.out⟩
            · have hs2 : seenAt l k (m : Int) = false := by simpa using hs
              rw [hs2] at c2
              have HS := hid_of hs2
              clear hs hs2
              go_wp2
              go_roundw
              case rel =>
                refine ⟨k + 1, by omega, by go_num, hid_of (okTo_succ hkl.out hok.out (by rw [← HX.out]; omega) (by rw [← HX.out, ← HN.out]; omega) (by rw [← HX.out]; exact HS.out)), hid_of ?_, hid_of (hb.out.setCell (Nat.le_refl _) _)⟩
                rw [← seenL_set hkl.out (by omega) HX.out.symm]
                exact blk_setCell hrow.out
              case measure => simp [intOf]; omega
      · obtain rfl : k = n := by omega
        go_wp2
        go_ret
        exact ⟨ret_bool (permB_yes (by rw [← HN.out]; exact hok.out)).symm, hb.out⟩

/-- A store into a row of the call's own. -/
theorem own_set {w : World} {B E n j : Nat} {cap : Nat} {g : Nat} {xs : List Value} (h : w.ownsRow B E 1 (.slice (some ⟨g, 0, none⟩) n cap) n xs) (hj : j < n) (u : Value) :
    (w.setCell ⟨g, j, none⟩ u).ownsRow B E 1 (.slice (some ⟨g, 0, none⟩) n cap) n (xs.set j u) := by
  obtain ⟨h1, h2⟩ := h
  refine ⟨by rw [List.length_set]; exact h1, ?_⟩
  rcases h2 with ⟨h2, _⟩ | ⟨g2, cap2, cur, hv, hb, hg, hnc, hcm, hsz, ht⟩
  · cases h2
  · simp only [Value.slice.injEq, Option.some.injEq, Addr.mk.injEq] at hv
    obtain ⟨⟨rfl, _⟩, _, rfl⟩ := hv
    have hg' : w.heap[g]? = some (.cells (cur.toList).toArray E (0, 0)) := by simpa using hg
    have h3 := blk_setCell (k := j) (u := u) hg'
    refine .inr ⟨g, cap, (cur.toList.set j u).toArray, rfl, hb, h3, hnc, hcm, by simpa using hsz, ?_⟩
    rw [List.take_set, ht]
theorem Ow.set {E B : Nat} {w0 w : World} {n cap g j : Nat} {xs : List Value} (h : Ow E B w0 w (.slice (some ⟨g, 0, none⟩) n cap) xs) (hn : n = xs.length) (hj : j < n) (u : Value) :
    Ow E B w0 (w.setCell ⟨g, j, none⟩ u) (.slice (some ⟨g, 0, none⟩) n cap) (xs.set j u) := by
  subst hn
  have hg := (h.own.lt g rfl).1
  refine ⟨h.1, h.bel.setCell hg _, ?_⟩
  rw [List.length_set]
  exact own_set h.own hj u
theorem Ow.addr {E B : Nat} {w0 w : World} {ao : Option Addr} {n cap : Nat} {xs : List Value} (h : Ow E B w0 w (.slice ao n cap) xs) (h0 : 0 < xs.length) : ∃ g, ao = some ⟨g, 0, none⟩ ∧ B ≤ g ∧ g < w.heap.size ∧ n = xs.length ∧ ∀ j, w.frozen? ⟨g, j, none⟩ = false := by
  rcases h.own.2 with ⟨h1, h2⟩ | ⟨g, c, cur, h1, hb, hg, hnc, hcm, _, ht⟩
  · omega
  · simp only [Value.slice.injEq] at h1
    exact ⟨g, h1.1, hb, lt_of_block hg, h1.2.1, fun j => by simp [World.frozen?, hg]⟩
theorem Ow.cell {E B : Nat} {w0 w : World} {n cap g j : Nat} {l : List Int} (h : Ow E B w0 w (.slice (some ⟨g, 0, none⟩) n cap) (is l)) (hl : l.length ≤ 140737488355328) (hj : j < l.length) : w.cell? ⟨g, j, none⟩ = some (.int .i64 (l.getD j 0)) := by
  have hr := h.rd (by rw [is_length]; exact hl)
  obtain ⟨hn, _, _, h3⟩ := rd_open hr
  rcases h3 with h3 | ⟨g2, o, e, _, hc⟩
  · omega
  · simp only [Option.some.injEq, Addr.mk.injEq] at e
    obtain ⟨rfl, rfl, _⟩ := e
    have := hc j (by omega)
    rwa [Nat.zero_add] at this

set_option maxRecDepth 100000 in
set_option maxHeartbeats 1600000 in
theorem refShuffle_any (s n : Nat) (w : World) (hs : s < 18446744073709551616) (hn : n ≤ 10000) :
    Calls Try.prog 25 #[.int .u64 s, .int .i64 n] w fun e w' => ∃ xo xc, e = .returned (.slice xo n xc) ∧ Ow 3 w.heap.size w w' (.slice xo n xc) (is (nI (shufN s n (n - 1)))) := by
  have HS := hid_of hs
  have HE : Hid (Ow 3 w.heap.size w (w.alloc (.cells #[] 3)) (.slice (some ⟨w.heap.size, 0, none⟩) 0 0) (is (nI (List.range 0)))) := hid_of (ow_empty _ w)
  clear hs
  go_enter Try.func25, Try.ntmps25
  go_wp2
  go_loopw [5, 6] (fun lv iv wr => ∃ (k : Nat) (xo : Option Addr) (xc : Nat), k ≤ n ∧ iv = .int .i64 k ∧ lv = .slice xo k xc ∧ Hid (Ow 3 w.heap.size w wr (.slice xo k xc) (is (nI (List.range k))))) (fun _ iv _ => n - (intOf iv).toNat)
  case atStart => exact ⟨0, _, _, Nat.zero_le _, rfl, rfl, HE⟩
  case round =>
    obtain ⟨k, xo, xc, hk, rfl, rfl, how⟩ := hrel
    by_cases hlt : k < n
    · have hd : decide ((k : Int) < (n : Int)) = true := by simp; omega
      have hd2 : decide (k < n) = true := by simp; omega
      have HLEN : Hid ((is (nI (List.range k))).length = k) := hid_of (by rw [is_length, nI_length]; simp)
      have R1 := hid_of (rd_new (w := wr) (l := is [(k : Int)]) (n := 1) (cs := #[.int .i64 (k : Int)]) (E := 3) (m := (0, 0)) rfl rfl (by simp [is]))
      go_wp2_with (at_builtin; ((refine wpList_app intsE rfl _ _ rfl (v := .slice xo k xc) rfl (how.out.alloc _) (vx := .slice (some ⟨wr.heap.size, 0, none⟩) 1 1) rfl R1.out (is_one _) (by rw [HLEN.out, is_length]; simp; omega) (by rw [HLEN.out, is_length]; simp; omega) ?_); intro xo3 n3 c3 w3 hn3 h3; obtain rfl : n3 = k + 1 := (by rw [hn3, HLEN.out, is_length]; rfl); have X3 : Hid (Ow 3 w.heap.size w w3 (.slice xo3 (k + 1) c3) (is (nI (List.range (k + 1))))) := hid_of (by rw [List.range_succ, show nI (List.range k ++ [k]) = nI (List.range k) ++ [(k : Int)] by simp [nI], is_append]; exact h3); clear h3 hn3))
      go_roundw
      case rel => exact ⟨k + 1, xo3, c3, by omega, by go_num, rfl, X3⟩
      case measure => simp [intOf]; omega
    · obtain rfl : k = n := by omega
      have hd2 : decide (k < k) = false := by simp
      by_cases hz : k = 0
      · have HZ := hid_of hz
        have HX := hid_of (show shufN s k (k - 1) = List.range k by rw [hz]; rfl)
        clear hz
        go_wp2
        go_loopw [8] (fun iv w2 => ∃ z : Int, iv = .int .i64 z ∧ Hid (z < 1) ∧ wr = w2) (fun _ _ => 0)
        case atStart => exact ⟨_, rfl, hid_of (by have := HZ.out; omega), rfl⟩
        case round =>
          obtain ⟨z, rfl, hz1, rfl⟩ := hrel
          have hz2 : decide ((1 : Int) ≤ z) = false := by have := hz1.out; simp; omega
          go_wp2
          go_ret
          exact ⟨xo, xc, rfl, by rw [HX.out]; exact how.out⟩
      · obtain ⟨g, rfl, hBg, hgl, hke, hfz⟩ := how.out.addr (by rw [is_length, nI_length]; simp; omega)
        have HK1 : Hid (1 ≤ k) := hid_of (by omega)
        clear hfz hBg hgl hz hlt hke
        go_wp2
        have hk1 := HK1.out
        go_loopw [7, 8] (fun uv iv wr => ∃ (q : Nat) (z : Int), iv = .int .i64 z ∧ uv = .int .u64 (q : Int) ∧ Hid (z = (k : Int) - 1 - q) ∧ q ≤ k - 1 ∧ Hid (Ow 3 w.heap.size w wr (.slice (some ⟨g, 0, none⟩) k xc) (is (nI (shufN s k q))))) (fun _ iv _ => (intOf iv).toNat)
        case atStart => exact ⟨0, _, rfl, rfl, hid_of (by omega), Nat.zero_le _, how⟩
        case round =>
          obtain ⟨q, z, rfl, rfl, hz, hq, how2⟩ := hrel
          by_cases h1 : 1 ≤ z
          · obtain ⟨m, rfl⟩ := Int.eq_ofNat_of_zero_le (show 0 ≤ z by omega)
            have hd1 : decide ((1 : Int) ≤ (m : Int)) = true := by simp; omega
            have hm : Hid (m = k - 1 - q ∧ q + 1 < k) := hid_of (by have := hz.out; omega)
            have hmn : (m : Int) < k := by have := hm.out; omega
            have hm0 : (0 : Int) ≤ (m : Int) := by omega
            have hmb : m ≤ 10000 := by omega
            obtain ⟨r, hrr⟩ : ∃ r, r = highN (mixN (atN s (q + 1))) (m + 1) := ⟨_, rfl⟩
            have hr := highN_lt (x := mixN (atN s (q + 1))) (n := m + 1) (mixN_lt _) (by omega)
            rw [← hrr] at hr
            have HAT : Hid (∀ w, Calls Try.prog 15 #[.int .u64 (s : Int), .int .u64 ((q : Int) + 1)] w fun e w' => e = .returned (.int .u64 ((mixN (atN s (q + 1)) : Nat) : Int)) ∧ w = w') := hid_of (fun w => at_any _ s (q + 1) w (by omega) (by omega) HS.out)
            have HHI : Hid (∀ w, Calls Try.prog 21 #[.int .u64 ((mixN (atN s (q + 1)) : Nat) : Int), .int .u64 ((m : Int) + 1)] w fun e w' => e = .returned (.int .u64 (r : Int)) ∧ w = w') := hid_of (fun w => by
              have := rhigh_any (mixN (atN s (q + 1))) (m + 1) w (mixN_lt _) (by omega)
              rw [← hrr] at this
              exact this)
            obtain ⟨v, hv⟩ : ∃ v, v = mixN (atN s (q + 1)) := ⟨_, rfl⟩
            rw [← hv] at HAT HHI
            have HRR := hid_of hrr
            clear hrr hv
            have hw1 : IntKind.u64.wrap (m : Int) = m := wrapu (by omega)
            have hw2 : IntKind.i64.wrap (r : Int) = r := IntWalk.i64_in _ (by omega)
            go_wp2_with (first
              | (go_at_call 15; ((with_reducible refine (HAT.out wr).mono ?_); (rintro e w' ⟨rfl, rfl⟩)))
              | (go_at_call 21; ((with_reducible refine (HHI.out wr).mono ?_); (rintro e w' ⟨rfl, rfl⟩))))
            have hlen : (nI (shufN s k q)).length = k := by rw [nI_length, shufN_length]
            have c1 := how2.out.cell (j := m) (by omega) (by omega)
            have c2 := how2.out.cell (j := r) (by omega) (by omega)
            obtain ⟨_, e0, hq1, hq2, hq3, f1⟩ := how2.out.addr (by rw [is_length]; omega)
            simp only [Option.some.injEq, Addr.mk.injEq] at e0
            obtain ⟨rfl, hq4⟩ := e0
            clear hq1 hq2 hq3 hq4
            rw [nI_at] at c1 c2
            obtain ⟨x, hx⟩ : ∃ x, x = (shufN s k q).getD m 0 := ⟨_, rfl⟩
            obtain ⟨y, hy⟩ : ∃ y, y = (shufN s k q).getD r 0 := ⟨_, rfl⟩
            rw [← hx] at c1
            rw [← hy] at c2
            have HLEN := hid_of hlen
            have HX := hid_of hx
            have HY := hid_of hy
            clear hx hy hlen
            have hrn : (r : Int) < k := by omega
            have hr0 : (0 : Int) ≤ (r : Int) := by omega
            obtain ⟨v3, c3⟩ := cell?_setCell_some (w := wr) (p := ⟨g, m, none⟩) (x := .int .i64 y) (q := ⟨g, r, none⟩) (v := .int .i64 y) (by go_simp)
            have hfin : Hid (Ow 3 w.heap.size w ((wr.setCell ⟨g, m, none⟩ (.int .i64 y)).setCell ⟨g, r, none⟩ (.int .i64 x)) (.slice (some ⟨g, 0, none⟩) k xc) (is (nI (shufN s k (q + 1))))) := hid_of (by
              have e : shufN s k (q + 1) = swapN (shufN s k q) m r := by
                rw [shufN, HRR.out, (show k - 1 - q = m by have := hm.out; omega)]
              rw [e, nI_swap, ← HX.out, ← HY.out, is_set, is_set]
              have a := how2.out.set (by rw [is_length]; exact HLEN.out.symm) (show m < k by omega) (.int .i64 y)
              exact a.set (by rw [List.length_set, is_length]; exact HLEN.out.symm) (show r < k by omega) (.int .i64 x))
            go_region
            go_wp2
            go_roundw
            case rel => exact ⟨q + 1, _, rfl, by go_num, hid_of (by have := hz.out; omega), by have := hm.out; omega, hid_of hfin.out.drew⟩
            case measure => simp [intOf]; omega
          · have hd1 : decide ((1 : Int) ≤ z) = false := by simp; omega
            go_wp2
            go_ret
            have hq2 : q = k - 1 := by have := hz.out; omega
            subst hq2
            exact ⟨_, xc, rfl, how2.out⟩
end Go.Proofs.Ytpmajdgabpmooaa
