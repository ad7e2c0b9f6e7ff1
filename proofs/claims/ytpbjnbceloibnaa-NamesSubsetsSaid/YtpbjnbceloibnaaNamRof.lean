/- The reference's Of, by insertion. Bounds on sizes alone. -/
import Derived.Test.YtpbjnbceloibnaaNamCat
namespace Go.Proofs.Ytpbjnbceloibnaa
open Go.RowKit

/-- A store into a row of the call's own. -/
theorem own_set {w : World} {B E n j : Nat} {cap : Nat} {g : Nat} {xs : List Value} (h : w.ownsRow B E 1 (.slice (some ⟨g, 0, none⟩) n cap) n xs) (_ : j < n) (u : Value) :
    (w.setCell ⟨g, j, none⟩ u).ownsRow B E 1 (.slice (some ⟨g, 0, none⟩) n cap) n (xs.set j u) := by
  obtain ⟨h1, h2⟩ := h
  refine ⟨by rw [List.length_set]; exact h1, ?_⟩
  rcases h2 with ⟨h2, _⟩ | ⟨g2, cap2, cur, hv, hb, hg, hnc, hcm, hsz, ht⟩
  · cases h2
  · simp only [Value.slice.injEq, Option.some.injEq, Addr.mk.injEq] at hv
    obtain ⟨⟨rfl, _⟩, _, rfl⟩ := hv
    have hg' : w.heap[g]? = some (.cells (cur.toList).toArray E (0, 0)) := by simpa using hg
    have h3 := blk_setCell (k := j) (u := u) hg'
    refine .inr ⟨g, cap, (cur.toList.set j u).toArray, rfl, hb, h3, hnc, hcm, by simpa using hsz, ?_⟩
    rw [List.take_set, ht]
theorem Ow.set {E B : Nat} {w0 w : World} {n cap g j : Nat} {xs : List Value} (h : Ow E B w0 w (.slice (some ⟨g, 0, none⟩) n cap) xs) (hn : n = xs.length) (hj : j < n) (u : Value) :
    Ow E B w0 (w.setCell ⟨g, j, none⟩ u) (.slice (some ⟨g, 0, none⟩) n cap) (xs.set j u) := by
  subst hn
  have hg := (h.own.lt g rfl).1
  refine ⟨h.1, h.bel.setCell hg _, ?_⟩
  rw [List.length_set]
  exact own_set h.own hj u
theorem Ow.addr {E B : Nat} {w0 w : World} {ao : Option Addr} {n cap : Nat} {xs : List Value} (h : Ow E B w0 w (.slice ao n cap) xs) (h0 : 0 < xs.length) : ∃ g, ao = some ⟨g, 0, none⟩ ∧ B ≤ g ∧ g < w.heap.size ∧ n = xs.length ∧ ∀ j, w.frozen? ⟨g, j, none⟩ = false := by
  rcases h.own.2 with ⟨h1, h2⟩ | ⟨g, c, cur, h1, hb, hg, hnc, hcm, _, ht⟩
  · omega
  · simp only [Value.slice.injEq] at h1
    exact ⟨g, h1.1, hb, lt_of_block hg, h1.2.1, fun j => by simp [World.frozen?, hg]⟩
theorem ss_set (l : List Str) (j : Nat) (x : Str) : (ss l).set j (.string (ba x)) = ss (l.set j x) := by simp [ss]
theorem Ow.drewN {E B : Nat} {w0 w : World} {v : Value} {l : List Value} (h : Ow E B w0 w v l) (q : Nat) : Ow E B w0 (w.drewN q) v l := ⟨h.1, bel_drewN h.bel q, h.2.2⟩
theorem swap_at (p q : List Str) (y x : Str) : ((p ++ y :: x :: q).set p.length x).set (p.length + 1) y = p ++ x :: y :: q := by
  induction p with
  | nil => rfl
  | cons z p ih => rw [List.cons_append, List.length_cons, List.set_cons_succ, List.set_cons_succ, ih]; rfl
theorem rset_in {l : List Str} {i : Nat} (hi : i < l.length) (h : l[i] ∈ setOf (l.take i)) : setOf (l.take (i + 1)) = setOf (l.take i) := by
  rw [take_snoc' hi]; exact setOf_snoc_in h
theorem rset_new {l p q : List Str} {i : Nat} (hi : i < l.length) (h : setOf (l.take i) = p ++ q) (hp : ∀ y ∈ p, y < l[i]) (hq : ∀ y ∈ q, l[i] < y) : setOf (l.take (i + 1)) = p ++ l[i] :: q := by
  rw [take_snoc' hi]; exact setOf_snoc_new h hp hq
theorem below_last {p q : List Str} {y x : Str} (h : SS (p ++ y :: q)) (hy : y < x) : ∀ z ∈ p ++ [y], z < x := by
  intro z hz
  rcases List.mem_append.1 hz with hz | hz
  · exact str_trans ((List.pairwise_append.1 h).2.2 z hz y (by simp)) hy
  · rw [List.mem_singleton.1 hz]; exact hy

set_option maxRecDepth 100000 in
set_option maxHeartbeats 1600000 in
theorem rof_any (ao : Option Addr) (n cap : Nat) (l : List Str) (w : World) (R : Rd w (.slice ao n cap) (ss l)) (hl : l.length ≤ big) :
    Calls Try.prog 30 #[.slice ao n cap] w fun e w' => ∃ xo xc, e = .returned (.slice xo (setOf l).length xc) ∧ Ow 9 w.heap.size w w' (.slice xo (setOf l).length xc) (ss (setOf l)) := by
  unfold big at hl
  obtain ⟨hn, h1, h2, h3⟩ := rds_open R
  obtain ⟨S, hS⟩ : ∃ S : Nat → List Str, S = fun i => setOf (l.take i) := ⟨_, rfl⟩
  have HS := hid_of hS
  have HN := hid_of hn
  have hn9 : n ≤ 1000000 := by omega
  have HF : Hid (S n = setOf l) := hid_of (by rw [hS]; show setOf (l.take n) = _; rw [List.take_of_length_le (by omega)])
  have HSL : Hid (∀ i, i ≤ n → (S i).length ≤ 1000000) := hid_of (fun i hi => by rw [hS]; have := setOf_le (l.take i); have := List.length_take_le i l; show (setOf (l.take i)).length ≤ _; omega)
  have HE : Hid (Ow 9 w.heap.size w (w.alloc (.cells #[] 9)) (.slice (some ⟨w.heap.size, 0, none⟩) 0 0) (ss [])) := hid_of (ow_empty _ w)
  have HS0 : Hid (S 0 = []) := hid_of (by rw [hS]; rfl)
  clear R hn hl hS
  rcases h3 with h3 | ⟨g, o, rfl, hg, hc⟩
  · have H3 : Hid (S 0 = setOf l) := hid_of (by rw [HS0.out, h3]; rfl)
    obtain rfl : n = 0 := by rw [HN.out, h3]; rfl
    clear h3
    go_enter Try.func30, Try.ntmps30
    go_wp2
    go_loopw [3, 4, 5] (fun sv iv kv wr => ∃ v : Value, kv = v ∧ iv = .int .i64 0 ∧ sv = .slice (some ⟨w.heap.size, 0, none⟩) 0 0 ∧ w.alloc (.cells #[] 9) = wr) (fun _ _ _ _ => 0)
    case atStart => exact ⟨_, rfl, rfl, rfl, rfl⟩
    case round =>
      obtain ⟨v, rfl, rfl, rfl, rfl⟩ := hrel
      go_wp2
      go_ret
      exact ⟨_, _, by rw [← H3.out, HS0.out] <;> rfl, by rw [← H3.out, HS0.out]; exact HE.out⟩
  · have HC := hid_of hc
    clear hc
    go_enter Try.func30, Try.ntmps30
    go_wp2
    go_loopw [3, 4, 5] (fun sv iv kv wr => ∃ (i : Nat) (xo : Option Addr) (xc : Nat) (v : Value), kv = v ∧ i ≤ n ∧ iv = .int .i64 i ∧ sv = .slice xo (S i).length xc ∧ Hid (Ow 9 w.heap.size w wr (.slice xo (S i).length xc) (ss (S i)))) (fun _ iv _ _ => n - (intOf iv).toNat)
    case atStart => exact ⟨0, _, _, _, rfl, Nat.zero_le _, rfl, by rw [HS0.out] <;> rfl, hid_of (by rw [HS0.out]; exact HE.out)⟩
    case round =>
      obtain ⟨wo, rfl⟩ : ∃ wo : World, wo = wr := ⟨_, rfl⟩
      obtain ⟨i, xo, xc, v, rfl, hi, rfl, rfl, how⟩ := hrel
      by_cases hlt : i < n
      · have hd : decide (i < n) = true := by simp; omega
        have hkl : Hid (i < l.length) := hid_of (by have := HN.out; omega)
        obtain ⟨bk, hbk⟩ : ∃ b, b = ba (l[i]'hkl.out) := ⟨_, rfl⟩
        have c1 := (how.out.bel.cell (p := ⟨g, o + i, none⟩) hg).trans (HC.out i _ (List.getElem?_eq_getElem hkl.out))
        rw [← hbk] at c1
        have HBK := hid_of hbk
        obtain ⟨di, hdi⟩ : ∃ d, d = S i := ⟨_, rfl⟩
        have HDL : Hid (di.length ≤ 1000000) := hid_of (by rw [hdi]; exact HSL.out i (by omega))
        rw [← hdi] at how ⊢
        have HDI : Hid (setOf (l.take i) = di) := hid_of (by rw [hdi, HS.out])
        have HAS : Hid (Calls Try.prog 22 #[.slice xo di.length xc, .string bk] wo fun e w' => e = .returned (.bool (decide (l[i]'hkl.out ∈ di))) ∧ wo = w') := hid_of (by
          rw [hbk]; exact rhas_any xo di.length xc di _ wo (how.out.rd (by rw [ss_length]; have := HDL.out; omega)))
        clear hdi hbk
        by_cases hin : l[i]'hkl.out ∈ di
        · have STEP : Hid (S (i + 1) = di) := hid_of (by rw [HS.out]; show setOf (l.take (i + 1)) = di; rw [rset_in hkl.out (by rw [HDI.out]; exact hin), HDI.out])
          have HAS2 : Hid (Calls Try.prog 22 #[.slice xo di.length xc, .string bk] wo fun e w' => e = .returned (.bool true) ∧ wo = w') := hid_of (by have := HAS.out; rw [decide_eq_true hin] at this; exact this)
          clear hin HAS
          go_wp2_with (go_at_call 22; ((with_reducible refine (HAS2.out).mono ?_); (rintro e w' ⟨rfl, rfl⟩)))
          go_roundw
          case rel => exact ⟨i + 1, xo, xc, _, rfl, by omega, by go_num, by rw [STEP.out], hid_of (by rw [STEP.out]; exact how.out)⟩
          case measure => simp [intOf]; omega
        · have HIN := hid_of hin
          have HAS2 : Hid (Calls Try.prog 22 #[.slice xo di.length xc, .string bk] wo fun e w' => e = .returned (.bool false) ∧ wo = w') := hid_of (by have := HAS.out; rw [decide_eq_false hin] at this; exact this)
          have R1x : Hid (Rd (wo.alloc (.cells #[.string bk] 9)) (.slice (some ⟨wo.heap.size, 0, none⟩) 1 1) (ss [l[i]'hkl.out])) := hid_of (by rw [HBK.out]; exact rd_new rfl rfl (by simp [ss]))
          clear hin HAS
          go_wp2_with (first
            | (go_at_call 22; ((with_reducible refine (HAS2.out).mono ?_); (rintro e w' ⟨rfl, rfl⟩)))
            | (at_builtin; ((refine wpList_app strsE rfl _ _ rfl (v := .slice xo di.length xc) rfl (how.out.alloc _) (vx := .slice (some ⟨wo.heap.size, 0, none⟩) 1 1) rfl R1x.out (ss_one _) (by rw [ss_length, ss_len1]; have := HDL.out; omega) (by rw [ss_length, ss_len1]; have := HDL.out; omega) ?_); intro xo3 n3 c3 w3 hn3 h3; have hn31 : n3 = di.length + 1 := (by rw [hn3, ss_length, ss_len1]); have hn32 : 1 ≤ n3 := (by omega); have hn39 : n3 ≤ 1000001 := (by have := HDL.out; omega); have X3 : Hid (n3 = di.length + 1 ∧ Ow 9 w.heap.size w w3 (.slice xo3 n3 c3) (ss (di ++ [l[i]'hkl.out]))) := hid_of ⟨hn31, by rw [ss_append]; exact h3⟩; clear h3 hn3 hn31)))
          obtain ⟨gg, e1, hB, hG, e2, hfz⟩ := X3.out.2.addr (by rw [ss_length]; simp)
          subst e1
          have HFZ := hid_of hfz
          have hG2 := hid_of (And.intro hB hG)
          clear hB hG e2 hfz
          have hgo : ((n3 : Int) - 1) = ((di.length : Nat) : Int) := by have := X3.out.1; omega
          have HGO := hid_of hgo
          clear hgo
          go_loopw [5] (fun kv wr => ∃ (j : Nat) (p q : List Str), kv = .int .i64 j ∧ j ≤ 1000000 ∧ Hid (j = p.length ∧ di = p ++ q ∧ n3 = (p ++ (l[i]'hkl.out) :: q).length ∧ (∀ y ∈ q, (l[i]'hkl.out) < y)) ∧ Hid (Ow 9 w.heap.size w wr (.slice (some ⟨gg, 0, none⟩) n3 c3) (ss (p ++ (l[i]'hkl.out) :: q)))) (fun kv _ => (intOf kv).toNat)
          case atStart => exact ⟨di.length, di, [], by rw [HGO.out], HDL.out, hid_of ⟨rfl, by simp, by simp [X3.out.1], by simp⟩, hid_of X3.out.2⟩
          case round =>
            obtain ⟨j, p, q, rfl, hj9, hpq, hox⟩ := hrel
            by_cases h0 : j = 0
            · have g0 : decide (0 < j) = false := by simp; omega
              have STEP : Hid (S (i + 1) = p ++ (l[i]'hkl.out) :: q) := hid_of (by
                obtain ⟨q1, q2, q3, q4⟩ := hpq.out
                rw [HS.out]; show setOf (l.take (i + 1)) = _
                exact rset_new hkl.out (by rw [HDI.out]; exact q2) (fun y hy => by rw [List.eq_nil_of_length_eq_zero (by omega : p.length = 0)] at hy; simp at hy) q4)
              clear h0
              go_wp2
              go_quiet (fail)
              go_wp2
              go_roundw
              case rel => exact ⟨i + 1, _, c3, _, rfl, by omega, by go_num, by rw [STEP.out, ← hpq.out.2.2.1], hid_of (by rw [STEP.out, ← hpq.out.2.2.1]; exact hox.out.drewN _)⟩
              case measure => simp [intOf]; omega
            · have g0 : decide (0 < j) = true := by simp; omega
              obtain ⟨t, ht⟩ : ∃ t, t + 1 = j := ⟨j - 1, by omega⟩
              obtain ⟨p', y, hp'⟩ : ∃ p' y, p = p' ++ [y] := ⟨p.dropLast, p.getLast (fun e => by have := hpq.out.1; rw [e] at this; simp at this; omega), (List.dropLast_concat_getLast _).symm⟩
              have HP' : Hid (p = p' ++ [y] ∧ p'.length = t) := hid_of ⟨hp', by have := hpq.out.1; rw [hp'] at this; simp at this; omega⟩
              have HROW : Hid (p ++ (l[i]'hkl.out) :: q = p' ++ y :: (l[i]'hkl.out) :: q) := hid_of (by rw [hp']; simp)
              have hro := (ow_cells hox.out)
              have HHO := hid_of hro.2.2.2.2.2.2
              obtain ⟨_, ea, _, _, _, hfz2⟩ := hox.out.addr (by rw [ss_length, List.length_append, List.length_cons]; omega)
              cases ea
              have HFZR := hid_of hfz2
              clear hfz2
              have HSZ := hid_of hro.1
              have hjn : (j : Int) < (n3 : Int) := by
                have h1 := hpq.out.1; have h2 := hpq.out.2.2.1; simp at h2; omega
              have htn : (t : Int) < (n3 : Int) := by omega
              have hj0 : (0 : Int) ≤ (j : Int) := by omega
              have ht0 : (0 : Int) ≤ (t : Int) := by omega
              obtain ⟨by_, hby⟩ : ∃ b, b = ba y := ⟨_, rfl⟩
              have cy : wr.cell? ⟨gg, t, none⟩ = some (.string by_) := by
                have h := (HHO.out t (by rw [List.size_toArray, ← HSZ.out]; omega)).1
                rw [Nat.zero_add] at h
                rw [h, hby]
                have : (p ++ (l[i]'hkl.out) :: q).toArray[t]! = y := by rw [HROW.out, ← HP'.out.2]; simp
                rw [this]; rfl
              have cx : wr.cell? ⟨gg, j, none⟩ = some (.string bk) := by
                have h := (HHO.out j (by rw [List.size_toArray, ← HSZ.out]; omega)).1
                rw [Nat.zero_add] at h
                rw [h, HBK.out]
                have : (p ++ (l[i]'hkl.out) :: q).toArray[j]! = (l[i]'hkl.out) := by rw [hpq.out.1]; simp
                rw [this]; rfl
              have s1 : IntKind.i64.wrap ((j : Int) - 1) = (t : Int) := by rw [IntWalk.i64_in _ (by omega)]; omega
              have HT := hid_of ht
              clear hro hp' ht h0
              by_cases e : (l[i]'hkl.out) < y
              · have t1 := lt_f hby HBK.out (str_asym e)
                have t2 := eq_f hby HBK.out (fun e2 => str_irr _ (e2 ▸ e))
                have HBY := hid_of hby
                have HQ2 : Hid (di = p' ++ (y :: q) ∧ n3 = (p' ++ (l[i]'hkl.out) :: (y :: q)).length ∧ (∀ z ∈ y :: q, (l[i]'hkl.out) < z)) := hid_of (by
                  obtain ⟨q1, q2, q3, q4⟩ := hpq.out
                  refine ⟨by rw [q2, HP'.out.1]; simp, by rw [q3, HP'.out.1]; simp, fun z hz => ?_⟩
                  rcases List.mem_cons.1 hz with rfl | hz
                  · exact e
                  · exact q4 z hz)
                have hfin : Hid (∀ qq, Ow 9 w.heap.size w (((wr.drewN qq).setCell ⟨gg, t, none⟩ (.string bk)).setCell ⟨gg, j, none⟩ (.string by_)) (.slice (some ⟨gg, 0, none⟩) n3 c3) (ss (p' ++ (l[i]'hkl.out) :: (y :: q)))) := hid_of (fun qq => by
                  have a := (hox.out.drewN qq).set (by rw [ss_length]; exact HSZ.out) (show t < n3 by omega) (.string bk)
                  have b := a.set (by rw [List.length_set, ss_length]; exact HSZ.out) (show j < n3 by omega) (.string by_)
                  rw [HBK.out, HBY.out, ss_set, ss_set, HROW.out, ← HT.out, ← HP'.out.2, swap_at] at b
                  rw [HBK.out, HBY.out, ← HT.out, ← HP'.out.2]
                  exact b)
                clear hby e
                have fy := HFZR.out t
                have fx := HFZR.out j
                go_wp2
                go_quiet (fail)
                go_wp2
                have c4 : ∀ qq, ((wr.drewN qq).setCell ⟨gg, t, none⟩ (.string bk)).cell? ⟨gg, j, none⟩ = some (.string bk) := fun qq => by
                  have hne : (⟨gg, t, none⟩ : Addr) ≠ ⟨gg, j, none⟩ := fun e => by have := HT.out; simp only [Addr.mk.injEq] at e; omega
                  refine Eq.trans (?_ : _ = (wr.drewN qq).cell? ⟨gg, j, none⟩) cx
                  first | exact World.cell?_setCell_other hne | (apply World.cell?_setCell_other; exact hne) | (apply World.cell?_setCell_other; exact hne.symm)
                have f4 : ∀ qq, ((wr.drewN qq).setCell ⟨gg, t, none⟩ (.string bk)).frozen? ⟨gg, j, none⟩ = false := fun qq => by
                  rw [World.frozen?_setCell]; exact fx
                have c5 := c4 (nq + 1)
                have f5 := f4 (nq + 1)
                clear c4 f4
                go_region
                go_wp2
                go_roundw
                case measure => have := HT.out; simp [intOf]; omega
                case rel => exact ⟨t, p', y :: q, by go_num, by omega, hid_of ⟨HP'.out.2.symm, HQ2.out⟩, hid_of (hfin.out _)⟩
              · have t1 : (Op.bytesLess by_.toList bk.toList || by_.toList == bk.toList) = true := by
                  rcases str_tri y (l[i]'hkl.out) with h | h | h
                  · rw [lt_t hby HBK.out h]; simp
                  · rw [eq_t hby HBK.out h]; simp
                  · exact absurd h e
                have STEP : Hid (S (i + 1) = p ++ (l[i]'hkl.out) :: q) := hid_of (by
                  obtain ⟨q1, q2, q3, q4⟩ := hpq.out
                  rw [HS.out]; show setOf (l.take (i + 1)) = _
                  refine rset_new hkl.out (by rw [HDI.out]; exact q2) ?_ q4
                  rw [HP'.out.1]
                  have hs := setOf_ss (l.take i)
                  rw [HDI.out, q2, HP'.out.1, List.append_assoc] at hs
                  refine below_last hs ?_
                  rcases str_tri y (l[i]'hkl.out) with h | h | h
                  · exact h
                  · exact absurd (show (l[i]'hkl.out) ∈ di by rw [q2, HP'.out.1, ← h]; simp) HIN.out
                  · exact absurd h e)
                clear hby e
                go_wp2
                go_quiet (fail)
                clear s1
                go_wp2
                go_roundw
                case rel => exact ⟨i + 1, _, c3, _, rfl, by omega, by go_num, by rw [STEP.out, ← hpq.out.2.2.1], hid_of (by rw [STEP.out, ← hpq.out.2.2.1]; exact hox.out.drewN _)⟩
                case measure => simp [intOf]; omega
      · obtain rfl : i = n := by omega
        have hd : decide (i < i) = false := by simp
        go_wp2
        go_ret
        exact ⟨xo, xc, by rw [← HF.out] <;> rfl, by rw [← HF.out]; exact how.out⟩
end Go.Proofs.Ytpbjnbceloibnaa
