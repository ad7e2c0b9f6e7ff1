/- The reference's Downsets of package order. Bounds on sizes alone. -/
import Derived.Test.YtjfjcgbdpjpodaaDoorOrdRdw
import Derived.Test.YtjfjcgbdpjpodaaDoorOrdRlv
namespace Go.Proofs.YtjfjcgbdpjpodaaDoor
open Go.RowKit

/-- A row of numbers in a block of its own. -/
def OI (w : World) (v : Value) (l : List Nat) : Prop := ∃ B, w.ownsRow B 3 1 v l.length (is (nI l))
theorem OI.same {w w1 : World} {v : Value} {l : List Nat} (h : OI w v l) (hs : ∀ (k : Nat) (cur : Array Value), w.heap[k]? = some (.cells cur 3 (0, 0)) → w1.heap[k]? = w.heap[k]?) : OI w1 v l := by
  obtain ⟨B, h⟩ := h
  exact ⟨B, own_same h fun k hk => by
    obtain ⟨cur, hc⟩ := own_blk h hk
    exact hs k _ hc⟩
theorem OI.at {w w1 : World} {v : Value} {l : List Nat} (h : OI w v l) (hb : Below w.heap.size w w1) : OI w1 v l := h.same fun k _ hc => hb.block k (lt_of_block hc)
theorem OI.kx {lo : Nat} {w w1 : World} {v : Value} {l : List Nat} (h : OI w v l) (hk : KX lo (fun _ => False) w w1) : OI w1 v l := h.same fun k _ hc => (hk.blk hc (by decide) (fun h => h)).trans hc.symm
theorem OI.rd {w : World} {v : Value} {l : List Nat} (h : OI w v l) (hl : l.length ≤ 1000) : Rd w v (is (nI l)) := by
  obtain ⟨B, h⟩ := h
  exact own_rd h ⟨by simp [nI], hl⟩

/-- A row of rows of numbers, all of its own. -/
structure FV (B : Nat) (w : World) (ao : Option Addr) (n cap : Nat) (D : List (List Nat)) (vals : List Value) : Prop where
  nn : n = D.length
  len : vals.length = D.length
  row : w.ownsRow B 36 1 (.slice ao n cap) n vals
  each : ∀ i, i < D.length → ∃ xo xc, vals[i]? = some (.slice xo (D.getD i []).length xc) ∧ OI w (.slice xo (D.getD i []).length xc) (D.getD i [])
theorem FV.at {B n cap : Nat} {w w1 : World} {ao : Option Addr} {D : List (List Nat)} {vals : List Value} (h : FV B w ao n cap D vals) (hb : Below w.heap.size w w1) : FV B w1 ao n cap D vals :=
  ⟨h.nn, h.len, own_same h.row fun k hk => hb.block k (h.row.lt k hk).2, fun i hi => by
    obtain ⟨xo, xc, h1, h2⟩ := h.each i hi
    exact ⟨xo, xc, h1, h2.at hb⟩⟩
theorem fv_app {B n n2 m cap c2 xc : Nat} {D : List (List Nat)} {l : List Nat} {ao a2 xo : Option Addr} {vals : List Value} {w W2 W3 : World} (h : FV B w ao n cap D vals) (hB : B ≤ w.heap.size) (hb : Below w.heap.size w W2) (hm : m = l.length) (hx : OI W2 (.slice xo m xc) l) (hn : n2 = n + 1)
    (ho : W3.ownsRow B 36 1 (.slice a2 n2 c2) n2 (vals ++ [.slice xo m xc])) (hg : W2.grownBy W3 (Value.slice ao n cap).ownBlock) : FV B W3 a2 n2 c2 (D ++ [l]) (vals ++ [.slice xo m xc]) ∧ KX B (fun _ => False) w W3 := by
  subst hm hn
  have h2 := h.at hb
  have hint : ∀ (v : Value) (y : List Nat), OI W2 v y → OI W3 v y := fun v y hv => hv.same fun k cur hc => hg.block k (lt_of_block hc) (fun e => by
    obtain ⟨c1, h1⟩ := own_blk h2.row e.symm
    rw [hc] at h1
    simp only [Option.some.injEq, Obj.cells.injEq] at h1
    exact absurd h1.2.1 (by decide))
  refine ⟨⟨by simp [h.nn], by simp [h.len], ho, fun i hi => ?_⟩, hg.os.trans hb.os, hg.tape.trans hb.tape, hg.output.trans hb.output, Nat.le_trans hb.size hg.size, fun k hk => ?_, fun k hk _ ht => ?_⟩
  · rw [List.length_append, List.length_singleton] at hi
    by_cases e : i < D.length
    · obtain ⟨xo', xc', q1, q2⟩ := h2.each i e
      rw [show (D ++ [l]).getD i [] = D.getD i [] by simp [List.getD, List.getElem?_append_left e]]
      exact ⟨xo', xc', by rw [List.getElem?_append_left (by rw [h.len]; exact e)]; exact q1, hint _ _ q2⟩
    · have e3 : i = D.length := by omega
      rw [show (D ++ [l]).getD i [] = l by rw [e3]; simp [List.getD]]
      exact ⟨xo, xc, by rw [e3, ← h.len]; simp, hint _ _ hx⟩
  · have := hb.size
    rw [hg.block k (by omega) (fun e => by have := (h2.row.lt k e.symm).1; omega)]
    exact hb.block k (by omega)
  · have hw := hb.size
    rw [hg.block k (by omega) (fun e => by
      obtain ⟨cur, hc⟩ := own_blk h.row e.symm
      exact ht cur hc)]
    exact hb.block k hk

/-- A down-closed set that is being listed: the list, where the next elements begin. -/
structure PL (n : Nat) (l : List Nat) (p : Nat) : Prop where
  nil : l = [] → p = 0
  last : ∀ j x, j + 1 = l.length → l[j]? = some x → p = x + 1
  lt : ∀ x ∈ l, x < n
  len : l.length ≤ p
  pn : p ≤ n

set_option maxRecDepth 100000 in
set_option maxHeartbeats 3200000 in
theorem from_step (mo : Option Addr) (n mc : Nat) (R : Nat → Nat → Bool) (w0 : World) (hM : RdG w0 (.slice mo n mc) n R) (hn : n ≤ 64) (B : Nat) (hB0 : w0.heap.size ≤ B) (f p : Nat) (l : List Nat)
    (IH : ∀ (i : Nat) (lo : Option Addr) (ll lc : Nat) (ao : Option Addr) (k cap : Nat) (D : List (List Nat)) (vals : List Value) (w : World), p ≤ i → i < n → Below B w0 w → B ≤ w.heap.size → ll = l.length + 1 → OI w (.slice lo ll lc) (l ++ [i]) → FV B w ao k cap D vals → D.length + (frm n R f (l ++ [i]) (i + 1)).length ≤ 100000 →
      Calls Tryd.prog 66 #[.slice mo n mc, .slice lo ll lc, .slice ao k cap] w fun e w' => ∃ yo yk yc, e = .returned (.slice yo yk yc) ∧ (∃ vs, FV B w' yo yk yc (D ++ frm n R f (l ++ [i]) (i + 1)) vs) ∧ KX B (fun _ => False) w w')
    (lo : Option Addr) (ll lc : Nat) (ao : Option Addr) (k cap : Nat) (D : List (List Nat)) (vals : List Value) (w : World) (hb : Below B w0 w) (hBw : B ≤ w.heap.size) (hll : ll = l.length) (hl : OI w (.slice lo ll lc) l) (hD : FV B w ao k cap D vals) (hp : PL n l p)
    (hlen : D.length + (frm n R (f + 1) l p).length ≤ 100000) :
    Calls Tryd.prog 66 #[.slice mo n mc, .slice lo ll lc, .slice ao k cap] w fun e w' => ∃ yo yk yc, e = .returned (.slice yo yk yc) ∧ (∃ vs, FV B w' yo yk yc (D ++ frm n R (f + 1) l p) vs) ∧ KX B (fun _ => False) w w' := by
  have hl64 : l.length ≤ 64 := by have := hp.len; have := hp.pn; omega
  have HDW : Hid (Calls Tryd.prog 79 #[.slice mo n mc, .slice lo ll lc] w fun e w' => e = .returned (.bool (down n R l)) ∧ Below w.heap.size w w') := hid_of (rdown_any mo n mc lo ll lc l R w (hM.at (hb.mono hB0)) (hl.rd (by omega)) hn hp.lt)
  obtain ⟨T, hT⟩ : ∃ T, T = down n R l := ⟨_, rfl⟩
  obtain ⟨E, hE⟩ : ∃ E, E = D ++ frm n R (f + 1) l p := ⟨_, rfl⟩
  obtain ⟨D1, hD1⟩ : ∃ D1, D1 = D ++ if T = true then [l] else [] := ⟨_, rfl⟩
  have HE : Hid (E = D1 ++ rst n R f l p) := hid_of (by rw [hD1, hE, hT, frm_succ, List.append_assoc])
  have HDF : Hid (T = false → D1 = D) := hid_of (fun h => by rw [hD1, h]; simp)
  have HDT : Hid (T = true → D1 = D ++ [l]) := hid_of (fun h => by rw [hD1, h]; simp)
  have HEL : Hid (E.length ≤ 100000) := hid_of (by rw [hE, List.length_append]; exact hlen)
  rw [← hT] at HDW
  rw [← hE]
  have HI := hid_of IH
  have HB := hid_of hb
  have HBW := hid_of hBw
  have HLL := hid_of hll
  have HL := hid_of hl
  have HD := hid_of hD
  have HP := hid_of hp
  have HL64 := hid_of hl64
  have HN := hid_of hn
  have HDK := hid_of hD.nn
  have HKB : Hid (k ≤ 100000) := hid_of (by rw [hD.nn]; omega)
  have HFW : Hid (∀ w1, Below w.heap.size w w1 → FV B w1 ao k cap D vals ∧ KX B (fun _ => False) w w1) := hid_of (fun w1 h1 => ⟨hD.at h1, KX.ofBelow h1 hBw⟩)
  clear IH hb hBw hll hl hD hp hlen hT hE hM hB0 hl64 hD1
  have HIC : Hid (∀ (i : Nat) (zo : Option Addr) (zc : Nat) (yo : Option Addr) (yk yc : Nat) (D2 : List (List Nat)) (vs : List Value) (wr w6 : World), p ≤ i → i < n → KX B (fun _ => False) w wr → FV B wr yo yk yc D2 vs → Ow 3 wr.heap.size wr w6 (.slice zo (ll + 1) zc) (is (nI l) ++ [.int .i64 (i : Nat)]) → D2.length + (frm n R f (l ++ [i]) (i + 1)).length ≤ 100000 →
      Calls Tryd.prog 66 #[.slice mo n mc, .slice zo (ll + 1) zc, .slice yo yk yc] w6 fun e w' => ∃ vo vk vc, e = .returned (.slice vo vk vc) ∧ (∃ vs, FV B w' vo vk vc (D2 ++ frm n R f (l ++ [i]) (i + 1)) vs) ∧ KX B (fun _ => False) w w') := hid_of (fun i zo zc yo yk yc D2 vs wr w6 h1 h2 h3 h4 h5 h6 => by
    have hz : B ≤ wr.heap.size := Nat.le_trans HBW.out h3.size
    have ho := h5.own
    rw [show is (nI l) ++ [.int .i64 (i : Nat)] = is (nI (l ++ [i])) by simp [is, nI]] at ho
    have hk6 := KX.ofBelow (S := fun _ => False) h5.bel hz
    refine (HI.out i zo (ll + 1) zc yo yk yc D2 vs w6 h1 h2 ((HB.out.trans (h3.below)).trans hk6.below) (Nat.le_trans hz h5.bel.size) (by rw [HLL.out]) ⟨wr.heap.size, by rw [is_length] at ho; simpa [nI, HLL.out] using ho⟩ (h4.at h5.bel) h6).mono fun e w' ⟨vo, vk, vc, q1, q2, q3⟩ => ⟨vo, vk, vc, q1, q2, h3.trans (hk6.trans q3)⟩)
  have HNX : Hid ((ll = 0 ∧ p = 0) ∨ ∃ q o j x, lo = some ⟨q, o, none⟩ ∧ j + 1 = ll ∧ p = x + 1 ∧ ∀ W, OI W (.slice lo ll lc) l → W.cell? ⟨q, o + j, none⟩ = some (.int .i64 (x : Nat))) := hid_of (by
    rcases Nat.eq_zero_or_pos ll with h0 | h0
    · exact .inl ⟨h0, HP.out.nil (List.eq_nil_of_length_eq_zero (by have := HLL.out; omega))⟩
    · have h1 : ll - 1 < l.length := by have := HLL.out; omega
      obtain ⟨q, o, rfl, _, _⟩ := is_open (HL.out.rd (by have := HL64.out; omega)) h0
      refine .inr ⟨q, o, ll - 1, l[ll - 1], rfl, by omega, HP.out.last (ll - 1) _ (by have := HLL.out; omega) (List.getElem?_eq_getElem h1), fun W hW => ?_⟩
      obtain ⟨q2, o2, e, _, hc⟩ := is_open (hW.rd (by have := HL64.out; omega)) h0
      simp only [Option.some.injEq, Addr.mk.injEq] at e
      obtain ⟨rfl, rfl, _⟩ := e
      exact hc (ll - 1) _ (by simp [nI, List.getElem?_eq_getElem h1]))
  have HAP : Hid (∀ (W1 W3 W5 : World) (xo a2 : Option Addr) (xc n2 c2 : Nat), Below w.heap.size w W1 → Ow 3 W1.heap.size W1 W3 (.slice xo ll xc) (is (nI l)) → n2 = k + 1 → W5.ownsRow B 36 1 (.slice a2 n2 c2) n2 (vals ++ [.slice xo ll xc]) → (W3.alloc (.cells #[.slice xo ll xc] 36)).grownBy W5 (Value.slice ao k cap).ownBlock → FV B W5 a2 n2 c2 (D ++ [l]) (vals ++ [.slice xo ll xc]) ∧ KX B (fun _ => False) w W5) := hid_of (fun W1 W3 W5 xo a2 xc n2 c2 h1 h2 h3 h4 h5 => by
    have b3 : Below w.heap.size w (W3.alloc (.cells #[.slice xo ll xc] 36)) := h1.trans ((h2.bel.trans ((bel_alloc W3 _).mono h2.bel.size)).mono h1.size)
    have ho := h2.own
    rw [is_length, show (nI l).length = l.length by simp [nI]] at ho
    exact fv_app HD.out HBW.out b3 HLL.out (OI.at ⟨_, by rw [HLL.out] at ho ⊢; exact ho⟩ (bel_alloc W3 _)) h3 h4 h5)
  obtain ⟨i0, hi, hz0, hz1, hz2⟩ := info_parts listsE.info
  have HNB := hid_of (show ll ≤ 64 by have := HLL.out; have := HL64.out; omega)
  rcases HNX.out with ⟨h0, hp0⟩ | ⟨q, o, j, x, hlo, hj, hpx, hcx⟩
  · have d0 : decide (0 < ll) = false := by simp; omega
    have d1 : decide ((ll : Int) > 0) = false := by simp; omega
    have HP0 := hid_of hp0
    clear HNX h0 hp0
    cases T
    · go_enter Tryd.func66, Tryd.ntmps66
      go_wp2_with (go_at_call 79; ((with_reducible refine (HDW.out).mono ?_); (rintro ee w1 ⟨rfl, h1⟩; have B1 := hid_of h1; clear h1)))
      go_loopw [2, 8] (fun ov iv wr => ∃ (i : Nat) (yo : Option Addr) (yk yc : Nat) (D2 : List (List Nat)), p ≤ i ∧ i ≤ n ∧ iv = .int .i64 i ∧ ov = .slice yo yk yc ∧ Hid (E = D2 ++ rst n R f l i ∧ (∃ vs, FV B wr yo yk yc D2 vs) ∧ KX B (fun _ => False) w wr)) (fun _ iv _ => n - (intOf iv).toNat)
      case atStart => exact ⟨p, ao, k, cap, D1, Nat.le_refl _, HP.out.pn, by rw [HP0.out]; rfl, rfl, hid_of ⟨HE.out, ⟨vals, by first | (rw [HDF.out trivial]; exact (HFW.out w1 B1.out).1) | (rw [HDF.out rfl]; exact (HFW.out w1 B1.out).1)⟩, (HFW.out w1 B1.out).2⟩⟩
      case round =>
        obtain ⟨i, yo, yk, yc, D2, hpi, hin, rfl, rfl, hs⟩ := hrel
        obtain ⟨he, ⟨vs, hv⟩, hx⟩ := hs.out
        have HE2 := hid_of he
        have HV := hid_of hv
        have HX := hid_of hx
        have HPI := hid_of hpi
        clear hs he hv hx hpi
        by_cases hlt : i < n
        · have b1 : (i : Int) < (n : Int) := by omega
          have LW := hid_of ((HL.out.kx HX.out).at (bel_alloc wr (.cells #[] 3)))
          have HST := hid_of (rst_step n R f l hlt)
          have HLT := hid_of hlt
          clear hlt
          go_wp2_with (first
            | (at_builtin; (refine wpList_app intsE rfl _ _ rfl (B := wr.heap.size) (w0 := wr) (v := .slice (some ⟨wr.heap.size, 0, none⟩) 0 0) (l := []) rfl (ow_empty 3 wr) (vx := .slice lo ll lc) (m := is (nI l)) rfl (LW.out.rd (by have := HL64.out; omega)) (is_one _) (by rw [is_length]; simp [nI]; have := HL64.out; omega) (by rw [is_length]; simp [nI]; have := HL64.out; omega) ?_); intro xo xn xc w3 hxn ho3; obtain rfl : ll = xn := (by rw [hxn, is_length, HLL.out]; simp [nI]); have O3 := hid_of ho3; clear ho3 hxn)
            | (at_builtin; (refine wpList_app intsE rfl _ _ rfl (B := wr.heap.size) (w0 := wr) (v := .slice xo ll xc) (l := is (nI l)) rfl (O3.out.alloc _) (vx := .slice (some ⟨w3.heap.size, 0, none⟩) 1 1) (m := [.int .i64 (i : Nat)]) rfl (rd_new rfl rfl (by simp)) (by intro v hv; rw [List.mem_singleton.1 hv]; rfl) (by rw [is_length]; simp [nI]; have := HL64.out; omega) (by rw [is_length]; simp [nI]; have := HL64.out; omega) ?_); intro zo zn zc w6 hzn ho6; obtain rfl : zn = ll + 1 := (by rw [hzn, is_length, HLL.out]; simp [nI]); have O6 := hid_of ho6; have HC6 := hid_of (HIC.out i zo zc yo yk yc D2 vs wr w6 HPI.out HLT.out HX.out HV.out ho6 (by have := HEL.out; rw [HE2.out, HST.out] at this; simp only [List.length_append] at this; omega)); clear ho6 hzn)
            | (go_at_call 66; ((with_reducible refine (HC6.out).mono ?_); (rintro ee w7 ⟨vo, vk, vc, rfl, h1, h2⟩; have H7 := hid_of h1; have X7 := hid_of h2; clear h1 h2))))
          go_roundw
          case rel => exact ⟨i + 1, vo, vk, vc, _, by have := HPI.out; omega, by have := HLT.out; omega, by go_num, rfl, hid_of ⟨by rw [HE2.out, HST.out, List.append_assoc], H7.out, X7.out⟩⟩
          case measure => have := HLT.out; simp [intOf]; omega
        · obtain rfl : i = n := by omega
          have HEE : Hid (E = D2) := hid_of (by rw [HE2.out, rst_end _ R f l (Nat.le_refl _), List.append_nil])
          go_wp2
          go_ret
          exact ⟨yo, yk, yc, rfl, ⟨vs, by rw [HEE.out]; exact HV.out⟩, HX.out⟩
    · go_enter Tryd.func66, Tryd.ntmps66
      go_wp2_with (first
        | (go_at_call 79; ((with_reducible refine (HDW.out).mono ?_); (rintro ee w1 ⟨rfl, h1⟩; have B1 := hid_of h1; have L1 := hid_of ((HL.out.at h1).at (bel_alloc w1 (.cells #[] 3))); clear h1)))
        | (at_builtin; (refine wpList_app intsE rfl _ _ rfl (B := w1.heap.size) (w0 := w1) (v := .slice (some ⟨w1.heap.size, 0, none⟩) 0 0) (l := []) rfl (ow_empty 3 w1) (vx := .slice lo ll lc) (m := is (nI l)) rfl (L1.out.rd (by have := HL64.out; omega)) (is_one _) (by rw [is_length]; simp [nI]; have := HL64.out; omega) (by rw [is_length]; simp [nI]; have := HL64.out; omega) ?_); intro xo xn xc w3 hxn ho3; obtain rfl : ll = xn := (by rw [hxn, is_length, HLL.out]; simp [nI]); have O3 := hid_of ho3; have B3 : Hid (Below w.heap.size w (w3.alloc (.cells #[.slice xo ll xc] 36))) := hid_of (B1.out.trans ((ho3.bel.trans ((bel_alloc w3 _).mono ho3.bel.size)).mono B1.out.size)); have F3 := hid_of (HD.out.at B3.out); clear ho3 hxn)
        | (at_builtin; (refine wpList_append_src _ rfl _ _ _ _ rfl B 36 i0 (.slice none 0 0) 1 24 Tryd.underlying39 hi hz0 hz1 hz2 rfl (by decide) (.slice ao k cap) k vals rfl F3.out.row _ 1 [.slice xo ll xc] rfl (Src.ofSlice _ Tryd.underlying39 ⟨w3.heap.size, 0, none⟩ 1 1 [.slice xo ll xc] rfl (cell_one_new w3 _ _) (by intro v hv; rw [List.mem_singleton.1 hv]; rfl)) (by unfold maxLen; have := HKB.out; omega) (by have := HKB.out; omega) (by have := HBW.out; have := B3.out.size; omega) ?_); intro v2 w5 hown hg _ _; obtain ⟨a2, c2', rfl⟩ := own_shape hown; have Z5 := hid_of (HAP.out w1 w3 w5 xo a2 xc (k + 1) c2' B1.out O3.out rfl hown hg); clear hown hg))
      go_loopw [2, 8] (fun ov iv wr => ∃ (i : Nat) (yo : Option Addr) (yk yc : Nat) (D2 : List (List Nat)), p ≤ i ∧ i ≤ n ∧ iv = .int .i64 i ∧ ov = .slice yo yk yc ∧ Hid (E = D2 ++ rst n R f l i ∧ (∃ vs, FV B wr yo yk yc D2 vs) ∧ KX B (fun _ => False) w wr)) (fun _ iv _ => n - (intOf iv).toNat)
      case atStart => exact ⟨p, a2, k + 1, c2', D1, Nat.le_refl _, HP.out.pn, by rw [HP0.out]; rfl, rfl, hid_of ⟨HE.out, ⟨_, by first | (rw [HDT.out trivial]; exact Z5.out.1) | (rw [HDT.out rfl]; exact Z5.out.1)⟩, Z5.out.2⟩⟩
      case round =>
        obtain ⟨i, yo, yk, yc, D2, hpi, hin, rfl, rfl, hs⟩ := hrel
        obtain ⟨he, ⟨vs, hv⟩, hx⟩ := hs.out
        have HE2 := hid_of he
        have HV := hid_of hv
        have HX := hid_of hx
        have HPI := hid_of hpi
        clear hs he hv hx hpi
        by_cases hlt : i < n
        · have b1 : (i : Int) < (n : Int) := by omega
          have LW := hid_of ((HL.out.kx HX.out).at (bel_alloc wr (.cells #[] 3)))
          have HST := hid_of (rst_step n R f l hlt)
          have HLT := hid_of hlt
          clear hlt
          go_wp2_with (first
            | (at_builtin; (refine wpList_app intsE rfl _ _ rfl (B := wr.heap.size) (w0 := wr) (v := .slice (some ⟨wr.heap.size, 0, none⟩) 0 0) (l := []) rfl (ow_empty 3 wr) (vx := .slice lo ll lc) (m := is (nI l)) rfl (LW.out.rd (by have := HL64.out; omega)) (is_one _) (by rw [is_length]; simp [nI]; have := HL64.out; omega) (by rw [is_length]; simp [nI]; have := HL64.out; omega) ?_); intro xo xn xc w3 hxn ho3; obtain rfl : ll = xn := (by rw [hxn, is_length, HLL.out]; simp [nI]); have O3 := hid_of ho3; clear ho3 hxn)
            | (at_builtin; (refine wpList_app intsE rfl _ _ rfl (B := wr.heap.size) (w0 := wr) (v := .slice xo ll xc) (l := is (nI l)) rfl (O3.out.alloc _) (vx := .slice (some ⟨w3.heap.size, 0, none⟩) 1 1) (m := [.int .i64 (i : Nat)]) rfl (rd_new rfl rfl (by simp)) (by intro v hv; rw [List.mem_singleton.1 hv]; rfl) (by rw [is_length]; simp [nI]; have := HL64.out; omega) (by rw [is_length]; simp [nI]; have := HL64.out; omega) ?_); intro zo zn zc w6 hzn ho6; obtain rfl : zn = ll + 1 := (by rw [hzn, is_length, HLL.out]; simp [nI]); have O6 := hid_of ho6; have HC6 := hid_of (HIC.out i zo zc yo yk yc D2 vs wr w6 HPI.out HLT.out HX.out HV.out ho6 (by have := HEL.out; rw [HE2.out, HST.out] at this; simp only [List.length_append] at this; omega)); clear ho6 hzn)
            | (go_at_call 66; ((with_reducible refine (HC6.out).mono ?_); (rintro ee w7 ⟨vo, vk, vc, rfl, h1, h2⟩; have H7 := hid_of h1; have X7 := hid_of h2; clear h1 h2))))
          go_roundw
          case rel => exact ⟨i + 1, vo, vk, vc, _, by have := HPI.out; omega, by have := HLT.out; omega, by go_num, rfl, hid_of ⟨by rw [HE2.out, HST.out, List.append_assoc], H7.out, X7.out⟩⟩
          case measure => have := HLT.out; simp [intOf]; omega
        · obtain rfl : i = n := by omega
          have HEE : Hid (E = D2) := hid_of (by rw [HE2.out, rst_end _ R f l (Nat.le_refl _), List.append_nil])
          go_wp2
          go_ret
          exact ⟨yo, yk, yc, rfl, ⟨vs, by rw [HEE.out]; exact HV.out⟩, HX.out⟩
  · have d0 : decide (0 < ll) = true := by simp; omega
    have d1 : decide ((ll : Int) > 0) = true := by simp; omega
    have s1 : IntKind.i64.wrap ((ll : Int) - 1) = (j : Int) := by rw [IntWalk.i64_in _ (by have := HNB.out; omega)]; omega
    have s2 : IntKind.i64.wrap ((x : Int) + 1) = (p : Int) := by rw [IntWalk.i64_in _ (by have := HP.out.pn; have := HN.out; omega)]; omega
    have b2 : (0 : Int) ≤ (j : Int) := by omega
    have b3 : (j : Int) < (ll : Int) := by omega
    have HCX := hid_of hcx
    subst hlo
    clear HNX hj hpx hcx
    cases T
    · go_enter Tryd.func66, Tryd.ntmps66
      go_wp2_with (go_at_call 79; ((with_reducible refine (HDW.out).mono ?_); (rintro ee w1 ⟨rfl, h1⟩; have B1 := hid_of h1; have c1 := HCX.out w1 (HL.out.at h1); clear h1)))
      go_loopw [2, 8] (fun ov iv wr => ∃ (i : Nat) (yo : Option Addr) (yk yc : Nat) (D2 : List (List Nat)), p ≤ i ∧ i ≤ n ∧ iv = .int .i64 i ∧ ov = .slice yo yk yc ∧ Hid (E = D2 ++ rst n R f l i ∧ (∃ vs, FV B wr yo yk yc D2 vs) ∧ KX B (fun _ => False) w wr)) (fun _ iv _ => n - (intOf iv).toNat)
      case atStart => exact ⟨p, ao, k, cap, D1, Nat.le_refl _, HP.out.pn, rfl, rfl, hid_of ⟨HE.out, ⟨vals, by first | (rw [HDF.out trivial]; exact (HFW.out w1 B1.out).1) | (rw [HDF.out rfl]; exact (HFW.out w1 B1.out).1)⟩, (HFW.out w1 B1.out).2⟩⟩
      case round =>
        obtain ⟨i, yo, yk, yc, D2, hpi, hin, rfl, rfl, hs⟩ := hrel
        obtain ⟨he, ⟨vs, hv⟩, hx⟩ := hs.out
        have HE2 := hid_of he
        have HV := hid_of hv
        have HX := hid_of hx
        have HPI := hid_of hpi
        clear hs he hv hx hpi
        by_cases hlt : i < n
        · have b1 : (i : Int) < (n : Int) := by omega
          have LW := hid_of ((HL.out.kx HX.out).at (bel_alloc wr (.cells #[] 3)))
          have HST := hid_of (rst_step n R f l hlt)
          have HLT := hid_of hlt
          clear hlt
          go_wp2_with (first
            | (at_builtin; (refine wpList_app intsE rfl _ _ rfl (B := wr.heap.size) (w0 := wr) (v := .slice (some ⟨wr.heap.size, 0, none⟩) 0 0) (l := []) rfl (ow_empty 3 wr) (vx := .slice (some ⟨q, o, none⟩) ll lc) (m := is (nI l)) rfl (LW.out.rd (by have := HL64.out; omega)) (is_one _) (by rw [is_length]; simp [nI]; have := HL64.out; omega) (by rw [is_length]; simp [nI]; have := HL64.out; omega) ?_); intro xo xn xc w3 hxn ho3; obtain rfl : ll = xn := (by rw [hxn, is_length, HLL.out]; simp [nI]); have O3 := hid_of ho3; clear ho3 hxn)
            | (at_builtin; (refine wpList_app intsE rfl _ _ rfl (B := wr.heap.size) (w0 := wr) (v := .slice xo ll xc) (l := is (nI l)) rfl (O3.out.alloc _) (vx := .slice (some ⟨w3.heap.size, 0, none⟩) 1 1) (m := [.int .i64 (i : Nat)]) rfl (rd_new rfl rfl (by simp)) (by intro v hv; rw [List.mem_singleton.1 hv]; rfl) (by rw [is_length]; simp [nI]; have := HL64.out; omega) (by rw [is_length]; simp [nI]; have := HL64.out; omega) ?_); intro zo zn zc w6 hzn ho6; obtain rfl : zn = ll + 1 := (by rw [hzn, is_length, HLL.out]; simp [nI]); have O6 := hid_of ho6; have HC6 := hid_of (HIC.out i zo zc yo yk yc D2 vs wr w6 HPI.out HLT.out HX.out HV.out ho6 (by have := HEL.out; rw [HE2.out, HST.out] at this; simp only [List.length_append] at this; omega)); clear ho6 hzn)
            | (go_at_call 66; ((with_reducible refine (HC6.out).mono ?_); (rintro ee w7 ⟨vo, vk, vc, rfl, h1, h2⟩; have H7 := hid_of h1; have X7 := hid_of h2; clear h1 h2))))
          go_roundw
          case rel => exact ⟨i + 1, vo, vk, vc, _, by have := HPI.out; omega, by have := HLT.out; omega, by go_num, rfl, hid_of ⟨by rw [HE2.out, HST.out, List.append_assoc], H7.out, X7.out⟩⟩
          case measure => have := HLT.out; simp [intOf]; omega
        · obtain rfl : i = n := by omega
          have HEE : Hid (E = D2) := hid_of (by rw [HE2.out, rst_end _ R f l (Nat.le_refl _), List.append_nil])
          go_wp2
          go_ret
          exact ⟨yo, yk, yc, rfl, ⟨vs, by rw [HEE.out]; exact HV.out⟩, HX.out⟩
    · go_enter Tryd.func66, Tryd.ntmps66
      go_wp2_with (first
        | (go_at_call 79; ((with_reducible refine (HDW.out).mono ?_); (rintro ee w1 ⟨rfl, h1⟩; have B1 := hid_of h1; have L1 := hid_of ((HL.out.at h1).at (bel_alloc w1 (.cells #[] 3))); clear h1)))
        | (at_builtin; (refine wpList_app intsE rfl _ _ rfl (B := w1.heap.size) (w0 := w1) (v := .slice (some ⟨w1.heap.size, 0, none⟩) 0 0) (l := []) rfl (ow_empty 3 w1) (vx := .slice (some ⟨q, o, none⟩) ll lc) (m := is (nI l)) rfl (L1.out.rd (by have := HL64.out; omega)) (is_one _) (by rw [is_length]; simp [nI]; have := HL64.out; omega) (by rw [is_length]; simp [nI]; have := HL64.out; omega) ?_); intro xo xn xc w3 hxn ho3; obtain rfl : ll = xn := (by rw [hxn, is_length, HLL.out]; simp [nI]); have O3 := hid_of ho3; have B3 : Hid (Below w.heap.size w (w3.alloc (.cells #[.slice xo ll xc] 36))) := hid_of (B1.out.trans ((ho3.bel.trans ((bel_alloc w3 _).mono ho3.bel.size)).mono B1.out.size)); have F3 := hid_of (HD.out.at B3.out); clear ho3 hxn)
        | (at_builtin; (refine wpList_append_src _ rfl _ _ _ _ rfl B 36 i0 (.slice none 0 0) 1 24 Tryd.underlying39 hi hz0 hz1 hz2 rfl (by decide) (.slice ao k cap) k vals rfl F3.out.row _ 1 [.slice xo ll xc] rfl (Src.ofSlice _ Tryd.underlying39 ⟨w3.heap.size, 0, none⟩ 1 1 [.slice xo ll xc] rfl (cell_one_new w3 _ _) (by intro v hv; rw [List.mem_singleton.1 hv]; rfl)) (by unfold maxLen; have := HKB.out; omega) (by have := HKB.out; omega) (by have := HBW.out; have := B3.out.size; omega) ?_); intro v2 w5 hown hg _ _; obtain ⟨a2, c2', rfl⟩ := own_shape hown; have Z5 := hid_of (HAP.out w1 w3 w5 xo a2 xc (k + 1) c2' B1.out O3.out rfl hown hg); have c5 := HCX.out w5 (HL.out.kx Z5.out.2); clear hown hg))
      go_loopw [2, 8] (fun ov iv wr => ∃ (i : Nat) (yo : Option Addr) (yk yc : Nat) (D2 : List (List Nat)), p ≤ i ∧ i ≤ n ∧ iv = .int .i64 i ∧ ov = .slice yo yk yc ∧ Hid (E = D2 ++ rst n R f l i ∧ (∃ vs, FV B wr yo yk yc D2 vs) ∧ KX B (fun _ => False) w wr)) (fun _ iv _ => n - (intOf iv).toNat)
      case atStart => exact ⟨p, a2, k + 1, c2', D1, Nat.le_refl _, HP.out.pn, rfl, rfl, hid_of ⟨HE.out, ⟨_, by first | (rw [HDT.out trivial]; exact Z5.out.1) | (rw [HDT.out rfl]; exact Z5.out.1)⟩, Z5.out.2⟩⟩
      case round =>
        obtain ⟨i, yo, yk, yc, D2, hpi, hin, rfl, rfl, hs⟩ := hrel
        obtain ⟨he, ⟨vs, hv⟩, hx⟩ := hs.out
        have HE2 := hid_of he
        have HV := hid_of hv
        have HX := hid_of hx
        have HPI := hid_of hpi
        clear hs he hv hx hpi
        by_cases hlt : i < n
        · have b1 : (i : Int) < (n : Int) := by omega
          have LW := hid_of ((HL.out.kx HX.out).at (bel_alloc wr (.cells #[] 3)))
          have HST := hid_of (rst_step n R f l hlt)
          have HLT := hid_of hlt
          clear hlt
          go_wp2_with (first
            | (at_builtin; (refine wpList_app intsE rfl _ _ rfl (B := wr.heap.size) (w0 := wr) (v := .slice (some ⟨wr.heap.size, 0, none⟩) 0 0) (l := []) rfl (ow_empty 3 wr) (vx := .slice (some ⟨q, o, none⟩) ll lc) (m := is (nI l)) rfl (LW.out.rd (by have := HL64.out; omega)) (is_one _) (by rw [is_length]; simp [nI]; have := HL64.out; omega) (by rw [is_length]; simp [nI]; have := HL64.out; omega) ?_); intro xo xn xc w3 hxn ho3; obtain rfl : ll = xn := (by rw [hxn, is_length, HLL.out]; simp [nI]); have O3 := hid_of ho3; clear ho3 hxn)
            | (at_builtin; (refine wpList_app intsE rfl _ _ rfl (B := wr.heap.size) (w0 := wr) (v := .slice xo ll xc) (l := is (nI l)) rfl (O3.out.alloc _) (vx := .slice (some ⟨w3.heap.size, 0, none⟩) 1 1) (m := [.int .i64 (i : Nat)]) rfl (rd_new rfl rfl (by simp)) (by intro v hv; rw [List.mem_singleton.1 hv]; rfl) (by rw [is_length]; simp [nI]; have := HL64.out; omega) (by rw [is_length]; simp [nI]; have := HL64.out; omega) ?_); intro zo zn zc w6 hzn ho6; obtain rfl : zn = ll + 1 := (by rw [hzn, is_length, HLL.out]; simp [nI]); have O6 := hid_of ho6; have HC6 := hid_of (HIC.out i zo zc yo yk yc D2 vs wr w6 HPI.out HLT.out HX.out HV.out ho6 (by have := HEL.out; rw [HE2.out, HST.out] at this; simp only [List.length_append] at this; omega)); clear ho6 hzn)
            | (go_at_call 66; ((with_reducible refine (HC6.out).mono ?_); (rintro ee w7 ⟨vo, vk, vc, rfl, h1, h2⟩; have H7 := hid_of h1; have X7 := hid_of h2; clear h1 h2))))
          go_roundw
          case rel => exact ⟨i + 1, vo, vk, vc, _, by have := HPI.out; omega, by have := HLT.out; omega, by go_num, rfl, hid_of ⟨by rw [HE2.out, HST.out, List.append_assoc], H7.out, X7.out⟩⟩
          case measure => have := HLT.out; simp [intOf]; omega
        · obtain rfl : i = n := by omega
          have HEE : Hid (E = D2) := hid_of (by rw [HE2.out, rst_end _ R f l (Nat.le_refl _), List.append_nil])
          go_wp2
          go_ret
          exact ⟨yo, yk, yc, rfl, ⟨vs, by rw [HEE.out]; exact HV.out⟩, HX.out⟩
end Go.Proofs.YtjfjcgbdpjpodaaDoor
