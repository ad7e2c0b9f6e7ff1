/- OrderDownsets. -/
import Derived.Test.YtjfjcgbdpjpodaaDoorOrdRfr
import Derived.Deep.RegionHeldLaw
namespace Go.Proofs.YtjfjcgbdpjpodaaDoor
open Go.RowKit

theorem from_any (mo : Option Addr) (n mc : Nat) (R : Nat → Nat → Bool) (w0 : World) (hM : RdG w0 (.slice mo n mc) n R) (hn : n ≤ 64) (B : Nat) (hB0 : w0.heap.size ≤ B) : ∀ (f p : Nat) (l : List Nat) (_ : n - p ≤ f)
    (lo : Option Addr) (ll lc : Nat) (ao : Option Addr) (k cap : Nat) (D : List (List Nat)) (vals : List Value) (w : World) (_ : Below B w0 w) (_ : B ≤ w.heap.size) (_ : ll = l.length) (_ : OI w (.slice lo ll lc) l) (_ : FV B w ao k cap D vals) (_ : PL n l p)
    (_ : D.length + (frm n R (f + 1) l p).length ≤ 100000),
    Calls Tryd.prog 66 #[.slice mo n mc, .slice lo ll lc, .slice ao k cap] w fun e w' => ∃ yo yk yc, e = .returned (.slice yo yk yc) ∧ (∃ vs, FV B w' yo yk yc (D ++ frm n R (f + 1) l p) vs) ∧ KX B (fun _ => False) w w'
  | 0, p, l, hf, lo, ll, lc, ao, k, cap, D, vals, w, h1, h2, h3, h4, h5, h6, h7 =>
    from_step mo n mc R w0 hM hn B hB0 0 p l (fun i _ _ _ _ _ _ _ _ _ q1 q2 => by omega) lo ll lc ao k cap D vals w h1 h2 h3 h4 h5 h6 h7
  | f + 1, p, l, hf, lo, ll, lc, ao, k, cap, D, vals, w, h1, h2, h3, h4, h5, h6, h7 =>
    from_step mo n mc R w0 hM hn B hB0 (f + 1) p l (fun i lo ll lc ao k cap D vals w q1 q2 q3 q4 q5 q6 q7 q8 =>
      from_any mo n mc R w0 hM hn B hB0 f (i + 1) (l ++ [i]) (by omega) lo ll lc ao k cap D vals w q3 q4 (by rw [q5]; simp) q6 q7
        ⟨fun h => by simp at h, fun j x hj hx => by
          rw [List.length_append, List.length_singleton] at hj
          obtain rfl : j = l.length := by omega
          simp at hx
          omega, fun x hx => by
          rcases List.mem_append.1 hx with h | h
          · exact h6.lt x h
          · rw [List.mem_singleton.1 h]; exact q2, by rw [List.length_append, List.length_singleton]; have := h6.len; omega, by omega⟩ q8) lo ll lc ao k cap D vals w h1 h2 h3 h4 h5 h6 h7

/-- Rows of numbers that can be read. -/
def RR (w : World) (ao : Option Addr) (D : List (List Nat)) : Prop :=
  ∀ i, i < D.length → ∃ g xo xc, ao = some ⟨g, 0, none⟩ ∧ g < w.heap.size ∧ w.cell? ⟨g, i, none⟩ = some (.slice xo (D.getD i []).length xc) ∧ Rd w (.slice xo (D.getD i []).length xc) (is (nI (D.getD i [])))
theorem RR.at {w w1 : World} {ao : Option Addr} {D : List (List Nat)} (h : RR w ao D) (hb : Below w.heap.size w w1) : RR w1 ao D := fun i hi => by
  obtain ⟨g, xo, xc, h1, h2, h3, h4⟩ := h i hi
  exact ⟨g, xo, xc, h1, Nat.lt_of_lt_of_le h2 hb.size, (hb.cell (p := ⟨g, i, none⟩) h2).trans h3, h4.at hb⟩
theorem own_get {w : World} {B n cap i : Nat} {ao : Option Addr} {vals : List Value} {v : Value} (h : w.ownsRow B 36 1 (.slice ao n cap) n vals) (hi : i < n) (hv : vals[i]? = some v) : ∃ g, ao = some ⟨g, 0, none⟩ ∧ g < w.heap.size ∧ w.cell? ⟨g, i, none⟩ = some v := by
  rcases h.2 with ⟨_, h5⟩ | ⟨g, c, cur, hs, _⟩
  · omega
  · simp only [Value.slice.injEq] at hs
    obtain ⟨rfl, _, rfl⟩ := hs
    have hc := h.cells (g := g) rfl i v hv
    rw [Addr.add_mid, Nat.zero_add] at hc
    exact ⟨g, rfl, World.block_lt_of_cell? _ _ hc, hc⟩
theorem FV.rr {B n cap : Nat} {w : World} {ao : Option Addr} {D : List (List Nat)} {vals : List Value} (h : FV B w ao n cap D vals) (hl : ∀ x ∈ D, x.length ≤ 64) : RR w ao D := fun i hi => by
  obtain ⟨xo, xc, h1, h2⟩ := h.each i hi
  obtain ⟨g, q1, q2, q3⟩ := own_get h.row (by rw [h.nn]; exact hi) h1
  refine ⟨g, xo, xc, q1, q2, q3, h2.rd (Nat.le_trans (hl _ ?_) (by decide))⟩
  rw [show D.getD i [] = D[i] by simp [List.getD, List.getElem?_eq_getElem hi]]
  exact List.getElem_mem hi
theorem GL.rr {lo lb cap : Nat} {w : World} {ao : Option Addr} {D : List (List Nat)} {vals : List Value} (h : GL lo lb (D.map msk) ao cap vals w) (hl : ∀ x ∈ D, els (msk x) = x) : RR w ao D := fun i hi => by
  obtain ⟨xo, xc, B, h1, h2⟩ := h.each i (by rw [List.length_map]; exact hi)
  have e : (D.map msk).getD i 0 = msk D[i] := by simp [List.getD, List.getElem?_eq_getElem hi]
  have e2 : D.getD i [] = D[i] := by simp [List.getD, List.getElem?_eq_getElem hi]
  have e3 : els ((D.map msk).getD i 0) = D.getD i [] := by rw [e, e2]; exact hl _ (List.getElem_mem hi)
  have hlen : (els ((D.map msk).getD i 0)).length ≤ 64 := els_len _
  rw [e3] at h1 h2 hlen
  obtain ⟨g, q1, q2, q3⟩ := own_get h.row (by rw [List.length_map]; exact hi) h1
  exact ⟨g, xo, xc, q1, q2, q3, OI.rd ⟨B, h2⟩ (by omega)⟩

set_option maxRecDepth 100000 in
set_option maxHeartbeats 1600000 in
theorem rdownsets_any (mo : Option Addr) (n mc : Nat) (R : Nat → Nat → Bool) (w : World) (hM : RdG w (.slice mo n mc) n R) (hn : n ≤ 12) :
    Calls Tryd.prog 35 #[.slice mo n mc] w fun e w' => ∃ yo yc, e = .returned (.slice yo (DS n R).length yc) ∧ RR w' yo (DS n R) ∧ Below w.heap.size w w' := by
  have H : Hid (Calls Tryd.prog 66 #[.slice mo n mc, .slice (some ⟨w.heap.size, 0, none⟩) 0 0, .slice (some ⟨w.heap.size + 1, 0, none⟩) 0 0] ((w.alloc (.cells #[] 3)).alloc (.cells #[] 36)) fun e w' => ∃ yo yc, e = .returned (.slice yo (DS n R).length yc) ∧ RR w' yo (DS n R) ∧ Below w.heap.size w w') := hid_of (by
    have z1 : (w.alloc (.cells #[] 3)).heap.size = w.heap.size + 1 := by simp
    have q1 := bel_alloc w (.cells #[] 3)
    have q2 := bel_alloc (w.alloc (.cells #[] 3)) (.cells #[] 36)
    have o1 := (ow_empty 3 w).own
    have o2 := (ow_empty 36 (w.alloc (.cells #[] 3))).own
    rw [z1] at o2
    have := from_any mo n mc R _ (hM.at q1) (by omega) _ (Nat.le_refl _) n 0 [] (by omega) (some ⟨w.heap.size, 0, none⟩) 0 0 (some ⟨w.heap.size + 1, 0, none⟩) 0 0 [] [] ((w.alloc (.cells #[] 3)).alloc (.cells #[] 36)) q2 q2.size rfl (OI.at ⟨_, o1⟩ q2) ⟨rfl, rfl, by rw [z1]; exact o2, fun i hi => by simp at hi⟩ ⟨fun _ => rfl, fun j x hj => by simp at hj, by simp, by simp, by omega⟩ (by have := ds_len hn R; unfold DS at this; simp; omega)
    refine this.mono fun e w' ⟨yo, yk, yc, h1, ⟨vs, h2⟩, h3⟩ => ?_
    rw [List.nil_append] at h2
    have hk : yk = (DS n R).length := h2.nn
    subst hk
    refine ⟨yo, yc, h1, h2.rr fun x hx => ?_, q1.trans ((q2.trans (h3.below)).mono q1.size)⟩
    rw [← ds_els (by omega : n ≤ 64) R hx]
    exact els_len _)
  obtain ⟨q, hq⟩ : ∃ q, q = (DS n R).length := ⟨_, rfl⟩
  rw [← hq] at H ⊢
  clear hM hn hq
  go_enter Tryd.func35, Tryd.ntmps35
  go_wp2_with (go_at_call 66; ((with_reducible refine (H.out).mono ?_); (rintro ee w7 ⟨vo, vc, rfl, h1, h2⟩; have H7 := hid_of h1; have X7 := hid_of h2; clear h1 h2)))
  go_ret
  exact ⟨vo, vc, rfl, H7.out, X7.out⟩

set_option maxRecDepth 100000 in
set_option maxHeartbeats 3200000 in
theorem orderDownsets_law (n : Int) (ao : Option Addr) (m cap : Nat) (lim : Int) (ps : List Tk) (w : World) (hT : Tb w) (hp : TIn w ao m cap ps) :
    Calls Tryd.prog 12 #[.int .i64 n, .slice ao m cap, .int .i64 lim] w fun e w' => e = .returned (.bool true) ∧ Below w.heap.size w w' := by
  have HP := hid_of hp.1
  have HT := hid_of hT
  have HA := hid_of (awake_any w hT)
  obtain ⟨E, hE⟩ : ∃ E, E = errE n ps := ⟨_, rfl⟩
  have HF : Hid (∀ wx, TRd wx (.slice ao m cap) ps → Calls Tryd.prog 22 #[.int .i64 n, .slice ao m cap] wx fun e w' => e = .returned (.int .i64 E) ∧ Below wx.heap.size wx w') := hid_of (fun wx h => by rw [hE]; exact fault_any n ao m cap ps wx h)
  by_cases h12 : 12 < n
  · have d1 : decide (n > 12) = true := by simpa using h12
    clear hT hp hE h12
    go_enter Tryd.func12, Tryd.ntmps12
    go_wp2_with (go_at_call 13; ((with_reducible refine (HA.out).mono ?_); (rintro ee w1 ⟨rfl, h1⟩; have BA := hid_of h1; clear h1)))
    go_ret
    exact ⟨rfl, BA.out⟩
  have d1 : decide (n > 12) = false := by simp; omega
  by_cases hl1 : lim < 1
  · have d2 : decide (lim < 1) = true := by simpa using hl1
    clear hT hp hE h12 hl1
    go_enter Tryd.func12, Tryd.ntmps12
    go_wp2_with (go_at_call 13; ((with_reducible refine (HA.out).mono ?_); (rintro ee w1 ⟨rfl, h1⟩; have BA := hid_of h1; clear h1)))
    go_ret
    exact ⟨rfl, BA.out⟩
  have d2 : decide (lim < 1) = false := by simp; omega
  by_cases h0 : E = 0
  · subst h0
    have hC := err_chk hE.symm
    obtain ⟨k, rfl, hk⟩ := chk_nat hC
    have hk12 : k ≤ 12 := by omega
    obtain ⟨S, hS⟩ : ∃ S, S = DS k (bm (clo k ps)) := ⟨_, rfl⟩
    have G3 : Hid (∀ wx, TRd wx (.slice ao m cap) ps → Tb wx → Calls Tryd.prog 29 #[.int .i64 k, .slice ao m cap, .int .i64 lim] wx fun e w' => ((S.length : Int) ≤ lim → ∃ ao cap, e = .returned (.tuple #[.slice ao S.length cap, .int .i64 0]) ∧ RR w' ao S) ∧ (¬ (S.length : Int) ≤ lim → e = .returned (.tuple #[.slice none 0 0, .int .i64 6])) ∧ Below wx.heap.size wx w') := hid_of (fun wx h ht => by
      rw [hS]
      refine (downsetsF_any k lim ao m cap ps wx h ht hE.symm hk12 (by omega)).mono fun e w' ⟨h1, h2⟩ => ?_
      rcases h1 with ⟨q1, lo, lb, yo, yc, q2, vals, q3⟩ | ⟨q1, q2⟩
      · exact ⟨fun _ => ⟨yo, yc, q2, q3.rr fun x hx => ds_els (by omega) _ hx⟩, fun hn => absurd q1 hn, h2⟩
      · exact ⟨fun hn => absurd hn q1, fun _ => q2, h2⟩)
    have G5 : Hid (∀ wx, TRd wx (.slice ao m cap) ps → Calls Tryd.prog 18 #[.int .i64 k, .slice ao m cap] wx fun e w' => ∃ xo xc, e = .returned (.slice xo k xc) ∧ RdG w' (.slice xo k xc) k (bm (clo k ps)) ∧ Below wx.heap.size wx w') := hid_of (fun wx h => less_any k hk ao m cap ps wx h hC)
    have G6 : Hid (∀ xo xc wx, RdG wx (.slice xo k xc) k (bm (clo k ps)) → Calls Tryd.prog 35 #[.slice xo k xc] wx fun e w' => ∃ yo yc, e = .returned (.slice yo S.length yc) ∧ RR w' yo S ∧ Below wx.heap.size wx w') := hid_of (fun xo xc wx hr => by rw [hS]; exact rdownsets_any xo k xc _ wx hr hk12)
    have HSL : Hid (S.length ≤ 4096) := hid_of (by rw [hS]; exact ds_len hk12 _)
    obtain ⟨M, hM⟩ : ∃ M, M = bm (clo k ps) := ⟨_, rfl⟩
    rw [← hM] at G5 G6
    obtain ⟨q, hq⟩ : ∃ q, q = S.length := ⟨_, rfl⟩
    rw [← hq] at G3 G6 HSL
    have HQ := hid_of hq
    clear hT hp hE hC hS hM h12 hl1 hk12 hk hq
    by_cases hle : (q : Int) ≤ lim
    · have d3 : decide ((q : Int) > lim) = false := by simp; omega
      have HLE := hid_of hle
      clear hle
      go_enter Tryd.func12, Tryd.ntmps12
      go_wp2_with (first
        | (go_at_call 13; ((with_reducible refine (HA.out).mono ?_); (rintro ee w1 ⟨rfl, h1⟩; replace HP := hid_of (HP.out.at h1); replace HT := hid_of (HT.out.at h1); have BA := hid_of h1; clear h1)))
        | (go_at_call 22; ((with_reducible refine (HF.out _ HP.out).mono ?_); (rintro ee w2 ⟨rfl, h1⟩; replace HP := hid_of (HP.out.at h1); replace HT := hid_of (HT.out.at h1); replace BA := hid_of (BA.out.trans (h1.mono BA.out.size)); clear h1)))
        | (go_at_call 18; ((with_reducible refine (G5.out _ HP.out).mono ?_); (rintro ee w6 ⟨mo, mc, rfl, h2, h1⟩; have M6 := hid_of h2; replace HP := hid_of (HP.out.at h1); replace HT := hid_of (HT.out.at h1); replace BA := hid_of (BA.out.trans (h1.mono BA.out.size)); clear h1 h2)))
        | (go_at_call 35; ((with_reducible refine (G6.out _ _ _ M6.out).mono ?_); (rintro ee w7 ⟨yo, yc, rfl, h2, h1⟩; have Y7 := hid_of h2; replace HP := hid_of (HP.out.at h1); replace HT := hid_of (HT.out.at h1); replace BA := hid_of (BA.out.trans (h1.mono BA.out.size)); clear h1 h2)))
        | (go_at_call 29; ((with_reducible refine (G3.out _ HP.out HT.out).mono ?_); (rintro ee w8 ⟨h1, -, h3⟩; obtain ⟨xo, xc, rfl, h2⟩ := h1 HLE.out; have X8 := hid_of h2; replace Y7 := hid_of (Y7.out.at h3); replace BA := hid_of (BA.out.trans (h3.mono BA.out.size)); clear h1 h2 h3))))
      go_loopw [10] (fun iv wr => ∃ i : Nat, i ≤ q ∧ iv = .int .i64 i ∧ Hid (RR wr xo S ∧ RR wr yo S ∧ Below w.heap.size w wr)) (fun iv _ => q - (intOf iv).toNat)
      case atStart => exact ⟨0, Nat.zero_le _, rfl, hid_of ⟨X8.out, Y7.out, BA.out⟩⟩
      case round =>
        obtain ⟨i, hi, rfl, hs⟩ := hrel
        have HR := hid_of hs.out
        clear hs X8 Y7 BA
        by_cases hlt : i < q
        · have hiS : i < S.length := by have := HQ.out; omega
          obtain ⟨gx, ro, rc, rfl, hgx, cx, rx⟩ := HR.out.1 i hiS
          obtain ⟨gy, to, tc, rfl, hgy, cy, ry⟩ := HR.out.2.1 i hiS
          obtain ⟨z, hz⟩ : ∃ z, z = (S.getD i []).length := ⟨_, rfl⟩
          rw [← hz] at cx rx cy ry
          have b1 : (i : Int) < (q : Int) := by omega
          have b0 : (0 : Int) ≤ (i : Int) := by omega
          have b9 : i ≤ 4096 := by have := HSL.out; omega
          have BD := hid_of (Below.refl wr.heap.size wr).drew
          have cxd := (BD.out.cell (p := ⟨gx, i, none⟩) hgx).trans cx
          have cyd := (BD.out.cell (p := ⟨gy, i, none⟩) hgy).trans cy
          have CX := hid_of (fun (W : World) (hb : Below wr.heap.size wr W) => (hb.cell (p := ⟨gx, i, none⟩) hgx).trans cx)
          have CY := hid_of (fun (W : World) (hb : Below wr.heap.size wr W) => (hb.cell (p := ⟨gy, i, none⟩) hgy).trans cy)
          have SM : Hid (Calls Tryd.prog 31 #[.slice ro z rc, .slice to z tc] wr.drew fun e w' => e = .returned (.bool true) ∧ Below wr.heap.size wr w') := hid_of (by
            have := same_any ro to z rc z tc _ _ wr.drew (rx.at BD.out) (ry.at BD.out)
            rw [decide_eq_true rfl] at this
            exact this.mono fun e w' ⟨h1, h2⟩ => ⟨h1, BD.out.trans (h2.mono BD.out.size)⟩)
          clear cx cy rx ry hz hiS hgx hgy
          go_wp2
          go_region_held_law (fun W => W.cell? ⟨gx, i, none⟩ = some (.slice ro z rc) ∧ W.cell? ⟨gy, i, none⟩ = some (.slice to z tc)) (first | exact ⟨cxd, cyd⟩ | exact ⟨cxe, cye⟩) ((go_at_call 31; ((with_reducible refine (SM.out).mono ?_); (rintro ee w9 ⟨rfl, h1⟩; have B9 := hid_of h1; have cxe := CX.out w9 h1; have cye := CY.out w9 h1; clear h1))))
          all_goals go_wp2
          all_goals go_roundw
          case rel => exact ⟨i + 1, by omega, by go_num, hid_of ⟨HR.out.1.at B9.out, HR.out.2.1.at B9.out, HR.out.2.2.trans (B9.out.mono HR.out.2.2.size)⟩⟩
          case measure => simp [intOf]; omega
        · obtain rfl : i = q := by omega
          go_wp2
          go_ret
          exact ⟨rfl, HR.out.2.2⟩
    · have d3 : decide ((q : Int) > lim) = true := by simp; omega
      have HLE := hid_of hle
      clear hle
      go_enter Tryd.func12, Tryd.ntmps12
      go_wp2_with (first
        | (go_at_call 13; ((with_reducible refine (HA.out).mono ?_); (rintro ee w1 ⟨rfl, h1⟩; replace HP := hid_of (HP.out.at h1); replace HT := hid_of (HT.out.at h1); have BA := hid_of h1; clear h1)))
        | (go_at_call 22; ((with_reducible refine (HF.out _ HP.out).mono ?_); (rintro ee w2 ⟨rfl, h1⟩; replace HP := hid_of (HP.out.at h1); replace HT := hid_of (HT.out.at h1); replace BA := hid_of (BA.out.trans (h1.mono BA.out.size)); clear h1)))
        | (go_at_call 18; ((with_reducible refine (G5.out _ HP.out).mono ?_); (rintro ee w6 ⟨mo, mc, rfl, h2, h1⟩; have M6 := hid_of h2; replace HP := hid_of (HP.out.at h1); replace HT := hid_of (HT.out.at h1); replace BA := hid_of (BA.out.trans (h1.mono BA.out.size)); clear h1 h2)))
        | (go_at_call 35; ((with_reducible refine (G6.out _ _ _ M6.out).mono ?_); (rintro ee w7 ⟨yo, yc, rfl, h2, h1⟩; have Y7 := hid_of h2; replace HP := hid_of (HP.out.at h1); replace HT := hid_of (HT.out.at h1); replace BA := hid_of (BA.out.trans (h1.mono BA.out.size)); clear h1 h2)))
        | (go_at_call 29; ((with_reducible refine (G3.out _ HP.out HT.out).mono ?_); (rintro ee w8 ⟨-, h1, h3⟩; obtain rfl := h1 (by have := HLE.out; omega); replace BA := hid_of (BA.out.trans (h3.mono BA.out.size)); clear h1 h3))))
      go_ret
      exact ⟨by simp, BA.out⟩
  · have hd : (E != 0) = true := by simpa using h0
    clear hT hp hE h0 h12 hl1
    go_enter Tryd.func12, Tryd.ntmps12
    go_wp2_with (first
      | (go_at_call 13; ((with_reducible refine (HA.out).mono ?_); (rintro ee w1 ⟨rfl, h1⟩; replace HP := hid_of (HP.out.at h1); have BA := hid_of h1; clear h1)))
      | (go_at_call 22; ((with_reducible refine (HF.out _ HP.out).mono ?_); (rintro ee w2 ⟨rfl, h1⟩; replace HP := hid_of (HP.out.at h1); replace BA := hid_of (BA.out.trans (h1.mono BA.out.size)); clear h1))))
    go_ret
    exact ⟨rfl, BA.out⟩
end Go.Proofs.YtjfjcgbdpjpodaaDoor
