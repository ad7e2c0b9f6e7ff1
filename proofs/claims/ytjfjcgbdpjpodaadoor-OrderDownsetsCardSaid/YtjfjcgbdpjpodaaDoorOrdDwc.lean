/- Downsets of package order. Bounds on sizes alone. -/
import Derived.Test.YtjfjcgbdpjpodaaDoorOrdDwf
namespace Go.Proofs.YtjfjcgbdpjpodaaDoor
open Go.RowKit

/-- The first visit's start. -/
theorem cn_start {w w2 : World} {lb : Nat} {lim : Int} (hl : w.heap[lb]? = some (.cells #[.int .i64 lim] 3 (0, 0))) (hb : Below w.heap.size w w2) :
    CN w2.heap.size lb lim [] ((w2.alloc (.cells #[.int .i64 0] 3)).alloc (.cells #[.int .i64 0] 3)) := by
  have hw := lt_of_block hl
  have hs := hb.size
  have q1 := bel_alloc w2 (.cells #[.int .i64 0] 3)
  have q2 := bel_alloc (w2.alloc (.cells #[.int .i64 0] 3)) (.cells #[.int .i64 0] 3)
  have z1 : (w2.alloc (.cells #[.int .i64 0] 3)).heap.size = w2.heap.size + 1 := by simp
  refine ⟨(q2.block _ (by omega)).trans (heap_alloc_new w2 _), ⟨0, by omega, ?_⟩, blk_cell (cs := [.int .i64 lim]) ((q2.block _ (by omega)).trans ((q1.block _ (by omega)).trans ((hb.block _ hw).trans hl))) rfl⟩
  have := heap_alloc_new (w2.alloc (.cells #[.int .i64 0] 3)) (.cells #[.int .i64 0] 3)
  rw [z1] at this
  exact this
theorem gl_start {w w2 : World} {k : Nat} (_hb : Below w.heap.size w w2) (ho : w2.ownsRow w.heap.size 36 1 (.slice (some ⟨w.heap.size, 0, none⟩) 0 k) 0 []) :
    GX w.heap.size w2.heap.size [] (w2.alloc (.cells #[.slice (some ⟨w.heap.size, 0, none⟩) 0 k] 39)) :=
  ⟨_, k, [], rfl, heap_alloc_new w2 _, own_same ho fun j hj => (bel_alloc w2 _).block j (ho.lt j hj).2, fun i hi => by simp at hi⟩

set_option maxRecDepth 100000 in
set_option maxHeartbeats 3200000 in
theorem downsetsF_any (n : Nat) (lim : Int) (ao : Option Addr) (m cap : Nat) (ps : List Tk) (w : World) (h : TRd w (.slice ao m cap) ps) (hT : Tb w) (hE : errE n ps = 0) (hn : n ≤ 12) (hl : 1 ≤ lim) :
    Calls Tryd.prog 29 #[.int .i64 n, .slice ao m cap, .int .i64 lim] w fun e w' =>
      (((DS n (bm (clo n ps))).length : Int) ≤ lim ∧ (∃ lo lb ao cap, e = .returned (.tuple #[.slice ao (DS n (bm (clo n ps))).length cap, .int .i64 0]) ∧ ∃ vals, GL lo lb ((DS n (bm (clo n ps))).map msk) ao cap vals w') ∨ ¬ ((DS n (bm (clo n ps))).length : Int) ≤ lim ∧ e = .returned (.tuple #[.slice none 0 0, .int .i64 6])) ∧ Below w.heap.size w w' := by
  have hC := err_chk hE
  have hv := chk_valid hC
  have hSO := so_clo (by omega) hv (err_acyc hE)
  obtain ⟨A, hA⟩ : ∃ A, A = clo n ps := ⟨_, rfl⟩
  obtain ⟨B, hB⟩ : ∃ B, B = bef n (clo n ps) := ⟨_, rfl⟩
  have hAm : ∀ i, A i < M64 := fun i => by rw [hA]; exact (bd_clo (by omega) hv).m64 (by omega) i
  have hBm : ∀ i, B i < M64 := fun i => by rw [hB]; exact bef_m64 (by omega) _ i
  have hEX : ext A B 64 0 0 (allS n) = (DS n (bm (clo n ps))).map msk := ext_ds (by omega) hAm hBm hSO (fun e _ y => by rw [hA]; rfl) (fun e he y => by
    rw [hB, bef_b (by omega) _ (by omega)]
    cases hb : (clo n ps y).testBit e
    · rw [Bool.and_false]; exact hb.symm
    · rw [decide_eq_true (hSO.lt y e hb).1]; exact hb.symm)
  obtain ⟨L, hL⟩ : ∃ L, L = (DS n (bm (clo n ps))).map msk := ⟨_, rfl⟩
  have hLl : L.length = (DS n (bm (clo n ps))).length := by rw [hL, List.length_map]
  have hL4 : L.length ≤ 4096 := by rw [hLl]; exact ds_len hn _
  rw [← hLl, ← hL]
  rw [← hL] at hEX
  have hCH : Hid (∀ wx, TRd wx (.slice ao m cap) ps → Calls Tryd.prog 15 #[.int .i64 n, .slice ao m cap] wx fun e w' => e = .returned (.int .i64 0) ∧ Below wx.heap.size wx w') := hid_of (fun wx hx => by have := check_any n ao m cap ps wx hx; rw [hC] at this; exact this)
  have HOF : Hid (∀ wx, TRd wx (.slice ao m cap) ps → Tb wx → Calls Tryd.prog 41 #[.int .i64 n, .slice ao m cap] wx fun e w' => ∃ b, e = .returned (.tuple #[.pointer (some ⟨b, 0, none⟩), .int .i64 0]) ∧ RL w' b n A B ∧ Below wx.heap.size wx w') := hid_of (fun wx hx ht => by
    rw [hA, hB]; exact (orderOf_any n ao m cap ps wx hx ht hE).mono fun e w' ⟨b, h1, _, h3, h4⟩ => ⟨b, h1, h3, h4⟩)
  have HD1 : Hid (∀ (b lb : Nat) (w0 w2 : World), RL w2 b n A B → Tb w2 → w0.heap[lb]? = some (.cells #[.int .i64 lim] 3 (0, 0)) → Below w0.heap.size w0 w2 → Calls Tryd.prog 57 #[.pointer (some ⟨b, 0, none⟩), .func (.func 58) #[] #[.pointer (some ⟨w2.heap.size, 0, none⟩), .pointer (some ⟨w2.heap.size + 1, 0, none⟩), .pointer (some ⟨lb, 0, none⟩)]] ((w2.alloc (.cells #[.int .i64 0] 3)).alloc (.cells #[.int .i64 0] 3)) fun e w' => e = .returned (.bool (decide ((L.length : Int) ≤ lim))) ∧ ((L.length : Int) ≤ lim → w'.cell? ⟨w2.heap.size, 0, none⟩ = some (.int .i64 L.length)) ∧ Below w2.heap.size w2 w') := hid_of (fun b lb w0 w2 hr ht hl0 hb0 => by
    have q1 := bel_alloc w2 (.cells #[.int .i64 0] 3)
    have q2 := q1.trans ((bel_alloc (w2.alloc (.cells #[.int .i64 0] 3)) (.cells #[.int .i64 0] 3)).mono q1.size)
    have hlb : lb < w2.heap.size := Nat.lt_of_lt_of_le (lt_of_block hl0) hb0.size
    have := dws_any b n 58 w2.heap.size 5000 (fun k => k = w2.heap.size ∨ k = w2.heap.size + 1) #[.pointer (some ⟨w2.heap.size, 0, none⟩), .pointer (some ⟨w2.heap.size + 1, 0, none⟩), .pointer (some ⟨lb, 0, none⟩)] A B (fun _ _ => rfl) hAm hBm (okc lim) (fun d wx => CN w2.heap.size lb lim d wx) _ (hr.at q2) (by omega) hr.lt q2.size (ht.at q2) (by intro k hk; simp; omega) (fun d wx wy hx hb => hx.at hb) (cn_start hl0 hb0)
      (fun d c wx hd _ hx _ _ => vis1_any w2.heap.size lb c lim d wx hx (by omega) hlb) (by rw [hEX]; omega)
    rw [hEX] at this
    refine this.mono fun e w' ⟨h1, h2, h3⟩ => ?_
    have hp := prc_lim lim L [] (by simp; omega)
    rw [List.length_nil, Nat.zero_add] at hp
    rw [hp] at h1
    refine ⟨h1, fun hle => ?_, q2.trans (h3.below.mono (Nat.le_refl _))⟩
    have h4 := prc_true (okc lim) L [] (by rw [hp]; exact decide_eq_true hle)
    rw [h4, List.nil_append] at h2
    exact blk_cell (cs := [.int .i64 (L.length : Int)]) h2.c rfl)
  have HD2 : Hid (∀ (b : Nat) (w5 w6 : World) (k : Nat), RL w5 b n A B → Tb w5 → Below w5.heap.size w5 w6 → w6.ownsRow w5.heap.size 36 1 (.slice (some ⟨w5.heap.size, 0, none⟩) 0 k) 0 [] → Calls Tryd.prog 57 #[.pointer (some ⟨b, 0, none⟩), .func (.func 60) #[] #[.pointer (some ⟨w6.heap.size, 0, none⟩)]] (w6.alloc (.cells #[.slice (some ⟨w5.heap.size, 0, none⟩) 0 k] 39)) fun e w' => e = .returned (.bool true) ∧ GX w5.heap.size w6.heap.size L w' ∧ Below w5.heap.size w5 w') := hid_of (fun b w5 w6 k hr ht hb ho => by
    have q1 := bel_alloc w6 (.cells #[.slice (some ⟨w5.heap.size, 0, none⟩) 0 k] 39)
    have q2 := hb.trans (q1.mono hb.size)
    have := dws_any b n 60 w5.heap.size 5000 (fun k => k = w6.heap.size) #[.pointer (some ⟨w6.heap.size, 0, none⟩)] A B (fun _ _ => rfl) hAm hBm (fun _ => true) (fun d wx => GX w5.heap.size w6.heap.size d wx) _ (hr.at q2) (by omega) hr.lt q2.size (ht.at q2) (by intro k hk; simp; omega) (fun d wx wy hx hb => hx.at hb) (gl_start hb ho)
      (fun d c wx hd hc hx ht _ => vis2_any w6.heap.size w5.heap.size c d wx hx hb.size hc (by omega) ht) (by rw [hEX]; omega)
    rw [hEX, prc_all] at this
    refine this.mono fun e w' ⟨h1, h2, h3⟩ => ⟨h1, by simpa using h2, q2.trans (h3.below.mono (Nat.le_refl _))⟩)
  obtain ⟨i0, hi, hz0, hz1, hz2⟩ := info_parts listsE.info
  have HH := hid_of h
  have HT := hid_of hT
  have dl : decide (lim < 1) = false := by simp; omega
  have HL4 := hid_of hL4
  obtain ⟨q, hq⟩ : ∃ q, q = L.length := ⟨_, rfl⟩
  rw [← hq] at HD1 HL4 ⊢
  obtain ⟨r, hr⟩ : ∃ r, r = decide ((q : Int) ≤ lim) := ⟨_, rfl⟩
  rw [← hr] at HD1
  have HR := hid_of hr
  have HQ := hid_of hq
  have HB0 := hid_of (bel_alloc w (.cells #[.int .i64 lim] 3))
  have HN0 := hid_of (heap_alloc_new w (.cells #[.int .i64 lim] 3))
  have CL : Hid (∀ W, Below (w.alloc (.cells #[.int .i64 lim] 3)).heap.size (w.alloc (.cells #[.int .i64 lim] 3)) W → W.heap[w.heap.size]? = some (.cells #[.int .i64 lim] 3 (0, 0)) ∧ W.cell? ⟨w.heap.size, 0, none⟩ = some (.int .i64 lim)) := hid_of (fun W hb => by
    have e := (hb.block w.heap.size (by simp)).trans HN0.out
    exact ⟨e, blk_cell (cs := [.int .i64 lim]) e rfl⟩)
  clear h hT hE hn hl hC hv hSO hA hB hAm hBm hEX hL hLl hL4 hq hr
  cases r
  · go_enter Tryd.func29, Tryd.ntmps29
    go_wp2_with (first
      | (go_at_call 15; ((with_reducible refine (hCH.out _ (HH.out.at HB0.out)).mono ?_); (rintro ee w1 ⟨rfl, h1⟩; have B1 := hid_of h1; have B1w := hid_of (HB0.out.trans (h1.mono HB0.out.size)); have c1 := (CL.out _ h1).2; clear h1)))
      | (go_at_call 41; ((with_reducible refine (HOF.out w1 (HH.out.at B1w.out) (HT.out.at B1w.out)).mono ?_); (rintro ee w2 ⟨b, rfl, h1, h2⟩; have R2 := hid_of h1; have B2 := hid_of (B1.out.trans (h2.mono B1.out.size)); have B2w := hid_of (B1w.out.trans (h2.mono B1w.out.size)); clear h1 h2)))
      | (go_at_call 57; (first
        | ((with_reducible refine (HD1.out b w.heap.size _ w2 R2.out (HT.out.at B2w.out) HN0.out B2.out).mono ?_); (rintro ee w5 ⟨rfl, h1, h2⟩; have K5 := hid_of h2; have C5 := hid_of h1; clear h1 h2))
        )))
    go_ret2
    exact ⟨.inr ⟨by have := HR.out; simpa using this.symm, rfl⟩, B2w.out.trans (K5.out.mono B2w.out.size)⟩
  · go_enter Tryd.func29, Tryd.ntmps29
    go_wp2_with (first
      | (go_at_call 15; ((with_reducible refine (hCH.out _ (HH.out.at HB0.out)).mono ?_); (rintro ee w1 ⟨rfl, h1⟩; have B1 := hid_of h1; have B1w := hid_of (HB0.out.trans (h1.mono HB0.out.size)); have c1 := (CL.out _ h1).2; clear h1)))
      | (go_at_call 41; ((with_reducible refine (HOF.out w1 (HH.out.at B1w.out) (HT.out.at B1w.out)).mono ?_); (rintro ee w2 ⟨b, rfl, h1, h2⟩; have R2 := hid_of h1; have B2 := hid_of (B1.out.trans (h2.mono B1.out.size)); have B2w := hid_of (B1w.out.trans (h2.mono B1w.out.size)); clear h1 h2)))
      | (go_at_call 57; (first
        | ((with_reducible refine (HD1.out b w.heap.size _ w2 R2.out (HT.out.at B2w.out) HN0.out B2.out).mono ?_); (rintro ee w5 ⟨rfl, h1, h2⟩; have K5 := hid_of h2; have C5 := hid_of h1; clear h1 h2; have c5 := C5.out (by have := HR.out; simpa using this.symm); have R5 := hid_of (R2.out.at K5.out); have T5 := hid_of (HT.out.at (B2w.out.trans (K5.out.mono B2w.out.size))); have B5w := hid_of (B2w.out.trans (K5.out.mono B2w.out.size))))
        | ((with_reducible refine (HD2.out b w5 w6 q R5.out T5.out HB6.out HO6.out).mono ?_); (rintro ee w8 ⟨rfl, h1, h2⟩; have B8 := hid_of h2; obtain ⟨yo, yc, vals, hg⟩ := h1; have G8 := hid_of hg; have c8 := blk_cell (cs := [.slice yo L.length yc]) hg.c (j := 0) rfl; rw [← HQ.out] at c8; clear hg h2))
        ))
      | (at_make; (refine wpList_make_own _ rfl _ _ 39 rfl w5.heap.size 36 i0 (.slice none 0 0) 1 Tryd.underlying39 hi hz0 hz1 .i64 .i64 _ q rfl rfl rfl (by rw [hz2]; have := HL4.out; omega) (by unfold maxLen; have := HL4.out; omega) (Nat.le_refl _) ?_); intro w6 hown hgrow; have HO6 := hid_of hown; have HB6 : Hid (Below w5.heap.size w5 w6) := hid_of ((Below.refl _ _).grown hgrow (Nat.le_refl _) (fun k h => by cases h)); clear hown hgrow)
      )
    go_ret2
    exact ⟨.inl ⟨by have := HR.out; simpa using this.symm, _, _, yo, yc, rfl, vals, G8.out⟩, B5w.out.trans (B8.out.mono B5w.out.size)⟩
end Go.Proofs.YtjfjcgbdpjpodaaDoor
