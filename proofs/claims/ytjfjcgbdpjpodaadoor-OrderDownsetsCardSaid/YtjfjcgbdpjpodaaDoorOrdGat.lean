/- The gathering visit of Downsets. Bounds on sizes alone. -/
import Derived.Test.YtjfjcgbdpjpodaaDoorOrdVis
import Derived.Maps.AppendAt
import Derived.Deep.RegionWith
namespace Go.Proofs.YtjfjcgbdpjpodaaDoor
open Go.RowKit

theorem listsE : Elem Tryd.prog 39 36 (.slice none 0 0) 24 := ⟨Tryd.underlying39, by kernel_rfl, rfl⟩
theorem own_blk {W : World} {B e n k : Nat} {v : Value} {xs : List Value} (ho : W.ownsRow B e 1 v n xs) (hk : v.ownBlock = some k) : ∃ cur, W.heap[k]? = some (.cells cur e (0, 0)) := by
  rcases ho.2 with ⟨e, _⟩ | ⟨q, cap, cur, e, _, h2, _⟩
  · rw [e] at hk; cases hk
  · rw [e] at hk
    simp only [Value.ownBlock, Option.some.injEq] at hk
    subst hk
    exact ⟨_, h2⟩
theorem own_type {W : World} {B B2 e e2 n n2 k : Nat} {v v2 : Value} {xs xs2 : List Value} (ho : W.ownsRow B e 1 v n xs) (hk : v.ownBlock = some k) (ho2 : W.ownsRow B2 e2 1 v2 n2 xs2) (he : e ≠ e2) : v2.ownBlock ≠ some k := by
  intro h
  obtain ⟨c1, h1⟩ := own_blk ho hk
  obtain ⟨c2, h2⟩ := own_blk ho2 h
  rw [h1] at h2
  simp only [Option.some.injEq, Obj.cells.injEq] at h2
  exact he h2.2.1

/-- What the gathering visit holds: the rows, each of its own, in a row of its own in the variable in block lb. -/
structure GL (lo lb : Nat) (d : List Nat) (ao : Option Addr) (cap : Nat) (vals : List Value) (wx : World) : Prop where
  len : vals.length = d.length
  c : wx.heap[lb]? = some (.cells #[.slice ao d.length cap] 39 (0, 0))
  row : wx.ownsRow lo 36 1 (.slice ao d.length cap) d.length vals
  each : ∀ i, i < d.length → ∃ xo xc B, vals[i]? = some (.slice xo (els (d.getD i 0)).length xc) ∧ wx.ownsRow B 3 1 (.slice xo (els (d.getD i 0)).length xc) (els (d.getD i 0)).length (is (nI (els (d.getD i 0))))
def GX (lo lb : Nat) (d : List Nat) (wx : World) : Prop := ∃ ao cap vals, GL lo lb d ao cap vals wx
theorem GL.same {lo lb : Nat} {d : List Nat} {ao : Option Addr} {cap : Nat} {vals : List Value} {wx wy : World} (h : GL lo lb d ao cap vals wx) (hs : ∀ k, k < wx.heap.size → wy.heap[k]? = wx.heap[k]?) : GL lo lb d ao cap vals wy :=
  ⟨h.len, (hs _ (lt_of_block h.c)).trans h.c, own_same h.row fun k hk => hs k (h.row.lt k hk).2, fun i hi => by
    obtain ⟨xo, xc, B, h1, h2⟩ := h.each i hi
    exact ⟨xo, xc, B, h1, own_same h2 fun k hk => hs k (h2.lt k hk).2⟩⟩
theorem GX.at {lo lb : Nat} {d : List Nat} {wx wy : World} (h : GX lo lb d wx) (hb : Below wx.heap.size wx wy) : GX lo lb d wy := by
  obtain ⟨ao, cap, vals, h⟩ := h
  exact ⟨ao, cap, vals, h.same fun k hk => hb.block k hk⟩
theorem gl_app {lo lb cap n2 : Nat} {d : List Nat} {c : Nat} {ao a2 xo : Option Addr} {xc B c2 : Nat} {vals : List Value} {w W2 W3 : World} (h : GL lo lb d ao cap vals w) (hlo : lo ≤ lb) (hb : Below w.heap.size w W2)
    (hx : W2.ownsRow B 3 1 (.slice xo (els c).length xc) (els c).length (is (nI (els c)))) (hn : n2 = d.length + 1) (ho : W3.ownsRow lo 36 1 (.slice a2 n2 c2) n2 (vals ++ [.slice xo (els c).length xc]))
    (hg : W2.grownBy W3 (Value.slice ao d.length cap).ownBlock) : GL lo lb (d ++ [c]) a2 c2 (vals ++ [.slice xo (els c).length xc]) (W3.setCell ⟨lb, 0, none⟩ (.slice a2 n2 c2)) ∧ KX lo (fun k => k = lb) w (W3.setCell ⟨lb, 0, none⟩ (.slice a2 n2 c2)) := by
  subst hn
  have h2 := h.same (wy := W2) fun k hk => hb.block k hk
  have hlb := lt_of_block h2.c
  have hne : ∀ k, (Value.slice ao d.length cap).ownBlock = some k → k ≠ lb := fun k hk e => by
    obtain ⟨cur, hc⟩ := own_blk h2.row hk
    rw [e, h2.c] at hc
    simp only [Option.some.injEq, Obj.cells.injEq] at hc
    exact absurd hc.2.1 (by decide)
  have h3 : W3.heap[lb]? = some (.cells #[.slice ao d.length cap] 39 (0, 0)) := (hg.block lb hlb (fun e => hne _ e.symm rfl)).trans h2.c
  have hset : ∀ k, k ≠ lb → (W3.setCell ⟨lb, 0, none⟩ (.slice a2 (d.length + 1) c2)).heap[k]? = W3.heap[k]? := fun k hk => Below.heap_setCell _ _ _ _ hk
  have hint : ∀ (B' n : Nat) (v : Value) (xs : List Value), W2.ownsRow B' 3 1 v n xs → (W3.setCell ⟨lb, 0, none⟩ (.slice a2 (d.length + 1) c2)).ownsRow B' 3 1 v n xs := fun B' n v xs hv => own_same hv fun k hk => by
    have hkl : k ≠ lb := fun e => by
      obtain ⟨cur, hc⟩ := own_blk hv hk
      rw [e, h2.c] at hc
      simp only [Option.some.injEq, Obj.cells.injEq] at hc
      exact absurd hc.2.1 (by decide)
    rw [hset k hkl]
    exact hg.block k (hv.lt k hk).2 (fun e => own_type hv hk h2.row (by decide) e.symm)
  refine ⟨⟨by simp [h.len], ?_, ?_, fun i hi => ?_⟩, ?_⟩
  · have := blk_setCell (k := 0) (u := .slice a2 (d.length + 1) c2) (cur := [.slice ao d.length cap]) h3
    rw [List.length_append, List.length_singleton]
    exact this
  · rw [List.length_append, List.length_singleton]
    refine own_same ho fun k hk => hset k fun e => ?_
    obtain ⟨cur, hc⟩ := own_blk ho hk
    rw [e, h3] at hc
    simp only [Option.some.injEq, Obj.cells.injEq] at hc
    exact absurd hc.2.1 (by decide)
  · rw [List.length_append, List.length_singleton] at hi
    by_cases e : i < d.length
    · obtain ⟨xo', xc', B', q1, q2⟩ := h2.each i e
      rw [show (d ++ [c]).getD i 0 = d.getD i 0 by simp [List.getD, List.getElem?_append_left e]]
      exact ⟨xo', xc', B', by rw [List.getElem?_append_left (by rw [h.len]; exact e)]; exact q1, hint _ _ _ _ q2⟩
    · have e3 : i = d.length := by omega
      rw [show (d ++ [c]).getD i 0 = c by rw [e3]; simp [List.getD]]
      exact ⟨xo, xc, B, by rw [e3, ← h.len]; simp, hint _ _ _ _ hx⟩
  · refine ⟨hg.os.trans hb.os, hg.tape.trans hb.tape, hg.output.trans hb.output, ?_, fun k hk => ?_, fun k hk hs ht => ?_⟩
    · have := hg.size; have := hb.size; simp; omega
    · have hw := lt_of_block h.c
      rw [hset k (by omega), hg.block k (by omega) (fun e => by have := (h2.row.lt k e.symm).1; omega)]
      exact hb.block k (by omega)
    · have hw := hb.size
      rw [hset k hs, hg.block k (by omega) (fun e => by
        obtain ⟨cur, hc⟩ := own_blk h.row e.symm
        exact ht cur hc)]
      exact hb.block k hk

set_option maxRecDepth 100000 in
set_option maxHeartbeats 1600000 in
theorem vis2_any (lb lo c : Nat) (d : List Nat) (w : World) (h : GX lo lb d w) (hlo : lo ≤ lb) (hc : c < M64) (hd : d.length < 10000) (hT : Tb w) :
    Calls Tryd.prog 60 #[.int .u64 c, .pointer (some ⟨lb, 0, none⟩)] w fun e w' => e = .returned (.bool true) ∧ GX lo lb (d ++ [c]) w' ∧ KX lo (fun k => k = lb) w w' := by
  obtain ⟨ao, cap, vals, h⟩ := h
  have HB0 : Hid (Below w.heap.size w w.drew) := hid_of (Below.refl _ _).drew
  have H := hid_of h
  have HL : Hid (Calls Tryd.prog 51 #[.int .u64 c] w.drew fun x w' => ∃ xo xc, x = .returned (.slice xo (els c).length xc) ∧ w'.ownsRow w.heap.size 3 1 (.slice xo (els c).length xc) (els c).length (is (nI (els c))) ∧ Below w.heap.size w w') := hid_of ((list_any c w.drew hc (hT.at HB0.out)).mono fun e w' ⟨xo, xc, h1, h2, h3⟩ => ⟨xo, xc, h1, h2, HB0.out.trans (h3.mono HB0.out.size)⟩)
  have CC : Hid (∀ W, Below w.heap.size w W → W.cell? ⟨lb, 0, none⟩ = some (.slice ao d.length cap)) := hid_of (fun W hb => blk_cell (cs := [.slice ao d.length cap]) (h.same (wy := W) fun k hk => hb.block k hk).c rfl)
  have HR : Hid (∀ W, Below w.heap.size w W → W.ownsRow lo 36 1 (.slice ao d.length cap) vals.length vals) := hid_of (fun W hb => by rw [h.len]; exact (h.same (wy := W) fun k hk => hb.block k hk).row)
  have HLN := hid_of h.len
  have HGA : Hid (∀ (w1 w3 : World) (xo a2 : Option Addr) (xc c2 n2 : Nat), w1.ownsRow w.heap.size 3 1 (.slice xo (els c).length xc) (els c).length (is (nI (els c))) → Below w.heap.size w (w1.alloc (.cells #[.slice xo (els c).length xc] 36)) → n2 = vals.length + 1 → w3.ownsRow lo 36 1 (.slice a2 n2 c2) n2 (vals ++ [.slice xo (els c).length xc]) → (w1.alloc (.cells #[.slice xo (els c).length xc] 36)).grownBy w3 (Value.slice ao d.length cap).ownBlock →
      (GX lo lb (d ++ [c]) (w3.setCell ⟨lb, 0, none⟩ (.slice a2 n2 c2)) ∧ KX lo (fun k => k = lb) w (w3.setCell ⟨lb, 0, none⟩ (.slice a2 n2 c2))) ∧ w3.cell? ⟨lb, 0, none⟩ = some (.slice ao d.length cap) ∧ w3.frozen? ⟨lb, 0, none⟩ = false) := hid_of (fun w1 w3 xo a2 xc c2 n2 h1 h2 h3 h4 h5 => by
    obtain ⟨q1, q2⟩ := gl_app h hlo h2 (own_same h1 fun k hk => (bel_alloc w1 _).block k (h1.lt k hk).2) (by rw [h3, h.len]) h4 h5
    have h3b : w3.heap[lb]? = some (.cells #[.slice ao d.length cap] 39 (0, 0)) := by
      have hc := (h.same fun k hk => h2.block k hk).c
      rw [h5.block lb (lt_of_block hc) (fun e => by
        obtain ⟨cur, hk⟩ := own_blk (h.same fun k hk => h2.block k hk).row e.symm
        rw [hc] at hk
        simp only [Option.some.injEq, Obj.cells.injEq] at hk
        exact absurd hk.2.1 (by decide))]
      exact hc
    exact ⟨⟨⟨_, _, _, q1⟩, q2⟩, blk_cell (cs := [.slice ao d.length cap]) h3b rfl, blk_free (cs := [.slice ao d.length cap]) h3b 0⟩)
  have HLB := hid_of (lt_of_block h.c)
  obtain ⟨i0, hi, hz0, hz1, hz2⟩ := info_parts listsE.info
  have c0 := CC.out _ HB0.out
  have HD := hid_of hd
  have HLO := hid_of hlo
  obtain ⟨m, hm⟩ : ∃ m, m = (els c).length := ⟨_, rfl⟩
  obtain ⟨n, hn⟩ : ∃ n, n = d.length := ⟨_, rfl⟩
  have HM := hid_of hm
  have HN := hid_of hn
  rw [← hm] at HL HGA
  rw [← hn] at CC HR c0 HGA
  clear h hlo hc hd hT hm hn
  go_enter Tryd.func60, Tryd.ntmps60
  go_wp2
  refine wp_region_any (by kernel_rfl) ?_
  change wpAny _ _ _ _ _ _ _ (World.drew _)
  refine wpAny_take (i := 1) (v := .int .u64 c) rfl (by kernel_rfl) (by kernel_rfl) (by kernel_rfl) (fun _ _ _ h => h) (Or.inl ⟨by rfl, by intro w; go_simp⟩) ?_
  refine wpAny_ready (rs := [0, 2]) (by kernel_rfl) (by simp) ?_
  refine AllReady.cons rfl (fun K hK => ?_) (AllReady.cons rfl (fun K hK => ?_) AllReady.nil)
  · go_simp
    refine hK _ _ ?_
    clear hK K
    refine wpAny_ready (rs := [2]) (by kernel_rfl) (by simp) ?_
    refine AllReady.cons rfl (fun K hK => ?_) AllReady.nil
    go_simp
    with_reducible refine (HL.out).mono ?_
    rintro ee w1 ⟨xo, xc, rfl, h1, h2⟩
    have O1 := hid_of h1
    have B2 : Hid (Below w.heap.size w (w1.alloc (.cells #[.slice xo m xc] 36))) := hid_of (h2.trans ((bel_alloc w1 _).mono h2.size))
    have c1 := CC.out _ h2
    have c2 := CC.out _ B2.out
    clear h1 h2
    refine hK _ _ ?_
    clear hK K
    refine wpAny_ready (rs := [3]) (by kernel_rfl) (by simp) ?_
    refine AllReady.cons rfl (fun K hK => ?_) AllReady.nil
    go_simp
    refine hK _ _ ?_
    clear hK K
    refine wpAny_ready (rs := [4]) (by kernel_rfl) (by simp) ?_
    refine AllReady.cons rfl (fun K hK => ?_) AllReady.nil
    refine step_append_src _ (by rfl) _ _ _ _ (by rfl) lo 36 i0 (.slice none 0 0) 1 24 Tryd.underlying39 hi hz0 hz1 hz2 rfl (by decide) (.slice ao n cap) vals.length vals (by rfl) (HR.out _ B2.out) _ 1 [.slice xo m xc] (by rfl) (Src.ofSlice _ Tryd.underlying39 ⟨w1.heap.size, 0, none⟩ 1 1 [.slice xo m xc] rfl (cell_one_new w1 _ _) (by intro v hv; rw [List.mem_singleton.1 hv]; rfl)) (by unfold maxLen; have := HLN.out; have := HD.out; omega) (by have := HLN.out; have := HD.out; omega) (by have := HLB.out; have := B2.out.size; have := HLO.out; omega) ?_
    intro v2 w3 hown hg _ _
    obtain ⟨a2, c2', rfl⟩ := own_shape hown
    have GG := hid_of (HGA.out w1 w3 xo a2 xc c2' (vals.length + 1) O1.out B2.out rfl hown hg)
    have c3 := GG.out.2.1
    have f3 := GG.out.2.2
    clear hown hg
    refine hK _ _ ?_
    clear hK K
    refine wpAny_ready (rs := [5]) (by kernel_rfl) (by simp) ?_
    refine AllReady.cons rfl (fun K hK => ?_) AllReady.nil
    go_simp
    refine hK _ _ ?_
    clear hK K
    refine wpAny_done (by kernel_rfl) ?_ _
    go_wp2
    go_ret
    exact ⟨rfl, GG.out.1⟩
  · go_simp
    with_reducible refine (HL.out).mono ?_
    rintro ee w1 ⟨xo, xc, rfl, h1, h2⟩
    have O1 := hid_of h1
    have B2 : Hid (Below w.heap.size w (w1.alloc (.cells #[.slice xo m xc] 36))) := hid_of (h2.trans ((bel_alloc w1 _).mono h2.size))
    have c1 := CC.out _ h2
    have c2 := CC.out _ B2.out
    clear h1 h2
    refine hK _ _ ?_
    clear hK K
    refine wpAny_ready (rs := [0, 3]) (by kernel_rfl) (by simp) ?_
    refine AllReady.cons rfl (fun K hK => ?_) (AllReady.cons rfl (fun K hK => ?_) AllReady.nil)
    · go_simp
      refine hK _ _ ?_
      clear hK K
      refine wpAny_ready (rs := [3]) (by kernel_rfl) (by simp) ?_
      refine AllReady.cons rfl (fun K hK => ?_) AllReady.nil
      go_simp
      refine hK _ _ ?_
      clear hK K
      refine wpAny_ready (rs := [4]) (by kernel_rfl) (by simp) ?_
      refine AllReady.cons rfl (fun K hK => ?_) AllReady.nil
      refine step_append_src _ (by rfl) _ _ _ _ (by rfl) lo 36 i0 (.slice none 0 0) 1 24 Tryd.underlying39 hi hz0 hz1 hz2 rfl (by decide) (.slice ao n cap) vals.length vals (by rfl) (HR.out _ B2.out) _ 1 [.slice xo m xc] (by rfl) (Src.ofSlice _ Tryd.underlying39 ⟨w1.heap.size, 0, none⟩ 1 1 [.slice xo m xc] rfl (cell_one_new w1 _ _) (by intro v hv; rw [List.mem_singleton.1 hv]; rfl)) (by unfold maxLen; have := HLN.out; have := HD.out; omega) (by have := HLN.out; have := HD.out; omega) (by have := HLB.out; have := B2.out.size; have := HLO.out; omega) ?_
      intro v2 w3 hown hg _ _
      obtain ⟨a2, c2', rfl⟩ := own_shape hown
      have GG := hid_of (HGA.out w1 w3 xo a2 xc c2' (vals.length + 1) O1.out B2.out rfl hown hg)
      have c3 := GG.out.2.1
      have f3 := GG.out.2.2
      clear hown hg
      refine hK _ _ ?_
      clear hK K
      refine wpAny_ready (rs := [5]) (by kernel_rfl) (by simp) ?_
      refine AllReady.cons rfl (fun K hK => ?_) AllReady.nil
      go_simp
      refine hK _ _ ?_
      clear hK K
      refine wpAny_done (by kernel_rfl) ?_ _
      go_wp2
      go_ret
      exact ⟨rfl, GG.out.1⟩
    · go_simp
      refine hK _ _ ?_
      clear hK K
      refine wpAny_ready (rs := [0]) (by kernel_rfl) (by simp) ?_
      refine AllReady.cons rfl (fun K hK => ?_) AllReady.nil
      go_simp
      refine hK _ _ ?_
      clear hK K
      refine wpAny_ready (rs := [4]) (by kernel_rfl) (by simp) ?_
      refine AllReady.cons rfl (fun K hK => ?_) AllReady.nil
      refine step_append_src _ (by rfl) _ _ _ _ (by rfl) lo 36 i0 (.slice none 0 0) 1 24 Tryd.underlying39 hi hz0 hz1 hz2 rfl (by decide) (.slice ao n cap) vals.length vals (by rfl) (HR.out _ B2.out) _ 1 [.slice xo m xc] (by rfl) (Src.ofSlice _ Tryd.underlying39 ⟨w1.heap.size, 0, none⟩ 1 1 [.slice xo m xc] rfl (cell_one_new w1 _ _) (by intro v hv; rw [List.mem_singleton.1 hv]; rfl)) (by unfold maxLen; have := HLN.out; have := HD.out; omega) (by have := HLN.out; have := HD.out; omega) (by have := HLB.out; have := B2.out.size; have := HLO.out; omega) ?_
      intro v2 w3 hown hg _ _
      obtain ⟨a2, c2', rfl⟩ := own_shape hown
      have GG := hid_of (HGA.out w1 w3 xo a2 xc c2' (vals.length + 1) O1.out B2.out rfl hown hg)
      have c3 := GG.out.2.1
      have f3 := GG.out.2.2
      clear hown hg
      refine hK _ _ ?_
      clear hK K
      refine wpAny_ready (rs := [5]) (by kernel_rfl) (by simp) ?_
      refine AllReady.cons rfl (fun K hK => ?_) AllReady.nil
      go_simp
      refine hK _ _ ?_
      clear hK K
      refine wpAny_done (by kernel_rfl) ?_ _
      go_wp2
      go_ret
      exact ⟨rfl, GG.out.1⟩
end Go.Proofs.YtjfjcgbdpjpodaaDoor
