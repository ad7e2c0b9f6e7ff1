/- The counting visit of Downsets. Bounds on sizes alone. -/
import Derived.Test.YtjfjcgbdpjpodaaDoorOrdDws
namespace Go.Proofs.YtjfjcgbdpjpodaaDoor
open Go.RowKit

/-- What the counting visit holds. -/
structure CN (cb lb : Nat) (lim : Int) (d : List Nat) (wx : World) : Prop where
  c : wx.heap[cb]? = some (.cells #[.int .i64 d.length] 3 (0, 0))
  i : ∃ t : Nat, t ≤ 127 * d.length ∧ wx.heap[cb + 1]? = some (.cells #[.int .i64 t] 3 (0, 0))
  l : wx.cell? ⟨lb, 0, none⟩ = some (.int .i64 lim)
theorem CN.at {cb lb : Nat} {lim : Int} {d : List Nat} {wx wy : World} (h : CN cb lb lim d wx) (hb : Below wx.heap.size wx wy) : CN cb lb lim d wy := by
  obtain ⟨h1, ⟨t, h2, h3⟩, h4⟩ := h
  exact ⟨(hb.block _ (lt_of_block h1)).trans h1, ⟨t, h2, (hb.block _ (lt_of_block h3)).trans h3⟩, (hb.cell (p := ⟨lb, 0, none⟩) (World.block_lt_of_cell? _ _ h4)).trans h4⟩
def okc (lim : Int) (d : List Nat) : Bool := decide ((d.length : Int) ≤ lim)
theorem kx_set {lo : Nat} {S : Nat → Prop} {w : World} {k : Nat} (v : Value) (hk : lo ≤ k) (hs : S k) : KX lo S w (w.setCell ⟨k, 0, none⟩ v) :=
  ⟨rfl, rfl, rfl, by simp, fun j hj => Below.heap_setCell _ _ _ _ (by show j ≠ k; omega), fun j _ hj _ => Below.heap_setCell _ _ _ _ (by rintro rfl; exact hj hs)⟩
theorem kx_drew {lo : Nat} {S : Nat → Prop} {w : World} (h : lo ≤ w.heap.size) : KX lo S w w.drew := KX.ofBelow (Below.refl _ _).drew h

set_option maxRecDepth 100000 in
set_option maxHeartbeats 1600000 in
theorem vis1_any (cb lb c : Nat) (lim : Int) (d : List Nat) (w : World) (h : CN cb lb lim d w) (hd : d.length < 10000) (hlb : lb < cb) :
    Calls Tryd.prog 58 #[.int .u64 c, .pointer (some ⟨cb, 0, none⟩), .pointer (some ⟨cb + 1, 0, none⟩), .pointer (some ⟨lb, 0, none⟩)] w fun e w' => e = .returned (.bool (okc lim (d ++ [c]))) ∧ CN cb lb lim (d ++ [c]) w' ∧ KX cb (fun k => k = cb ∨ k = cb + 1) w w' := by
  obtain ⟨t, ht, hi⟩ := h.i
  have c1 := blk_cell (cs := [.int .i64 (d.length : Int)]) h.c (j := 0) rfl
  have f1 := blk_free (cs := [.int .i64 (d.length : Int)]) h.c 0
  have c2 := blk_cell (cs := [.int .i64 (t : Int)]) hi (j := 0) rfl
  have f2 := blk_free (cs := [.int .i64 (t : Int)]) hi 0
  have c3 := h.l
  have HSZ := hid_of (fun wx => size_any (c : Int) wx)
  obtain ⟨k, hk⟩ : ∃ k, k = oc (c : Int) := ⟨_, rfl⟩
  have hk9 : k ≤ 127 := by rw [hk]; exact oc_le _
  rw [← hk] at HSZ
  obtain ⟨m, hm⟩ : ∃ m, m = d.length := ⟨_, rfl⟩
  have HM := hid_of hm
  have HH := hid_of h
  have HLB := hid_of hlb
  rw [← hm] at c1 ht hd
  obtain ⟨t2, ht2⟩ : ∃ t2, t2 = t + k := ⟨_, rfl⟩
  have s1 : IntKind.i64.wrap ((t : Int) + (k : Int)) = (t2 : Int) := by rw [IntWalk.i64_in _ (by omega)]; omega
  have HT2 : Hid (t2 ≤ 127 * (m + 1)) := hid_of (by omega)
  have b1 : (t2 : Int) ≤ 2147483647 := by omega
  have d1 : decide ((t2 : Int) ≤ 2147483647) = true := by simpa using b1
  have d2 : decide (t2 ≤ 2147483647) = true := by simp; omega
  have HI1 := hid_of hi
  have HNE : Hid (cb + 1 ≠ cb ∧ lb ≠ cb ∧ lb ≠ cb + 1) := hid_of (by omega)
  obtain ⟨q, hq⟩ : ∃ q, q = decide ((m : Int) + 1 ≤ lim) := ⟨_, rfl⟩
  have HQ : Hid (okc lim (d ++ [c]) = q) := hid_of (by rw [hq, hm]; unfold okc; simp)
  have hq1 := hq.symm
  clear h hi hk hm ht2 ht hq hlb
  go_enter Tryd.func58, Tryd.ntmps58
  have W1 : Hid ((w.setCell ⟨cb, 0, none⟩ (.int .i64 ((m : Int) + 1))).heap[cb]? = some (.cells #[.int .i64 ((m : Int) + 1)] 3 (0, 0)) ∧ (w.setCell ⟨cb, 0, none⟩ (.int .i64 ((m : Int) + 1))).heap[cb + 1]? = some (.cells #[.int .i64 (t : Int)] 3 (0, 0)) ∧ (w.setCell ⟨cb, 0, none⟩ (.int .i64 ((m : Int) + 1))).cell? ⟨lb, 0, none⟩ = some (.int .i64 lim) ∧ KX cb (fun k => k = cb ∨ k = cb + 1) w (w.setCell ⟨cb, 0, none⟩ (.int .i64 ((m : Int) + 1)))) := hid_of
    ⟨by have := blk_setCell (k := 0) (u := .int .i64 ((m : Int) + 1)) (cur := [.int .i64 (d.length : Int)]) HH.out.c; exact this, by rw [Below.heap_setCell _ _ _ _ (by have := HNE.out.1; exact this)]; exact HI1.out, by rw [World.cell?_setCell_other _ _ _ _ (by intro e; simp only [Addr.mk.injEq] at e; exact HNE.out.2.1 e.1.symm)]; exact c3, kx_set _ (Nat.le_refl _) (.inl rfl)⟩
  go_wp2
  generalize w.setCell ⟨cb, 0, none⟩ (.int .i64 ((m : Int) + 1)) = w1 at *
  have g2 := blk_cell (cs := [.int .i64 (t : Int)]) W1.out.2.1 (j := 0) rfl
  refine wp_region_still_tail 4 (by kernel_rfl) (by kernel_rfl) ?_
  simp only [List.take_succ_cons, List.take_zero, List.drop_succ_cons, List.drop_zero]
  repeat still_step
  refine wpStill_step (fun K hK => ?_)
  go_simp
  refine ⟨_, still_of (HSZ.out _), hK _ ?_⟩
  clear hK K
  repeat still_step
  refine wpStill_nil ?_
  have W2 : Hid (w1.drew.heap[cb]? = some (.cells #[.int .i64 ((m : Int) + 1)] 3 (0, 0)) ∧ w1.drew.heap[cb + 1]? = some (.cells #[.int .i64 (t : Int)] 3 (0, 0)) ∧ w1.drew.cell? ⟨lb, 0, none⟩ = some (.int .i64 lim) ∧ KX cb (fun k => k = cb ∨ k = cb + 1) w w1.drew) := hid_of ⟨W1.out.1, W1.out.2.1, W1.out.2.2.1, W1.out.2.2.2.trans (kx_drew (by have := lt_of_block W1.out.1; omega))⟩
  change wpList _ _ _ _ _ w1.drew
  generalize w1.drew = w2 at *
  have e2 := blk_cell (cs := [.int .i64 (t : Int)]) W2.out.2.1 (j := 0) rfl
  have e2f := blk_free (cs := [.int .i64 (t : Int)]) W2.out.2.1 0
  have W3 : Hid ((w2.setCell ⟨cb + 1, 0, none⟩ (.int .i64 (t2 : Int))).heap[cb]? = some (.cells #[.int .i64 ((m : Int) + 1)] 3 (0, 0)) ∧ (w2.setCell ⟨cb + 1, 0, none⟩ (.int .i64 (t2 : Int))).heap[cb + 1]? = some (.cells #[.int .i64 (t2 : Int)] 3 (0, 0)) ∧ (w2.setCell ⟨cb + 1, 0, none⟩ (.int .i64 (t2 : Int))).cell? ⟨lb, 0, none⟩ = some (.int .i64 lim) ∧ KX cb (fun k => k = cb ∨ k = cb + 1) w (w2.setCell ⟨cb + 1, 0, none⟩ (.int .i64 (t2 : Int)))) := hid_of
    ⟨by rw [Below.heap_setCell _ _ _ _ (by have := HNE.out.1; exact Ne.symm this)]; exact W2.out.1, by have := blk_setCell (k := 0) (u := .int .i64 (t2 : Int)) (cur := [.int .i64 (t : Int)]) W2.out.2.1; exact this, by rw [World.cell?_setCell_other _ _ _ _ (by intro e; simp only [Addr.mk.injEq] at e; exact HNE.out.2.2 e.1.symm)]; exact W2.out.2.2.1, W2.out.2.2.2.trans (kx_set _ (by omega) (.inr rfl))⟩
  have e3 := blk_cell (cs := [.int .i64 ((m : Int) + 1)]) W2.out.1 (j := 0) rfl
  have e4 := W2.out.2.2.1
  have hne := HNE.out
  cases q
  · go_wp2
    go_ret
    refine ⟨by rw [HQ.out]; rfl, ⟨by rw [show ((d ++ [c]).length : Int) = (m : Int) + 1 by rw [HM.out]; simp]; exact W3.out.1, ⟨t2, by have := HT2.out; rw [HM.out] at this; simpa using this, W3.out.2.1⟩, W3.out.2.2.1⟩, W3.out.2.2.2⟩
  · go_wp2
    go_ret
    refine ⟨by rw [HQ.out]; rfl, ⟨by rw [show ((d ++ [c]).length : Int) = (m : Int) + 1 by rw [HM.out]; simp]; exact W3.out.1, ⟨t2, by have := HT2.out; rw [HM.out] at this; simpa using this, W3.out.2.1⟩, W3.out.2.2.1⟩, W3.out.2.2.2⟩
end Go.Proofs.YtjfjcgbdpjpodaaDoor
