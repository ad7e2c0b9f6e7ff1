/- Levels of package order. Bounds on sizes alone. -/
import Derived.Test.YtjfjcgbdpjpodaaDoorOrdLvl
import Derived.Deep.WholeRow
import Derived.Laws.CopyOwn
namespace Go.Proofs.YtjfjcgbdpjpodaaDoor
open Go.RowKit

/-- A whole array into a block that was made last. -/
theorem wpList_store_fresh {P : Program} {ops : Array Oper} {rest : List Oper} {o : Oper} {a : Act} {w : World} {Q : Exit → Act → World → Prop} (hgd : o.guard = none) (ty : TypeId) (x y : Operand) (ho : o.op = .store ty x y)
    (g : Nat) (cells : Array Value) (hx : a.eval x = .pointer (some ⟨g, 0, none⟩)) (hy : a.eval y = .agg cells) (hg0 : g = w.heap.size)
    (old : Array Value) (hi : (P.info? ty).map (·.size) = some cells.size) (hold : old.size = cells.size) (h1 : cells.all (·.oneCell') = true)
    (h : wpList P ops Q rest (a.put o.dst undef) (w.alloc (.cells cells ty))) : wpList P ops Q (o :: rest) a (w.alloc (.cells old ty)) := by
  subst hg0
  refine wpList_store_row hgd ty x y ho w.heap.size cells hx hy ty old (heap_alloc_new _ _) hi hold h1 ?_
  rw [World.setRow_alloc_new]
  exact h

theorem sizeInt : (Tryd.prog.info? 3).map (·.size) = some 1 := by kernel_rfl
theorem fs_take {n m : Nat} (f : Nat → Int) (h : n ≤ m) : (fs m f).take n = fs n f := by
  apply List.ext_getElem?
  intro j
  rw [List.getElem?_take]
  by_cases hj : j < n
  · rw [if_pos hj, fs_get f hj, fs_get f (by omega)]
  · rw [if_neg hj, List.getElem?_eq_none (by rw [fs_len]; omega)]

theorem fs_cells {w : World} {g n m t : Nat} {f : Nat → Int} {arr : Array Value} (h : w.heap[g]? = some (.cells arr t (0, 0))) (ha : arr = (fs m f).toArray) (hn : n ≤ m) : ∀ j v, (fs n f)[j]? = some v → w.cell? ((⟨g, 0, none⟩ : Addr).add j) = some v := by
  intro j v hv
  have hj : j < n := by rw [← fs_len n f]; exact (List.getElem?_eq_some_iff.1 hv).1
  rw [Addr.add_mid, Nat.zero_add]
  subst ha
  rw [blk_cell h (fs_get f (x := j) (by omega)), ← hv, fs_get _ hj]

set_option maxRecDepth 100000 in
set_option maxHeartbeats 3200000 in
theorem levelsF_any (n : Nat) (ao : Option Addr) (m cap : Nat) (ps : List Tk) (w : World) (h : TRd w (.slice ao m cap) ps) (hT : Tb w) (hE : errE n ps = 0) :
    Calls Tryd.prog 25 #[.int .i64 n, .slice ao m cap] w fun e w' => ∃ (g c : Nat) (L : Nat → Nat), e = .returned (.tuple #[.slice (some ⟨g, 0, none⟩) n n, .int .i64 0]) ∧ AT w w' g n (fun x => (L x : Int)) ∧ LvOk n (bm (clo n ps)) c L := by
  have hC := err_chk hE
  obtain ⟨n', hn', hn⟩ := chk_nat hC
  obtain rfl : n = n' := by omega
  have HC := hid_of (orderOf_any n ao m cap ps w h hT hE)
  have HT := hid_of hT
  have HN := hid_of hn
  have hv := chk_valid hC
  have HSO := hid_of (so_clo hn hv (err_acyc hE))
  have HLV : Hid (∀ b wx, RL wx b n (clo n ps) (bef n (clo n ps)) → Tb wx → Calls Tryd.prog 46 #[.pointer (some ⟨b, 0, none⟩), .pointer (some ⟨b, 65, none⟩)] wx fun x w' => ∃ (c : Nat) (L : Nat → Nat), x = .returned (.tuple #[.agg (fs 64 fun x => (L x : Int)).toArray, .int .i64 c]) ∧ LvOk n (bm (clo n ps)) c L ∧ Below wx.heap.size wx w') := hid_of (fun b wx hr ht =>
    levels_any b n 65 _ _ (bef n (clo n ps)) (bm (clo n ps)) wx hr hn ht (bef_m64 hn _) (fun wy i h1 h2 => h1.cb h2) HSO.out (fun e he y => by
      rw [bef_b hn _ (by omega)]
      cases hb : (clo n ps y).testBit e
      · show (decide (y < n) && false) = bm (clo n ps) y e
        rw [Bool.and_false]; exact hb.symm
      · show (decide (y < n) && true) = bm (clo n ps) y e
        rw [decide_eq_true (HSO.out.lt y e hb).1]; exact hb.symm))
  obtain ⟨i0, hi, hz0, hz1, hz2⟩ := info_parts intsE.info
  clear h hT hC hn' hE hv
  go_enter Tryd.func25, Tryd.ntmps25
  go_wp2_with (first
    | (go_at_call 41; ((with_reducible refine (HC.out).mono ?_); (rintro ee w1 ⟨b, rfl, h0, h1, h2⟩; have R1 := hid_of h1; have H1 := hid_of h2; clear h0 h1 h2)))
    | (go_at_call 46; ((with_reducible refine (HLV.out _ _ R1.out (HT.out.at H1.out)).mono ?_); (rintro ee w2 ⟨c, L, rfl, h1, h2⟩; have K2 := hid_of h1; have H2 := hid_of (H1.out.trans (h2.mono H1.out.size)); clear h1 h2; obtain ⟨arr, harr⟩ : ∃ arr, arr = (fs 64 fun x => (L x : Int)).toArray := ⟨_, rfl⟩; have HARR := hid_of harr; have HSZ : Hid (arr.size = 64) := hid_of (by rw [harr]; simp [fs]); have HI : Hid ((Tryd.prog.info? 66).map (·.size) = some arr.size) := hid_of (by rw [HSZ.out]; exact info64); have HO1 : Hid (arr.all (·.oneCell') = true) := hid_of (by rw [harr]; exact fs_ok _ _); rw [← harr]; clear harr)))
    | (refine wpList_store_fresh rfl 66 (.tmp 8) (.tmp 26) rfl _ arr rfl rfl rfl _ HI.out (by rw [HSZ.out]; rfl) HO1.out ?_; have H3 := hid_of (bel_alloc w2 (.cells arr 66)); have HB3 := hid_of (heap_alloc_new w2 (.cells arr 66)))
    | (at_make; (refine wpList_make_full _ rfl _ _ 36 rfl (w2.alloc (.cells arr 66)).heap.size 3 i0 (.int .i64 0) 1 Tryd.underlying36 hi hz0 hz1 .i64 .i64 n n n rfl rfl rfl rfl (by rw [hz2]; have := HN.out; omega) (by unfold maxLen; have := HN.out; omega) (Nat.le_refl _) ?_); intro w5 hown hgrow; have HB5 : Hid (Below (w2.alloc (.cells arr 66)).heap.size (w2.alloc (.cells arr 66)) w5) := hid_of ((Below.refl _ _).grown hgrow (Nat.le_refl _) (fun k h => by cases h)); have HR5 : Hid (w5.heap[w2.heap.size + 1]? = some (.cells (List.replicate n (Value.int .i64 0)).toArray 3 (0, 0))) := hid_of (by have := made_row (z := .int .i64 0) hown (by rw [Nat.mul_one]; rfl); simpa using this); have HA5 : Hid (w5.heap[w2.heap.size]? = some (.cells arr 66 (0, 0))) := hid_of ((HB5.out.block _ (by simp)).trans HB3.out); have HW5 := hid_of (H2.out.trans ((H3.out.trans (HB5.out.mono (by simp))).mono H2.out.size)); clear hown hgrow)
    | (refine wpList_copy_splice rfl _ _ 36 36 rfl 3 Tryd.underlying36 sizeInt (some ⟨w2.heap.size + 1, 0, none⟩) (some ⟨w2.heap.size, 0, none⟩) n n 64 64 rfl rfl (w2.heap.size + 1) 0 (List.replicate n (Value.int .i64 0)) 3 HR5.out (fs n fun x => (L x : Int)) (by rw [fs_len]; exact (Nat.min_eq_right HN.out).symm) (fun _ => ⟨rfl, _, rfl, fs_cells HA5.out HARR.out HN.out⟩) (by rw [fs_len]; simp) (by intro v hv; simp [fs] at hv; obtain ⟨x, _, rfl⟩ := hv; rfl) w.heap.size w HW5.out (by have := H2.out.size; omega) ?_; intro w6 h6 h7; have C6 := h6; have B6 := hid_of h7; clear h6 h7))
  go_ret2
  refine ⟨w2.heap.size + 1, c, L, rfl, ⟨B6.out, by have := H2.out.size; omega, ?_⟩, K2.out⟩
  rw [C6.out]
  congr 3
  unfold splice
  rw [fs_len]
  simp
end Go.Proofs.YtjfjcgbdpjpodaaDoor
