/- levels of package order. Bounds on sizes alone. -/
import Derived.Test.YtjfjcgbdpjpodaaDoorOrdLvm
import Derived.Deep.MidRow
namespace Go.Proofs.YtjfjcgbdpjpodaaDoor
open Go.RowKit

/-- The three variables of levels: the result, the levels, the count. -/
structure LV (w W : World) (rb : Nat) (c : Int) (L : Nat → Nat) : Prop where
  bel : Below w.heap.size w W
  lo : w.heap.size ≤ rb
  r : W.heap[rb]? = some (.cells (fs 64 fun _ => 0).toArray 66 (0, 0))
  l : W.heap[rb + 1]? = some (.cells (fs 64 fun x => (L x : Int)).toArray 66 (0, 0))
  k : W.heap[rb + 2]? = some (.cells #[.int .i64 c] 3 (0, 0))
section
variable {w W W' : World} {rb : Nat} {c : Int} {L : Nat → Nat}
theorem LV.at (h : LV w W rb c L) (hb : Below W.heap.size W W') : LV w W' rb c L :=
  ⟨h.bel.trans (hb.mono h.bel.size), h.lo, (hb.block _ (lt_of_block h.r)).trans h.r, (hb.block _ (lt_of_block h.l)).trans h.l, (hb.block _ (lt_of_block h.k)).trans h.k⟩
theorem LV.drew (h : LV w W rb c L) : LV w W.drew rb c L := h.at (Below.refl _ _).drew
theorem LV.setL (h : LV w W rb c L) (i v : Nat) : LV w (W.setCell ⟨rb + 1, i, none⟩ (.int .i64 v)) rb c (fun x => if x = i then v else L x) := by
  have o : ∀ k, k ≠ rb + 1 → (W.setCell ⟨rb + 1, i, none⟩ (.int .i64 v)).heap[k]? = W.heap[k]? := fun k hk => Below.heap_setCell _ _ _ _ hk
  refine ⟨⟨h.bel.os, h.bel.tape, h.bel.output, by simpa using h.bel.size, fun k hk => ?_⟩, h.lo, (o _ (by omega)).trans h.r, ?_, (o _ (by omega)).trans h.k⟩
  · rw [o k (by have := h.lo; omega)]; exact h.bel.block k hk
  · have := blk_setCell (k := i) (u := .int .i64 v) h.l
    rw [fs_set] at this
    rw [this, fs_congr (f' := fun x => ((if x = i then v else L x : Nat) : Int)) fun x _ => by by_cases e : x = i <;> simp [e]]
theorem LV.setK (h : LV w W rb c L) (v : Int) : LV w (W.setCell ⟨rb + 2, 0, none⟩ (.int .i64 v)) rb v L := by
  have o : ∀ k, k ≠ rb + 2 → (W.setCell ⟨rb + 2, 0, none⟩ (.int .i64 v)).heap[k]? = W.heap[k]? := fun k hk => Below.heap_setCell _ _ _ _ hk
  refine ⟨⟨h.bel.os, h.bel.tape, h.bel.output, by simpa using h.bel.size, fun k hk => ?_⟩, h.lo, (o _ (by omega)).trans h.r, (o _ (by omega)).trans h.l, ?_⟩
  · rw [o k (by have := h.lo; omega)]; exact h.bel.block k hk
  · have := blk_setCell (k := 0) (u := .int .i64 v) (cur := [.int .i64 c]) h.k
    exact this
theorem LV.congr {L' : Nat → Nat} (h : LV w W rb c L) (he : ∀ x, x < 64 → L x = L' x) : LV w W rb c L' := ⟨h.bel, h.lo, h.r, by rw [h.l, fs_congr fun x hx => by rw [he x hx]], h.k⟩
end
set_option maxRecDepth 100000 in
theorem lvl1_any (e rb c : Nat) (L : Nat → Nat) (w W : World) (h : LV w W rb c L) (he : e < 64) :
    Calls Tryd.prog 72 #[.int .i64 e, .pointer (some ⟨rb + 2, 0, none⟩), .pointer (some ⟨rb + 1, 0, none⟩)] W fun x W' => x = .returned (.tuple #[]) ∧ LV w W' rb c (fun x => if x = e then c else L x) := by
  have H := hid_of h
  have c1 := blk_cell (cs := [.int .i64 c]) h.k (j := 0) rfl
  have c2 := blk_cell h.l (fs_get (fun x => (L x : Int)) he)
  have c3 := blk_free h.l e
  have b1 : (e : Int) < 64 := by omega
  have b0 : (0 : Int) ≤ (e : Int) := by omega
  clear h
  go_enter Tryd.func72, Tryd.ntmps72
  go_wp2
  first | go_ret | go_end0
  exact ⟨rfl, H.out.setL e c⟩

theorem each_lvl (q rb c : Nat) (L : Nat → Nat) (w W : World) (h : LV w W rb c L) (hq : q < M64) (hT : Tb w) :
    Calls Tryd.prog 54 #[.int .u64 q, .func (.func 72) #[] #[.pointer (some ⟨rb + 2, 0, none⟩), .pointer (some ⟨rb + 1, 0, none⟩)]] W fun x W' => x = .returned (.tuple #[]) ∧ LV w W' rb c (fun x => if q.testBit x = true then c else L x) := by
  refine (each_any 72 #[.pointer (some ⟨rb + 2, 0, none⟩), .pointer (some ⟨rb + 1, 0, none⟩)] (fun _ _ => rfl) (fun l wx => LV w wx rb c (fun x => if x ∈ l then c else L x)) q hq W (by simpa using h) ?_ ?_).mono ?_
  · rintro l wx hl
    exact hT.at hl.bel
  · rintro l e wx ⟨r, hr⟩ hl
    have he : e < 64 := els_lt (s := q) (by rw [hr]; simp)
    refine (lvl1_any e rb c _ w wx hl he).mono ?_
    rintro x w' ⟨rfl, q1⟩
    refine ⟨rfl, q1.congr fun x _ => ?_⟩
    by_cases hx : x = e
    · simp [hx]
    · simp [hx]
  · rintro x w' ⟨rfl, q1⟩
    refine ⟨rfl, q1.congr fun x hx => ?_⟩
    by_cases hb : q.testBit x = true
    · rw [if_pos hb, if_pos (mem_els.2 ⟨hx, hb⟩)]
    · rw [if_neg hb, if_neg (fun h => hb (mem_els.1 h).2)]

/-- An array in a block and a plain result. -/
theorem results_mid_tmp {P : Program} {fn : Func} {p t : Tmp} {ty : TypeId} (h : fn.results = #[.cell p ty, .tmp t]) (tmps : Array Value) (w : World) (g : Nat) (cs : List Value) (d : TypeDesc)
    (hp : tmps.getD p undef = .pointer (some ⟨g, 0, none⟩)) (hg : w.rangeAt g 0 cs)
    (hu : P.underlying ty = some d) (hd : d.isRow = true) (hi : (P.info? ty).map (·.size) = some cs.length) :
    (results fn tmps).run P w = .ok (.tuple #[.agg cs.toArray, tmps.getD t undef]) w := by
  have hp' : tmps[p]?.getD undef = .pointer (some ⟨g, 0, none⟩) := by simpa using hp
  simp [results, h, hp', asAddr, run_loadVar_mid w g 0 ty cs d hg hu hd hi]
theorem bel_setCells {B b : Nat} {a : World} (hb : B ≤ b) : ∀ (vs : List Value) (o : Nat) (w : World), Below B a w → Below B a (w.setCells b o vs)
  | [], _, _, h => h
  | v :: r, o, w, h => bel_setCells hb r (o + 1) _ ⟨h.os, h.tape, h.output, by simpa using h.size, fun k hk => by rw [Below.heap_setCell _ _ _ _ (by show k ≠ b; omega)]; exact h.block k hk⟩
theorem there_of_block {w : World} {b t n : Nat} {cs : List Value} (h : w.heap[b]? = some (.cells cs.toArray t (0, 0))) (hn : cs.length = n) : w.there b 0 n := fun j hj => by
  rw [Nat.zero_add]
  exact ⟨by rw [blk_cell h (List.getElem?_eq_getElem (by omega))]; rfl, blk_free h j⟩
theorem range_of_block {w : World} {b t : Nat} {cs : List Value} (h : w.heap[b]? = some (.cells cs.toArray t (0, 0))) : w.rangeAt b 0 cs := fun j v hv => by
  rw [Nat.zero_add]; exact blk_cell h hv
theorem info64 : (Tryd.prog.info? 66).map (·.size) = some 64 := by kernel_rfl
theorem fs_len (n : Nat) (f : Nat → Int) : (fs n f).length = n := by simp [fs]
theorem fs_ok (n : Nat) (f : Nat → Int) : (fs n f).toArray.all (·.oneCell') = true := by
  rw [Array.all_eq_true_iff_forall_mem]
  intro v hv
  simp [fs] at hv
  obtain ⟨x, _, rfl⟩ := hv
  rfl

set_option maxRecDepth 100000 in
set_option maxHeartbeats 3200000 in
theorem levels_any (b n off : Nat) (A B N : Nat → Nat) (R : Nat → Nat → Bool) (w : World) (h : RL w b n A B) (hn : n ≤ 64) (hT : Tb w) (hN : ∀ i, N i < M64) (hc : ∀ wx i, RL wx b n A B → i < 64 → wx.cell? ⟨b, off + i, none⟩ = some (.int .u64 (N i)))
    (hR : SO n R) (hNR : ∀ e, e < n → ∀ y, (N e).testBit y = R y e) :
    Calls Tryd.prog 46 #[.pointer (some ⟨b, 0, none⟩), .pointer (some ⟨b, off, none⟩)] w fun x w' => ∃ (c : Nat) (L : Nat → Nat), x = .returned (.tuple #[.agg (fs 64 fun x => (L x : Int)).toArray, .int .i64 c]) ∧ LvOk n R c L ∧ Below w.heap.size w w' := by
  have HRL := hid_of h
  have HT := hid_of hT
  have HN := hid_of hn
  have HNN := hid_of hN
  have HR := hid_of hR
  have HNR := hid_of hNR
  obtain ⟨rb, hrb⟩ : ∃ rb, rb = w.heap.size := ⟨_, rfl⟩
  have HLV : Hid (LV w (((w.alloc (.cells (fs 64 fun _ => 0).toArray 66)).alloc (.cells (fs 64 fun _ => 0).toArray 66)).alloc (.cells #[.int .i64 0] 3)) rb (0 : Nat) (fun _ => 0)) := hid_of (by
    have B1 := bel_alloc w (.cells (fs 64 fun _ => 0).toArray 66)
    have B2 := bel_alloc (w.alloc (.cells (fs 64 fun _ => 0).toArray 66)) (.cells (fs 64 fun _ => 0).toArray 66)
    have B3 := bel_alloc ((w.alloc (.cells (fs 64 fun _ => 0).toArray 66)).alloc (.cells (fs 64 fun _ => 0).toArray 66)) (.cells #[.int .i64 0] 3)
    have n1 := heap_alloc_new w (.cells (fs 64 fun _ => 0).toArray 66)
    have n2 := heap_alloc_new (w.alloc (.cells (fs 64 fun _ => 0).toArray 66)) (.cells (fs 64 fun _ => 0).toArray 66)
    have n3 := heap_alloc_new ((w.alloc (.cells (fs 64 fun _ => 0).toArray 66)).alloc (.cells (fs 64 fun _ => 0).toArray 66)) (.cells #[.int .i64 0] 3)
    have z1 : (w.alloc (.cells (fs 64 fun _ => 0).toArray 66)).heap.size = w.heap.size + 1 := by simp
    have z2 : ((w.alloc (.cells (fs 64 fun _ => 0).toArray 66)).alloc (.cells (fs 64 fun _ => 0).toArray 66)).heap.size = w.heap.size + 2 := by simp
    rw [z1] at B2 n2
    rw [z2] at B3 n3
    subst hrb
    exact ⟨B1.trans ((B2.mono (by omega)).trans (B3.mono (by omega))), Nat.le_refl _, (B3.block _ (by omega)).trans ((B2.block _ (by omega)).trans n1), (B3.block _ (by omega)).trans n2, n3⟩)
  have HC := hid_of hc
  clear h hT hN hR hNR hc hn
  have hmf : ∀ (fn : Fn) (first cap : Array Value) (w : World), (Instr.makeFunc fn first cap).run Tryd.prog w = .ok (.func fn first cap) w := fun _ _ _ _ => rfl
  go_enter Tryd.func46, Tryd.ntmps46
  go_wp2
  change Code.wp _ _ _ _ (((w.alloc (.cells (fs 64 fun _ => 0).toArray 66)).alloc (.cells (fs 64 fun _ => 0).toArray 66)).alloc (.cells #[.int .i64 0] 3))
  generalize ((w.alloc (.cells (fs 64 fun _ => 0).toArray 66)).alloc (.cells (fs 64 fun _ => 0).toArray 66)).alloc (.cells #[.int .i64 0] 3) = w0 at *
  have z1 : w.heap.size + 1 + 1 = rb + 2 := by omega
  have z2 : w.heap.size + 1 = rb + 1 := by omega
  rw [z1, z2, ← hrb]
  clear z1 z2 hrb
  go_loopw [8] (fun pv wr => ∃ (p k : Nat) (L : Nat → Nat), pv = .int .u64 p ∧ Hid (LV w wr rb k L ∧ LvI n R k p L)) (fun pv _ => n - cnt n (intOf pv).toNat)
  case atStart => exact ⟨0, 0, _, rfl, hid_of ⟨HLV.out, LvI.start n R _⟩⟩
  case round =>
    clear HLV
    obtain ⟨p, k, L, rfl, hs⟩ := hrel
    have HRW := hid_of (HRL.out.at hs.out.1.bel)
    have HTW := hid_of (HT.out.at hs.out.1.bel)
    have HAL : Hid (Calls Tryd.prog 47 #[.pointer (some ⟨b, 0, none⟩)] wr fun x w' => x = .returned (.int .u64 (allS n : Nat)) ∧ wr = w') := hid_of (all_any b n A B wr HRW.out HN.out)
    by_cases hpa : p = allS n
    · have HOK : Hid (LvOk n R k L) := hid_of (hs.out.2.done HR.out HN.out hpa)
      obtain ⟨al, hal⟩ : ∃ al, al = allS n := ⟨_, rfl⟩
      rw [← hal] at HAL hpa
      subst hpa
      have hd : ((p : Int) != (p : Int)) = false := by simp
      clear hal
      go_wp2_with (go_at_call 47; ((with_reducible refine (HAL.out).mono ?_); (rintro ee w1 ⟨rfl, rfl⟩)))
      obtain ⟨cs, hcs⟩ : ∃ cs, cs = fs 64 fun x => (L x : Int) := ⟨_, rfl⟩
      have HCS := hid_of hcs
      have hl : cs.length = 64 := by rw [hcs]; simp [fs]
      have HI : (Tryd.prog.info? 66).map (·.size) = some cs.length := by rw [hl]; exact info64
      have HU := Tryd.underlying66
      have H1 : ∀ v ∈ cs, v.oneCell' = true := by rw [hcs]; intro v hv; simp [fs] at hv; obtain ⟨x, _, rfl⟩ := hv; rfl
      have H1A := all_oneCell_toArray H1
      have KR : Hid (wr.rangeAt (rb + 1) 0 cs ∧ wr.there rb 0 64 ∧ wr.cell? ⟨rb + 2, 0, none⟩ = some (.int .i64 (k : Int))) := hid_of ⟨by rw [hcs]; exact range_of_block hs.out.1.l, there_of_block hs.out.1.r (by simp [fs]), blk_cell (cs := [.int .i64 (k : Int)]) hs.out.1.k rfl⟩
      have BEL := hid_of hs.out.1.bel
      have LO := hid_of hs.out.1.lo
      have KD : Hid (wr.drew.rangeAt (rb + 1) 0 cs ∧ wr.drew.there rb 0 64 ∧ wr.drew.cell? ⟨rb + 2, 0, none⟩ = some (.int .i64 (k : Int))) := KR
      clear hcs hs
      go_wp2_with (go_at_call 47; ((with_reducible refine (HAL.out).mono ?_); (rintro ee w1 ⟨rfl, rfl⟩)))
      have HL := hid_of hl
      go_region_held (fun W => W.rangeAt (rb + 1) 0 cs ∧ W.there rb 0 64 ∧ W.cell? ⟨rb + 2, 0, none⟩ = some (.int .i64 (k : Int))) (first | exact KD.out | (refine ⟨World.rangeAt_setCells_apart KD.out.1 _ _ _ (.inl (by omega)), World.there_setCells KD.out.2.1 _ _ _, ?_⟩; rw [World.cell?_setCells_out _ _ _ _ _ (fun h => by simp at h)]; exact KD.out.2.2)) (fail)
      all_goals
        go_wp2
        refine bodyPost_ret (results_mid_tmp rfl _ _ rb cs _ rfl ?_ Tryd.underlying66 rfl HI) rfl ⟨k, L, ?_, HOK.out, ?_⟩
        · exact World.rangeAt_setCells_same _ _ _ _ (by rw [HL.out]; exact KR.out.2.1)
        · rw [HCS.out]; rfl
        · exact bel_setCells LO.out _ _ _ BEL.out.drew
    · obtain ⟨x, hx, hxp⟩ := ne_all HN.out (fun x hx => (hs.out.2.lt x hx).1) hpa
      have HNX := hid_of (hs.out.2.next HN.out HR.out HNN.out HNR.out hx hxp)
      have HCN := hid_of (ly_cnt HN.out HR.out HNN.out HNR.out hs.out.2.m hx hxp)
      have HCL := hid_of (cnt_n n (p ||| rdy n N p))
      have hp9 := hs.out.2.m
      have hk9 : k ≤ 64 := by have := hs.out.2.cnt; have := cnt_n n p; have := HN.out; omega
      obtain ⟨al, hal⟩ : ∃ al, al = allS n := ⟨_, rfl⟩
      rw [← hal] at HAL hpa
      have hd : ((p : Int) != (al : Int)) = true := by simp; omega
      have HRD : Hid (Calls Tryd.prog 43 #[.pointer (some ⟨b, 0, none⟩), .int .u64 p, .pointer (some ⟨b, off, none⟩)] wr fun x w' => x = .returned (.int .u64 (rdy n N p : Nat)) ∧ Below wr.heap.size wr w') := hid_of (ready_any b n off p A B N wr HRW.out HN.out HTW.out HNN.out hp9 (fun wx i h1 h2 => HC.out wx i h1 h2))
      obtain ⟨q, hq⟩ : ∃ q, q = rdy n N p := ⟨_, rfl⟩
      rw [← hq] at HNX HCN HCL HRD
      have hq9 : q < M64 := by rw [hq]; exact rdy_lt _ _ _
      have e1 := u64_or_nat p q hp9 hq9
      have HQ9 := hid_of hq9
      clear hal hpa hq hx hxp hp9 hq9
      go_wp2_with (first
        | (go_at_call 47; ((with_reducible refine (HAL.out).mono ?_); (rintro ee w1 ⟨rfl, rfl⟩)))
        | (go_at_call 43; ((with_reducible refine (HRD.out).mono ?_); (rintro ee w2 ⟨rfl, h2⟩; have V2 := hid_of (hs.out.1.at h2); clear h2)))
        | (go_at_call 54; ((with_reducible refine (each_lvl q rb k L w w2 V2.out HQ9.out HT.out).mono ?_); (rintro ee w3 ⟨rfl, h3⟩; have V3 := hid_of h3; have c3 := blk_cell (cs := [.int .i64 (k : Int)]) h3.k (j := 0) rfl; have f3 := blk_free h3.k 0; clear h3))))
      go_roundw
      case rel => exact ⟨p ||| q, k + 1, _, rfl, hid_of ⟨V3.out.setK _, HNX.out⟩⟩
      case measure => simp [intOf]; have := HCN.out; have := HCL.out; omega
end Go.Proofs.YtjfjcgbdpjpodaaDoor
