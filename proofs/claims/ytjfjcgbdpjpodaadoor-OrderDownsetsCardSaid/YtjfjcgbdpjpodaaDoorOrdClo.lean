/- closureOf and orderOf of package order. Bounds on sizes alone. -/
import Derived.Test.YtjfjcgbdpjpodaaDoorOrdChk
namespace Go.Proofs.YtjfjcgbdpjpodaaDoor
open Go.RowKit

/-- An operation whose value is known. -/
theorem wpList_value {P : Program} {ops : Array Oper} {rest : List Oper} {o : Oper} {a : Act} {w : World} {Q : Exit → Act → World → Prop} (hgd : o.guard = none) (t : TypeId) (parts : Array (Nat × Operand)) (_ho : o.op = .build t parts) (v : Value)
    (hr : (execOp a.eval o).run P w = .ok (.value v) w) (h : wpList P ops Q rest (a.put o.dst v) w) : wpList P ops Q (o :: rest) a w :=
  wpList_plain hgd fun K hK => by unfold Oper.wp; rw [hr, Oper.upon_value]; exact hK _ _ h

/-- closureOf's state: the relation in block b, its pointer's variable in block rb. -/
structure CS (w W : World) (b rb n : Nat) (A B : Nat → Nat) : Prop where
  rl : RL W b n A B
  rc : W.cell? ⟨rb, 0, none⟩ = some (.pointer (some ⟨b, 0, none⟩))
  lo : w.heap.size ≤ b
  ne : b ≠ rb
  bel : Below w.heap.size w W
section
variable {w W W' : World} {b rb n : Nat} {A B A' B' : Nat → Nat}
theorem CS.at (h : CS w W b rb n A B) (hb : Below W.heap.size W W') : CS w W' b rb n A B :=
  ⟨h.rl.at hb, (hb.cell (p := ⟨rb, 0, none⟩) (World.block_lt_of_cell? _ _ h.rc)).trans h.rc, h.lo, h.ne, h.bel.trans (hb.mono h.bel.size)⟩
theorem CS.drew (h : CS w W b rb n A B) : CS w W.drew b rb n A B := ⟨h.rl.drew, h.rc, h.lo, h.ne, h.bel.drew⟩
theorem CS.turn (h : CS w W b rb n A B) (hk : Kept (fun k => k = b) W W') (hr : RL W' b n A' B') : CS w W' b rb n A' B' :=
  ⟨hr, (World.cell?_of_block (w := W) (hk.block rb (World.block_lt_of_cell? _ _ h.rc) (Ne.symm h.ne))).trans h.rc, h.lo, h.ne, h.bel.trans (hk.below h.bel.size (fun j hj => by have := h.lo; omega))⟩
theorem CS.setA (h : CS w W b rb n A B) {i : Nat} (hi : i < 64) (v : Nat) : CS w (W.setCell ⟨b, 1 + i, none⟩ (.int .u64 v)) b rb n (upd A i v) B :=
  h.turn (Kept.set _ _ _ _) (h.rl.setA hi v)
end
theorem rlc_one (n : Nat) (A B : Nat → Nat) : (rlc n A B).toArray.all (·.oneCell') = true := by
  rw [Array.all_eq_true_iff_forall_mem]
  intro v hv
  simp only [List.mem_toArray, rlc, List.mem_cons, List.mem_append, List.mem_map] at hv
  rcases hv with rfl | ⟨_, _, rfl⟩ | ⟨_, _, rfl⟩ <;> rfl
theorem CS.start {w w1 : World} {n : Nat} (hb : Below w.heap.size w w1) : CS w ((w1.alloc (.cells (rlc n (fun _ => 0) (fun _ => 0)).toArray 61)).alloc (.cells #[.pointer (some ⟨w1.heap.size, 0, none⟩)] 52)) w1.heap.size (w1.heap.size + 1) n (fun _ => 0) (fun _ => 0) := by
  refine ⟨?_, ?_, hb.size, by omega, ?_⟩
  · exact RL.at (heap_alloc_new w1 _) (bel_alloc _ _)
  · have := blk_cell (cs := [.pointer (some ⟨w1.heap.size, 0, none⟩)]) (heap_alloc_new (w1.alloc (.cells (rlc n (fun _ => 0) (fun _ => 0)).toArray 61)) (.cells #[.pointer (some ⟨w1.heap.size, 0, none⟩)] 52)) (j := 0) rfl
    simp
  · exact (hb.alloc hb.size _).alloc (by have := hb.size; simp; omega) _
theorem base_take {ps : List Tk} {k : Nat} {t : Tk} (h : ps[k]? = some t) : base (ps.take (k + 1)) = put1 (base (ps.take k)) t := by
  unfold base
  rw [List.take_add_one, h]
  simp
theorem bd_base_take {n : Nat} (hn : n ≤ 64) {ps : List Tk} (h : valid n ps = true) (k : Nat) : Bd n (base (ps.take k)) := by
  refine bd_base hn ?_
  unfold valid at h ⊢
  rw [List.all_eq_true] at h ⊢
  exact fun p hp => h p (List.mem_of_mem_take hp)
theorem foldl_bd {n : Nat} {α : Type} (f : (Nat → Nat) → α → (Nat → Nat)) (l : List α) (A : Nat → Nat) (h : Bd n A) (hs : ∀ B, ∀ a ∈ l, Bd n B → Bd n (f B a)) : Bd n (l.foldl f A) := foldl_inv (Bd n) f l A h hs

/-- What the visits of one row do. -/
def vis (a : Nat) (B : Nat → Nat) (l : List Nat) : Nat → Nat := l.foldl (fun B y => upd B y (B y ||| sg a)) B
theorem vis_bd {n a : Nat} (hn : n ≤ 64) (ha : a < n) {B : Nat → Nat} (h : Bd n B) (l : List Nat) : Bd n (vis a B l) :=
  foldl_bd _ l B h fun B y _ hb x => by
    unfold upd
    split
    · refine Nat.or_lt_two_pow (hb _) ?_
      rw [sg_eq (by omega)]
      exact Nat.pow_lt_pow_right (by decide) ha
    · exact hb x
theorem vis_snoc (a : Nat) (B : Nat → Nat) (l : List Nat) (e : Nat) : vis a B (l ++ [e]) = upd (vis a B l) e (vis a B l e ||| sg a) := by
  unfold vis; rw [foldl_snoc]

theorem each_clo {w W : World} {b rb n : Nat} {A B : Nat → Nat} (h : CS w W b rb n A B) (hT : Tb W) (hn : n ≤ 64) (hA : Bd n A) (hB : Bd n B) (a ab : Nat) (ha : a < n) (hc : W.cell? ⟨ab, 0, none⟩ = some (.int .i64 a)) (hab : ab ≠ b) (hw : 0 < w.heap.size) :
    Calls Tryd.prog 54 #[.int .u64 (A a : Nat), .func (.func 68) #[] #[.pointer (some ⟨rb, 0, none⟩), .pointer (some ⟨ab, 0, none⟩)]] W fun e W' => e = .returned (.tuple #[]) ∧ CS w W' b rb n A (bef1 A B a) ∧ Kept (fun k => k = b) W W' := by
  refine (each_any 68 #[.pointer (some ⟨rb, 0, none⟩), .pointer (some ⟨ab, 0, none⟩)] (fun _ _ => rfl) (fun l wx => RL wx b n A (vis a B l) ∧ Kept (fun k => k = b) W wx) (A a) (hA.m64 hn a) W ⟨h.rl, Kept.refl _ W⟩ ?_ ?_).mono ?_
  · rintro l wx ⟨_, h2⟩
    exact hT.later (h2.below (B := 1) hT.pos (fun k hk => by have := h.lo; omega)) (by omega)
  · rintro l e wx ⟨r, hr⟩ ⟨h1, h2⟩
    have he : e < 64 := els_lt (s := A a) (by rw [hr]; simp)
    have k1 := (World.cell?_of_block (w := W) (w' := wx) (a := ⟨rb, 0, none⟩) (h2.block rb (World.block_lt_of_cell? _ _ h.rc) (Ne.symm h.ne))).trans h.rc
    have k2 := (World.cell?_of_block (w := W) (w' := wx) (a := ⟨ab, 0, none⟩) (h2.block ab (World.block_lt_of_cell? _ _ hc) hab)).trans hc
    refine (clo1_any b n A (vis a B l) rb ab a e wx h1 k1 k2 (by omega) he ((vis_bd hn ha hB l).m64 hn e)).mono ?_
    rintro x w' ⟨rfl, q1, q2⟩
    exact ⟨rfl, by rw [vis_snoc]; exact q1, h2.trans q2⟩
  · rintro x w' ⟨rfl, q1, q2⟩
    exact ⟨rfl, h.turn q2 q1, q2⟩

set_option maxRecDepth 100000 in
set_option maxHeartbeats 6400000 in
theorem closureOf_any (n : Nat) (hn : n ≤ 64) (ao : Option Addr) (m cap : Nat) (ps : List Tk) (w : World) (h : TRd w (.slice ao m cap) ps) (hT : Tb w) (hC : chkE n ps = 0) :
    Calls Tryd.prog 37 #[.int .i64 n, .slice ao m cap] w fun e w' => ∃ b, e = .returned (.tuple #[.pointer (some ⟨b, 0, none⟩), .int .i64 0]) ∧ w.heap.size ≤ b ∧ RL w' b n (clo n ps) (bef n (clo n ps)) ∧ Below w.heap.size w w' := by
  obtain ⟨hm, hc1, hc2⟩ := h.cut
  have hval : valid n ps = true ∧ m ≤ 4096 := by
    unfold chkE at hC
    rw [if_neg (by omega)] at hC
    split at hC
    · cases hC
    · rename_i h4
      split at hC
      · rename_i h5
        exact ⟨by rw [← okp_valid]; exact h5, by omega⟩
      · cases hC
  have hm9 := hval.2
  have HV := hid_of hval.1
  have HM := hid_of hm
  have H := hid_of h
  have HT := hid_of hT
  have HN := hid_of hn
  have HCK : Hid (Calls Tryd.prog 15 #[.int .i64 n, .slice ao m cap] w fun e w' => e = .returned (.int .i64 0) ∧ Below w.heap.size w w') := hid_of (by have := check_any n ao m cap ps w h; rw [hC] at this; exact this)
  obtain ⟨arr, harr⟩ : ∃ arr, arr = (rlc n (fun _ => 0) (fun _ => 0)).toArray := ⟨_, rfl⟩
  have HARR := hid_of harr
  clear h hT hval hm hC harr
  have hmf : ∀ (fn : Fn) (first cap : Array Value) (w : World), (Instr.makeFunc fn first cap).run Tryd.prog w = .ok (.func fn first cap) w := fun _ _ _ _ => rfl
  go_enter Tryd.func37, Tryd.ntmps37
  go_wp2_with (first
    | (go_at_call 15; ((with_reducible refine (HCK.out).mono ?_); (rintro ee w1 ⟨rfl, h1⟩; have HB1 := hid_of h1; clear h1)))
    | (refine wpList_value rfl 61 _ rfl (.agg arr) (by rw [HARR.out]; kernel_rfl) ?_))
  have C0 : Hid (CS w ((w1.alloc (.cells arr 61)).alloc (.cells #[.pointer (some ⟨w1.heap.size, 0, none⟩)] 52)) w1.heap.size (w1.heap.size + 1) n (fun _ => 0) (fun _ => 0)) := hid_of (by rw [HARR.out]; exact CS.start HB1.out)
  have HB0 : Hid (w.heap.size ≤ w1.heap.size) := hid_of HB1.out.size
  have W0 : Hid (0 < w.heap.size) := hid_of HT.out.pos
  obtain ⟨b, hb⟩ : ∃ b, b = w1.heap.size := ⟨_, rfl⟩
  have hrb : w1.heap.size + 1 = b + 1 := by omega
  obtain ⟨rb, hrb2⟩ : ∃ rb, rb = b + 1 := ⟨_, rfl⟩
  generalize hw0 : (w1.alloc (.cells arr 61)).alloc (.cells #[.pointer (some ⟨w1.heap.size, 0, none⟩)] 52) = w2 at *
  rw [hrb, ← hrb2] at *
  rw [← hb] at *
  clear hw0 hb hrb hrb2
  go_loopw [24] (fun iv wr => ∃ k : Nat, iv = .int .i64 k ∧ k ≤ m ∧ Hid (CS w wr b rb n (base (ps.take k)) (fun _ => 0))) (fun iv _ => m - (intOf iv).toNat)
  case atStart => exact ⟨0, rfl, Nat.zero_le _, hid_of (by simpa [base] using C0.out)⟩
  case round =>
    obtain ⟨k, rfl, hk, hs⟩ := hrel
    by_cases hlt : k < m
    · have hd : decide (k < m) = true := by simp; omega
      obtain ⟨g, o, rfl, hg, hcell⟩ := H.out.open (by omega)
      obtain ⟨t, ht⟩ : ∃ t, ps[k]? = some t := ⟨_, List.getElem?_eq_getElem (by have := HM.out; omega)⟩
      have c1 := (hs.out.bel.cell (p := ⟨g, o + k * 2, none⟩) hg).trans (hcell k t ht).1
      have c2 := (hs.out.bel.cell (p := ⟨g, o + k * 2 + 1, none⟩) hg).trans (hcell k t ht).2
      obtain ⟨v1, v2, v3, v4⟩ := valid_mem HV.out (List.mem_of_getElem? ht)
      have HNX := hid_of (base_take ht)
      obtain ⟨t1, t2⟩ := t
      obtain ⟨x, hx⟩ : ∃ x, x = t1.toNat := ⟨_, rfl⟩
      obtain ⟨y, hy⟩ : ∃ y, y = t2.toNat := ⟨_, rfl⟩
      rw [← hx] at v1 v3
      rw [← hy] at v2 v4
      subst v3 v4
      have b1 : (k : Int) < (m : Int) := by omega
      have b0 : (0 : Int) ≤ (k : Int) := by omega
      have HXY : Hid (x < 64 ∧ y ≤ 64) := hid_of ⟨by have := HN.out; omega, by have := HN.out; omega⟩
      have bx : (x : Int) < 64 := by have := HXY.out; omega
      have bx0 : (0 : Int) ≤ (x : Int) := by omega
      clear hcell ht hx hy v1 v2
      go_wp2
      have C5 : Hid (CS w (wr.alloc (.cells #[.int .i64 x, .int .i64 y] 44)) b rb n (base (ps.take k)) (fun _ => 0)) := hid_of (hs.out.at (bel_alloc _ _))
      have p0 : (wr.alloc (.cells #[.int .i64 x, .int .i64 y] 44)).cell? ⟨wr.heap.size, 0, none⟩ = some (.int .i64 x) := blk_cell (cs := [.int .i64 x, .int .i64 y]) (heap_alloc_new wr _) rfl
      have p1 : (wr.alloc (.cells #[.int .i64 x, .int .i64 y] 44)).cell? ⟨wr.heap.size, 1, none⟩ = some (.int .i64 y) := blk_cell (cs := [.int .i64 x, .int .i64 y]) (heap_alloc_new wr _) rfl
      obtain ⟨pb, hpb⟩ : ∃ pb, pb = wr.heap.size := ⟨_, rfl⟩
      generalize wr.alloc (.cells #[.int .i64 x, .int .i64 y] 44) = w5 at *
      rw [← hpb] at *
      obtain ⟨A, hA⟩ : ∃ A, A = base (ps.take k) := ⟨_, rfl⟩
      have HAB : Hid (Bd n A) := hid_of (by rw [hA]; exact bd_base_take HN.out HV.out k)
      rw [← hA] at C5
      have HA := hid_of hA
      have r0 := C5.out.rc
      have r1 := C5.out.rl.ca HXY.out.1
      have r2 := C5.out.rl.free (1 + x)
      obtain ⟨q, hq⟩ : ∃ q, q = A x := ⟨_, rfl⟩
      rw [← hq] at r1
      have e1 := u64_or_nat q (sg y) (by rw [hq]; exact HAB.out.m64 HN.out x) (sg_lt y)
      have HQ := hid_of hq
      clear c1 c2 hpb hA hq
      refine wp_region_still_tail 14 (by kernel_rfl) (by kernel_rfl) ?_
      simp only [List.take_succ_cons, List.take_zero, List.drop_succ_cons, List.drop_zero]
      repeat still_step
      refine wpStill_step (fun K hK => ?_)
      go_simp
      refine ⟨_, still_of (single_any y HXY.out.2 _), hK _ ?_⟩
      clear hK K
      repeat still_step
      refine wpStill_nil ?_
      change wpList _ _ _ _ _ w5.drew
      have r1d : w5.drew.cell? ⟨b, 1 + x, none⟩ = some (.int .u64 q) := r1
      have r2d : w5.drew.frozen? ⟨b, 1 + x, none⟩ = false := r2
      have C6 := hid_of C5.out.drew
      generalize w5.drew = w6 at *
      go_wp2
      go_roundw
      case rel => exact ⟨k + 1, by go_num, by omega, hid_of (by
        rw [HNX.out, ← HA.out]
        have := C6.out.setA HXY.out.1 (q ||| sg y)
        rw [HQ.out] at this ⊢
        exact this)⟩
      case measure => simp [intOf]; omega
    · have hd : decide (k < m) = false := by simp; omega
      have C1 : Hid (CS w wr b rb n (base ps) (fun _ => 0)) := hid_of (by have := hs.out; rw [List.take_of_length_le (by have := HM.out; omega)] at this; exact this)
      obtain ⟨wa, hwa⟩ : ∃ wa : World, wa = wr := ⟨_, rfl⟩
      rw [← hwa] at C1 ⊢
      clear hwa hs
      go_wp2
      clear hd hlt hk
      go_loopw [44] (fun iv wr => ∃ k : Nat, iv = .int .i64 k ∧ k ≤ n ∧ Hid (CS w wr b rb n ((List.range k).foldl (row n) (base ps)) (fun _ => 0))) (fun iv _ => n - (intOf iv).toNat)
      case atStart => exact ⟨0, rfl, Nat.zero_le _, hid_of C1.out⟩
      case round =>
        obtain ⟨v, rfl, hv, hs⟩ := hrel
        by_cases hlt : v < n
        · have hd : decide (v < n) = true := by simp; omega
          obtain ⟨A1, hA1⟩ : ∃ A, A = (List.range v).foldl (row n) (base ps) := ⟨_, rfl⟩
          have HA1 := hid_of hA1
          have HB1 : Hid (Bd n A1) := hid_of (by rw [hA1]; exact foldl_bd _ _ _ (bd_base HN.out HV.out) fun _ _ _ hb => hb.row _)
          rw [← hA1] at hs
          obtain ⟨wb, hwb⟩ : ∃ wb : World, wb = wr := ⟨_, rfl⟩
          rw [← hwb] at hs ⊢
          clear hA1 hwb
          go_wp2
          go_loopw [48] (fun iv wr => ∃ j : Nat, iv = .int .i64 j ∧ j ≤ n ∧ Hid (CS w wr b rb n ((List.range j).foldl (wst v) A1) (fun _ => 0))) (fun iv _ => n - (intOf iv).toNat)
          case atStart => exact ⟨0, rfl, Nat.zero_le _, hid_of hs.out⟩
          case round =>
            clear hs
            obtain ⟨a, rfl, ha, hs⟩ := hrel
            by_cases hlt2 : a < n
            · have hd2 : decide (a < n) = true := by simp; omega
              obtain ⟨A2, hA2⟩ : ∃ A, A = (List.range a).foldl (wst v) A1 := ⟨_, rfl⟩
              have HA2 := hid_of hA2
              have HB2 : Hid (Bd n A2) := hid_of (by rw [hA2]; exact foldl_bd _ _ _ HB1.out fun _ x _ hb => hb.wst v x)
              have HNX : Hid ((List.range (a + 1)).foldl (wst v) A1 = wst v A2 a) := hid_of (by rw [range_foldl_succ, hA2])
              rw [← hA2] at hs
              obtain ⟨wc, hwc⟩ : ∃ wc : World, wc = wr := ⟨_, rfl⟩
              rw [← hwc] at hs ⊢
              have r0 := hs.out.rc
              have r1 := hs.out.rl.ca (i := a) (by omega)
              have r3 := hs.out.rl.ca (i := v) (by omega)
              have r2 := hs.out.rl.free (1 + a)
              obtain ⟨q, hq⟩ : ∃ q, q = A2 a := ⟨_, rfl⟩
              obtain ⟨q3, hq3⟩ : ∃ q, q = A2 v := ⟨_, rfl⟩
              rw [← hq] at r1
              rw [← hq3] at r3
              have hq9 : q < M64 := by rw [hq]; exact HB2.out.m64 HN.out a
              have e1 := u64_or_nat q q3 hq9 (by rw [hq3]; exact HB2.out.m64 HN.out v)
              obtain ⟨t, ht⟩ : ∃ t, t = q.testBit v := ⟨_, rfl⟩
              have HH : Hid (Calls Tryd.prog 67 #[.int .u64 q, .int .i64 v] wc fun x w' => x = .returned (.bool t) ∧ wc = w') := hid_of (by rw [ht]; exact has_any q v hq9 (by omega) wc)
              have HW : Hid (wst v A2 a = if t then upd A2 a (q ||| q3) else A2) := hid_of (by rw [ht, hq, hq3]; rfl)
              have b1 : (a : Int) < 64 := by omega
              have b0 : (0 : Int) ≤ (a : Int) := by omega
              have b2 : (v : Int) < 64 := by omega
              have b3 : (0 : Int) ≤ (v : Int) := by omega
              have HA9 : Hid (a < 64) := hid_of (by omega)
              clear hA2 hwc hq hq3 hq9 ht
              cases t
              · go_wp2_with (go_at_call 67; ((with_reducible refine (HH.out).mono ?_); (rintro ee w' ⟨rfl, rfl⟩)))
                go_roundw
                case rel => exact ⟨a + 1, by go_num, by omega, hid_of (by rw [HNX.out, HW.out]; exact hs.out)⟩
                case measure => simp [intOf]; omega
              · go_wp2_with (go_at_call 67; ((with_reducible refine (HH.out).mono ?_); (rintro ee w' ⟨rfl, rfl⟩)))
                refine wp_region_still_tail 16 (by kernel_rfl) (by kernel_rfl) ?_
                simp only [List.take_succ_cons, List.take_zero, List.drop_succ_cons, List.drop_zero]
                repeat still_step
                refine wpStill_nil ?_
                change wpList _ _ _ _ _ wc.drew
                have r1d : wc.drew.cell? ⟨b, 1 + a, none⟩ = some (.int .u64 q) := r1
                have r2d : wc.drew.frozen? ⟨b, 1 + a, none⟩ = false := r2
                have C6 := hid_of hs.out.drew
                generalize wc.drew = w6 at *
                go_wp2
                go_roundw
                case rel => exact ⟨a + 1, by go_num, by omega, hid_of (by
                  rw [HNX.out, HW.out]
                  exact C6.out.setA HA9.out _)⟩
                case measure => simp [intOf]; omega
            · have hd2 : decide (a < n) = false := by simp; omega
              go_wp2
              go_roundw
              case rel => exact ⟨v + 1, by go_num, by omega, hid_of (by
                have := hs.out
                rw [show a = n by omega] at this
                rw [range_foldl_succ, ← HA1.out]
                exact this)⟩
              case measure => simp [intOf]; omega
        · have hd : decide (v < n) = false := by simp; omega
          have CB : Hid (CS w wr b rb n (clo n ps) (fun _ => 0)) := hid_of (by have := hs.out; rw [show v = n by omega] at this; exact this)
          have HBC : Hid (Bd n (clo n ps)) := hid_of (bd_clo HN.out HV.out)
          obtain ⟨A, hA⟩ : ∃ A, A = clo n ps := ⟨_, rfl⟩
          have HACL := hid_of hA
          rw [← hA] at CB HBC
          clear hA
          obtain ⟨wb, hwb⟩ : ∃ wb : World, wb = wr := ⟨_, rfl⟩
          rw [← hwb] at CB ⊢
          clear hwb hs
          go_wp2
          clear hd hlt hv
          go_loopw [78] (fun iv wr => ∃ k : Nat, iv = .int .i64 k ∧ k ≤ n ∧ Hid (CS w wr b rb n A ((List.range k).foldl (bef1 A) (fun _ => 0)))) (fun iv _ => n - (intOf iv).toNat)
          case atStart => exact ⟨0, rfl, Nat.zero_le _, hid_of CB.out⟩
          case round =>
            obtain ⟨a, rfl, ha, hs⟩ := hrel
            by_cases hlt : a < n
            · have hd : decide (a < n) = true := by simp; omega
              obtain ⟨B1, hB1⟩ : ∃ B, B = (List.range a).foldl (bef1 A) (fun _ => 0) := ⟨_, rfl⟩
              have HNX : Hid ((List.range (a + 1)).foldl (bef1 A) (fun _ => 0) = bef1 A B1 a) := hid_of (by rw [range_foldl_succ, hB1])
              have HBB : Hid (Bd n B1) := hid_of (by rw [hB1]; exact foldl_bd _ _ _ (fun _ => Nat.two_pow_pos n) fun _ x hx hb => bd_bef1 HN.out A hb (by have := List.mem_range.1 hx; omega))
              rw [← hB1] at hs
              have HLT := hid_of hlt
              have b1 : (a : Int) < 64 := by have := HN.out; omega
              have b0 : (0 : Int) ≤ (a : Int) := by omega
              clear hB1
              go_wp2
              have C5 : Hid (CS w (wr.alloc (.cells #[.int .i64 a] 3)) b rb n A B1) := hid_of (hs.out.at (bel_alloc _ _))
              have p0 : (wr.alloc (.cells #[.int .i64 a] 3)).cell? ⟨wr.heap.size, 0, none⟩ = some (.int .i64 a) := blk_cell (cs := [.int .i64 a]) (heap_alloc_new wr _) rfl
              have PB0 : wr.heap.size ≠ b := by have := hs.out.rl.lt; omega
              obtain ⟨ab, hab⟩ : ∃ ab, ab = wr.heap.size := ⟨_, rfl⟩
              have PB : Hid (ab ≠ b) := hid_of (by rw [hab]; exact PB0)
              clear PB0
              generalize wr.alloc (.cells #[.int .i64 a] 3) = w5 at *
              rw [← hab] at *
              have r0 := C5.out.rc
              have r1 := C5.out.rl.ca (i := a) (by omega)
              obtain ⟨q, hq⟩ : ∃ q, q = A a := ⟨_, rfl⟩
              rw [← hq] at r1
              have P0 := hid_of p0
              have HE : Hid (Calls Tryd.prog 54 #[.int .u64 q, .func (.func 68) #[] #[.pointer (some ⟨rb, 0, none⟩), .pointer (some ⟨ab, 0, none⟩)]] w5.drew fun e W' => e = .returned (.tuple #[]) ∧ CS w W' b rb n A (bef1 A B1 a) ∧ Kept (fun k => k = b) w5.drew W') := hid_of (by
                rw [hq]
                exact each_clo C5.out.drew (HT.out.at C5.out.drew.bel) HN.out HBC.out HBB.out a ab HLT.out P0.out PB.out W0.out)
              clear hab hq
              refine wp_region_still_tail 7 (by kernel_rfl) (by kernel_rfl) ?_
              simp only [List.take_succ_cons, List.take_zero, List.drop_succ_cons, List.drop_zero]
              repeat still_step
              refine wpStill_nil ?_
              change wpList _ _ _ _ _ w5.drew
              generalize w5.drew = w6 at *
              go_wp2_with (go_at_call 54; ((with_reducible refine (HE.out).mono ?_); (rintro ee w7 ⟨rfl, h7, h8⟩; have C7 := hid_of h7; clear h7 h8)))
              go_roundw
              case rel => exact ⟨a + 1, by go_num, by omega, hid_of (by rw [HNX.out]; exact C7.out)⟩
              case measure => simp [intOf]; omega
            · have hd : decide (a < n) = false := by simp; omega
              have CE : Hid (CS w wr b rb n A (bef n A)) := hid_of (by have := hs.out; rw [show a = n by omega] at this; exact this)
              have r0 := CE.out.rc
              clear hs
              go_wp2
              go_ret2
              exact ⟨b, rfl, CE.out.lo, by have := CE.out.rl; rw [HACL.out] at this; exact this, CE.out.bel⟩
end Go.Proofs.YtjfjcgbdpjpodaaDoor
