/- The reference's Sort. Bounds on sizes alone. -/
import Derived.Test.YtjfjcgbdpjpodaaDoorOrdLch
namespace Go.Proofs.YtjfjcgbdpjpodaaDoor
open Go.RowKit

def bq (n : Nat) (f : Nat → Bool) : List Value := (List.range n).map fun x => .bool (f x)
theorem bq_get {n : Nat} (f : Nat → Bool) {x : Nat} (h : x < n) : (bq n f)[x]? = some (.bool (f x)) := by simp [bq, h]
theorem bq_set {n : Nat} (f : Nat → Bool) (i : Nat) (v : Bool) : (bq n f).set i (.bool v) = bq n (fun x => if x = i then v else f x) := by
  unfold bq
  apply List.ext_getElem?
  intro j
  rw [List.getElem?_set]
  by_cases hj : j < n
  · by_cases e : i = j
    · subst e; simp [hj]
    · simp [hj, e, Ne.symm e]
  · by_cases e : i = j
    · subst e; rw [if_pos rfl, if_neg (by simpa using hj), List.getElem?_eq_none (by simp; omega)]
    · rw [if_neg e, List.getElem?_eq_none (by simp; omega), List.getElem?_eq_none (by simp; omega)]
theorem bq_congr {n : Nat} {f f' : Nat → Bool} (h : ∀ x, x < n → f x = f' x) : bq n f = bq n f' := by
  unfold bq
  exact List.map_congr_left fun x hx => by rw [h x (by simpa using hx)]
/-- What the reference's Sort holds: what is used in block g, the list. -/
structure RS (w W : World) (n g : Nat) (f : Nat → Bool) (v : Value) (l : List Nat) : Prop where
  bel : Below w.heap.size w W
  wg : w.heap.size ≤ g
  used : W.heap[g]? = some (.cells (bq n f).toArray 4 (0, 0))
  own : W.ownsRow w.heap.size 3 1 v l.length (is (nI l))
section
variable {w W W' : World} {n g : Nat} {f f' : Nat → Bool} {v : Value} {l : List Nat}
theorem RS.ne (h : RS w W n g f v l) {k : Nat} (hk : v.ownBlock = some k) : k ≠ g := by
  intro e
  subst e
  rcases h.own.2 with ⟨e, _⟩ | ⟨q, cap, cur, e, _, h2, _⟩
  · rw [e] at hk; cases hk
  · rw [e] at hk
    simp only [Value.ownBlock, Option.some.injEq] at hk
    subst hk
    have := h.used
    rw [h2] at this
    simp at this
theorem RS.set (h : RS w W n g f v l) (i : Nat) : RS w (W.setCell ⟨g, i, none⟩ (.bool true)) n g (fun x => if x = i then true else f x) v l := by
  have o : ∀ k, k ≠ g → (W.setCell ⟨g, i, none⟩ (.bool true)).heap[k]? = W.heap[k]? := fun k hk => Below.heap_setCell _ _ _ _ hk
  refine ⟨⟨h.bel.os, h.bel.tape, h.bel.output, by simpa using h.bel.size, fun k hk => ?_⟩, h.wg, ?_, own_same h.own fun k hk => o k (h.ne hk)⟩
  · rw [o k (by have := h.wg; omega)]; exact h.bel.block k hk
  · have := blk_setCell (k := i) (u := .bool true) h.used
    rw [bq_set] at this
    exact this
theorem RS.app (h : RS w W n g f v l) {o : Obj} {ao : Option Addr} {m cap e : Nat} (hg : (W.alloc o).grownBy W' v.ownBlock) (hm : m = l.length + 1) (ho : W'.ownsRow w.heap.size 3 1 (.slice ao m cap) m (is (nI l) ++ [.int .i64 e])) : RS w W' n g f (.slice ao m cap) (l ++ [e]) := by
  have hz : (W.alloc o).heap.size = W.heap.size + 1 := by simp
  have old : ∀ k, k < W.heap.size → (∀ q, v.ownBlock = some q → k ≠ q) → W'.heap[k]? = W.heap[k]? := fun k hk hne => by
    rw [hg.block k (by omega) (fun e => hne k e.symm rfl)]
    exact (bel_alloc W o).block k hk
  have hws := h.bel.size
  refine ⟨⟨hg.os.trans h.bel.os, hg.tape.trans h.bel.tape, hg.output.trans h.bel.output, by have := hg.size; omega, fun k hk => ?_⟩, h.wg, ?_, ?_⟩
  · rw [old k (by omega) (fun q hq => by have := (h.own.lt q hq).1; omega)]
    exact h.bel.block k hk
  · rw [old g (lt_of_block h.used) (fun q hq => Ne.symm (h.ne hq))]; exact h.used
  · have e1 : (l ++ [e]).length = m := by rw [hm]; simp
    rw [e1, show nI (l ++ [e]) = nI l ++ [(e : Int)] by simp [nI], is_append]
    exact ho
theorem RS.congr (h : RS w W n g f v l) (he : ∀ x, x < n → f x = f' x) : RS w W n g f' v l := ⟨h.bel, h.wg, by rw [← bq_congr he]; exact h.used, h.own⟩
end
/-- Whether b is free after a look at the first a elements. -/
def fr (M : Nat → Nat → Bool) (f : Nat → Bool) (b a : Nat) : Bool := (!f b) && (List.range a).all fun x => !(M x b && !f x)
theorem fr_succ (M : Nat → Nat → Bool) (f : Nat → Bool) (b a : Nat) : fr M f b (a + 1) = (fr M f b a && !(M a b && !f a)) := by
  unfold fr; rw [List.range_succ, List.all_append]; simp [Bool.and_assoc]
/-- The least free one at or above j. -/
def NX (n : Nat) (M : Nat → Nat → Bool) (f : Nat → Bool) (j : Nat) (v : Int) : Prop :=
  (v = -1 ∧ ∀ x, j ≤ x → x < n → fr M f x n = false) ∨ ∃ x : Nat, v = x ∧ j ≤ x ∧ x < n ∧ fr M f x n = true ∧ ∀ y, j ≤ y → y < x → fr M f y n = false
theorem NX.no {n : Nat} {M : Nat → Nat → Bool} {f : Nat → Bool} {b : Nat} {v : Int} (h : NX n M f (b + 1) v) (hb : fr M f b n = false) : NX n M f b v := by
  rcases h with ⟨h1, h2⟩ | ⟨x, h1, h2, h3, h4, h5⟩
  · refine .inl ⟨h1, fun x hx hxn => ?_⟩
    by_cases e : x = b
    · rw [e]; exact hb
    · exact h2 x (by omega) hxn
  · refine .inr ⟨x, h1, by omega, h3, h4, fun y hy hyx => ?_⟩
    by_cases e : y = b
    · rw [e]; exact hb
    · exact h5 y (by omega) hyx
theorem NX.yes {n : Nat} {M : Nat → Nat → Bool} {f : Nat → Bool} {b : Nat} (hbn : b < n) (hb : fr M f b n = true) : NX n M f b (b : Int) := .inr ⟨b, rfl, Nat.le_refl _, hbn, hb, fun y h1 h2 => by omega⟩
theorem NX.is {n : Nat} {M : Nat → Nat → Bool} {f : Nat → Bool} {v : Int} {e : Nat} (h : NX n M f 0 v) (he : e < n) (h1 : fr M f e n = true) (h2 : ∀ x, x < e → fr M f x n = false) : v = e := by
  rcases h with ⟨_, h3⟩ | ⟨x, h3, _, h4, h5, h6⟩
  · rw [h3 e (by omega) he] at h1; cases h1
  · rcases Nat.lt_trichotomy x e with h7 | h7 | h7
    · rw [h2 x h7] at h5; cases h5
    · rw [h3, h7]
    · rw [h6 e (by omega) h7] at h1; cases h1
theorem fr_iff {n : Nat} {M : Nat → Nat → Bool} {f : Nat → Bool} {b : Nat} {L : List Nat} (hM : ∀ x, M x b = true → x < n) (hf : ∀ x, x < n → f x = decide (x ∈ L)) (hb : b < n) : fr M f b n = true ↔ b ∉ L ∧ ∀ x, M x b = true → x ∈ L := by
  unfold fr
  simp only [Bool.and_eq_true, Bool.not_eq_true', List.all_eq_true, List.mem_range, Bool.and_eq_false_iff, Bool.not_eq_false']
  rw [hf b hb]
  constructor
  · rintro ⟨h1, h2⟩
    refine ⟨by simpa using h1, fun x hx => ?_⟩
    rcases h2 x (hM x hx) with h3 | h3
    · rw [hx] at h3; cases h3
    · rw [hf x (hM x hx)] at h3; simpa using h3
  · rintro ⟨h1, h2⟩
    refine ⟨by simpa using h1, fun x hx => ?_⟩
    cases hm : M x b
    · exact .inl rfl
    · exact .inr (by rw [hf x hx]; simpa using h2 x hm)

set_option maxRecDepth 100000 in
set_option maxHeartbeats 3200000 in
theorem rsort_any (ao : Option Addr) (n cap : Nat) (A : Nat → Nat) (w : World) (h : RdG w (.slice ao n cap) n (bm A)) (hn : n ≤ 64) (hso : SO n (bm A)) :
    Calls Tryd.prog 61 #[.slice ao n cap] w fun e w' => ∃ xo xc, e = .returned (.slice xo n xc) ∧ w'.ownsRow w.heap.size 3 1 (.slice xo n xc) n (is (nI (srt n (bef n A) n).2)) ∧ Below w.heap.size w w' := by
  have H := hid_of h
  have HN := hid_of hn
  have HSO := hid_of hso
  have HOE := hid_of (ow_empty 3 w)
  obtain ⟨i0, hi, hz0, hz1, hz2⟩ := info_parts boolsE.info
  clear h hso
  obtain ⟨B, hB⟩ : ∃ B, B = bef n A := ⟨_, rfl⟩
  rw [← hB]
  go_enter Tryd.func61, Tryd.ntmps61
  go_wp2_with (first
    | (at_make; (refine wpList_make_full _ rfl _ _ 48 rfl (w.alloc (.cells #[] 3)).heap.size 4 i0 (.bool false) 1 Tryd.underlying48 hi hz0 hz1 .i64 .i64 n n n rfl rfl rfl rfl (by rw [hz2]; have := HN.out; omega) (by unfold maxLen; have := HN.out; omega) (Nat.le_refl _) ?_); intro w5 hown hgrow; have HR5 := hid_of (made_row (z := .bool false) hown (by rw [Nat.mul_one]; rfl)); have HB5 : Hid (Below (w.alloc (.cells #[] 3)).heap.size (w.alloc (.cells #[] 3)) w5) := hid_of ((Below.refl _ _).grown hgrow (Nat.le_refl _) (fun k h => by cases h)); clear hown hgrow))
  have R0 : Hid (RS w w5 n (w.heap.size + 1) (fun _ => false) (.slice (some ⟨w.heap.size, 0, none⟩) 0 0) []) := hid_of (by
    have z1 : (w.alloc (.cells #[] 3)).heap.size = w.heap.size + 1 := by simp
    have b5 := HB5.out
    have h5 := HR5.out
    rw [z1] at b5 h5
    refine ⟨(bel_alloc w _).trans (b5.mono (by omega)), by omega, ?_, own_same HOE.out.own fun k hk => b5.block k (by have := (HOE.out.own.lt k hk).2; rw [z1] at this; exact this)⟩
    rw [h5, show List.replicate n (Value.bool false) = bq n (fun _ => false) by unfold bq; apply List.ext_getElem? ; intro j; by_cases hj : j < n <;> simp [hj]])
  obtain ⟨g, hg⟩ : ∃ g, g = w.heap.size + 1 := ⟨_, rfl⟩
  rw [← hg] at R0 ⊢
  clear hg hi hz0 hz1 hz2 i0 HR5 HB5 HOE
  go_loopw [3] (fun ov wr => ∃ (k : Nat) (xo : Option Addr) (xc : Nat) (f : Nat → Bool), k ≤ n ∧ ov = .slice xo k xc ∧ Hid ((∀ x, x < n → f x = decide (x ∈ (srt n B k).2)) ∧ RS w wr n g f (.slice xo k xc) (srt n B k).2)) (fun ov _ => n - lenOf ov)
  case atStart => exact ⟨0, _, 0, fun _ => false, Nat.zero_le _, rfl, hid_of ⟨fun x _ => by simp [srt], R0.out⟩⟩
  case round =>
    clear R0
    obtain ⟨k, xo, xc, f, hk, rfl, hs⟩ := hrel
    by_cases hlt : k < n
    · have hd : decide (k < n) = true := by simp; omega
      have hd2 : decide ((k : Int) < (n : Int)) = true := by simp; omega
      obtain ⟨e, he⟩ : ∃ e, e = low (rdy n B (srt n B k).1) := ⟨_, rfl⟩
      have hnx := srt_next HN.out HSO.out hlt (srt_inv HN.out HSO.out k hk) e (by rw [he, hB])
      rw [← hB] at hnx
      have HS1 : Hid ((srt n B (k + 1)).2 = (srt n B k).2 ++ [e]) := hid_of (by rw [he]; rfl)
      have HLE : Hid ((srt n B k).2.length = k) := hid_of (srt_len n B k)
      generalize (srt n B k).2 = l at *
      have hfr : ∀ x, x < n → (fr (bm A) f x n = true ↔ x ∉ l ∧ ∀ y, bm A y x = true → y ∈ l) := fun x hx => fr_iff (fun y hy => (HSO.out.lt y x hy).1) hs.out.1 hx
      have HE : Hid (e < n ∧ fr (bm A) f e n = true ∧ ∀ x, x < e → fr (bm A) f x n = false) := hid_of ⟨hnx.1, (hfr e hnx.1).2 ⟨hnx.2.1, hnx.2.2.1⟩, fun x hx => by
        rw [Bool.eq_false_iff]
        intro h1
        have h2 := (hfr x (by have := hnx.1; omega)).1 h1
        obtain ⟨y, h3, h4⟩ := hnx.2.2.2 x hx h2.1
        exact h4 (h2.2 y h3)⟩
      have HNF : Hid (∀ x, x < n → (if x = e then true else f x) = decide (x ∈ l ++ [e])) := hid_of (fun x hx => by
        by_cases hxe : x = e
        · rw [if_pos hxe]; simp [hxe]
        · rw [if_neg hxe, hs.out.1 x hx]; simp [hxe])
      have HXN : Hid (NX n (bm A) f n (-1)) := hid_of (.inl ⟨rfl, fun x h1 h2 => by omega⟩)
      clear he hnx hfr
      obtain ⟨wo, hwo⟩ : ∃ wo : World, wo = wr := ⟨_, rfl⟩
      rw [← hwo] at hs ⊢
      clear hwo
      go_wp2
      go_loopw [5, 6] (fun nv bv wr => ∃ (j : Nat) (v : Int), j ≤ n ∧ bv = .int .i64 ((j : Int) - 1) ∧ nv = .int .i64 v ∧ Hid (NX n (bm A) f j v) ∧ wo = wr) (fun _ bv _ => (intOf bv + 1).toNat)
      case atStart => exact ⟨n, -1, Nat.le_refl _, rfl, rfl, HXN, rfl⟩
      case round =>
        obtain ⟨j, v, hj, rfl, rfl, hx, rfl⟩ := hrel
        by_cases hlt2 : 0 < j
        · obtain ⟨b, hb⟩ : ∃ b, b = j - 1 := ⟨_, rfl⟩
          have hbj : (j : Int) - 1 = (b : Int) := by omega
          have hx2 : Hid (NX n (bm A) f (b + 1) v) := hid_of (by rw [show b + 1 = j by omega]; exact hx.out)
          rw [hbj]
          have hd3 : decide ((0 : Int) ≤ (b : Int)) = true := by simp
          have hbn : b < n := by omega
          have r1 := blk_cell hs.out.2.used (bq_get f hbn)
          obtain ⟨fb, hfb⟩ : ∃ t, t = f b := ⟨_, rfl⟩
          rw [← hfb] at r1
          have HF0 : Hid (fr (bm A) f b 0 = !fb) := hid_of (by unfold fr; rw [hfb]; simp)
          have b1 : (b : Int) < (n : Int) := by omega
          have b0 : (0 : Int) ≤ (b : Int) := by omega
          have HBN := hid_of hbn
          clear hx hbj hb hfb
          go_wp2
          go_loopw [7, 8] (fun fv av wr => ∃ a : Nat, a ≤ n ∧ av = .int .i64 a ∧ fv = .bool (fr (bm A) f b a) ∧ wo = wr) (fun _ av _ => n - (intOf av).toNat)
          case atStart => exact ⟨0, Nat.zero_le _, rfl, by rw [HF0.out], rfl⟩
          case round =>
            obtain ⟨a, ha, rfl, rfl, rfl⟩ := hrel
            obtain ⟨q, rfl, hq, hqc⟩ := H.out.open (by omega)
            obtain ⟨t, ht⟩ : ∃ t, t = fr (bm A) f b a := ⟨_, rfl⟩
            rw [← ht]
            have HTT := hid_of ht
            by_cases hlt3 : a < n
            · have hd4 : decide (a < n) = true := by simp; omega
              obtain ⟨ga, hga, q1, q2⟩ := hqc a hlt3
              have c1 := (hs.out.2.bel.cell (p := ⟨q, a, none⟩) hq).trans q1
              have c2 := (hs.out.2.bel.cell (p := ⟨ga, b, none⟩) hga).trans (q2 b hbn)
              have c3 := blk_cell hs.out.2.used (bq_get f hlt3)
              obtain ⟨v1, hv1⟩ : ∃ v, v = bm A a b := ⟨_, rfl⟩
              obtain ⟨v2, hv2⟩ : ∃ v, v = f a := ⟨_, rfl⟩
              rw [← hv1] at c2
              rw [← hv2] at c3
              have HMS : Hid (fr (bm A) f b (a + 1) = (t && !(v1 && !v2))) := hid_of (by rw [fr_succ, ht, hv1, hv2])
              have b3 : (a : Int) < (n : Int) := by omega
              have b2 : (0 : Int) ≤ (a : Int) := by omega
              clear hqc q1 q2 hv1 hv2 ht
              cases v1
              · go_wp2
                go_roundw
                case rel => exact ⟨a + 1, by omega, by go_num, by rw [HMS.out]; simp, by first | rfl | trivial⟩
                case measure => simp [intOf]; omega
              · cases v2
                · go_wp2
                  go_roundw
                  case rel => exact ⟨a + 1, by omega, by go_num, by rw [HMS.out]; simp, by first | rfl | trivial⟩
                  case measure => simp [intOf]; omega
                · go_wp2
                  go_roundw
                  case rel => exact ⟨a + 1, by omega, by go_num, by rw [HMS.out]; simp, by first | rfl | trivial⟩
                  case measure => simp [intOf]; omega
            · have hd4 : decide (a < n) = false := by simp; omega
              have HT2 : Hid (fr (bm A) f b n = t) := hid_of (by rw [ht, show a = n by omega])
              clear ht hqc
              cases t
              · go_wp2
                go_roundw
                case rel => exact ⟨b, v, by omega, by go_num, rfl, hid_of (hx2.out.no HT2.out), by first | rfl | trivial⟩
                case measure => simp [intOf] <;> omega
              · go_wp2
                go_roundw
                case rel => exact ⟨b, (b : Int), by omega, by go_num, rfl, hid_of (NX.yes HBN.out HT2.out), by first | rfl | trivial⟩
                case measure => simp [intOf] <;> omega
        · obtain rfl : j = 0 := by omega
          have hd3 : decide ((0 : Int) ≤ ((0 : Nat) : Int) - 1) = false := by decide
          have hve : v = (e : Int) := hx.out.is HE.out.1 HE.out.2.1 HE.out.2.2
          subst hve
          have r1 := blk_cell hs.out.2.used (bq_get f HE.out.1)
          have r2 := blk_free hs.out.2.used e
          have b1 : (e : Int) < (n : Int) := by have := HE.out.1; omega
          have b0 : (0 : Int) ≤ (e : Int) := by omega
          have S2 := hid_of (hs.out.2.set e)
          have HLI : Hid ((is (nI l)).length = k) := hid_of (by rw [is_length, nI_length, HLE.out])
          go_wp2_with (at_builtin; ((refine wpList_ing rfl _ _ rfl (v := .slice xo k xc) rfl (l := is (nI l)) (by rw [HLI.out]; have := S2.out.own; rwa [HLE.out] at this) S2.out.bel.size (e : Int) (Eq.trans (b := Value.slice (some ⟨wo.heap.size, 0, none⟩) 1 1) rfl (by simp)) (by rw [HLI.out]; have := HN.out; omega) ?_); intro yo yn yc w8 hyn ho8 hg8 _; have S8 := hid_of (S2.out.app (e := e) hg8 (by rw [hyn, HLI.out, HLE.out]) ho8); obtain rfl : yn = k + 1 := (by rw [hyn, HLI.out]); clear ho8 hg8 hyn))
          go_roundw
          case rel => exact ⟨k + 1, yo, yc, fun x => if x = e then true else f x, by omega, rfl, hid_of ⟨fun x hx => by rw [HS1.out]; exact HNF.out x hx, by rw [HS1.out]; exact S8.out⟩⟩
          case measure => simp [lenOf]; omega
    · have hd : decide (k < n) = false := by simp; omega
      have hd2 : decide ((k : Int) < (n : Int)) = false := by simp; omega
      obtain rfl : k = n := by omega
      have HR : Hid (wr.ownsRow w.heap.size 3 1 (.slice xo k xc) k (is (nI (srt k B k).2)) ∧ Below w.heap.size w wr) := hid_of ⟨by
        have h1 := hs.out.2.own
        have hl : (srt k B k).2.length = k := srt_len k B k
        rw [hl] at h1
        exact h1, hs.out.2.bel⟩
      clear hs
      go_wp2
      go_ret
      exact ⟨xo, xc, rfl, HR.out.1, HR.out.2⟩
end Go.Proofs.YtjfjcgbdpjpodaaDoor
