/- The reference's Down of package order. Bounds on sizes alone. -/
import Derived.Test.YtjfjcgbdpjpodaaDoorOrdDwc
import Derived.Test.YtjfjcgbdpjpodaaDoorOrdRst
import Derived.Test.YtjfjcgbdpjpodaaDoorOrdRfs
namespace Go.Proofs.YtjfjcgbdpjpodaaDoor
open Go.RowKit

/-- The rest of a check of one element. -/
def dq (n : Nat) (R : Nat → Nat → Bool) (l : List Nat) (x a : Nat) : Bool := (List.range' a (n - a)).all fun y => !R y x || decide (y ∈ l)
theorem dq_end (n : Nat) (R : Nat → Nat → Bool) (l : List Nat) (x : Nat) : dq n R l x n = true := by unfold dq; rw [Nat.sub_self]; rfl
theorem dq_step {n : Nat} (R : Nat → Nat → Bool) (l : List Nat) (x : Nat) {a : Nat} (h : a < n) : dq n R l x a = ((!R a x || decide (a ∈ l)) && dq n R l x (a + 1)) := by
  unfold dq; rw [show n - a = (n - (a + 1)) + 1 by omega, List.range'_succ, List.all_cons]
def dr (n : Nat) (R : Nat → Nat → Bool) (l : List Nat) (i : Nat) : Bool := (l.drop i).all fun x => dq n R l x 0
theorem dr_zero (n : Nat) (R : Nat → Nat → Bool) (l : List Nat) : dr n R l 0 = down n R l := by
  unfold dr down dq
  rw [List.drop_zero, Nat.sub_zero]
  simp only [List.range_eq_range']
theorem dr_end (n : Nat) (R : Nat → Nat → Bool) (l : List Nat) {i : Nat} (h : l.length ≤ i) : dr n R l i = true := by unfold dr; rw [List.drop_of_length_le h]; rfl
theorem dr_step {n : Nat} (R : Nat → Nat → Bool) {l : List Nat} {i x : Nat} (h : l[i]? = some x) : dr n R l i = (dq n R l x 0 && dr n R l (i + 1)) := by
  obtain ⟨h1, h2⟩ := List.getElem?_eq_some_iff.1 h
  unfold dr
  rw [List.drop_eq_getElem_cons h1, h2, List.all_cons]

set_option maxRecDepth 100000 in
set_option maxHeartbeats 3200000 in
theorem rdown_any (ao : Option Addr) (n cap : Nat) (lo : Option Addr) (ll lc : Nat) (l : List Nat) (R : Nat → Nat → Bool) (w : World) (h : RdG w (.slice ao n cap) n R) (hl : Rd w (.slice lo ll lc) (is (nI l))) (hn : n ≤ 64) (hx : ∀ x ∈ l, x < n) :
    Calls Tryd.prog 79 #[.slice ao n cap, .slice lo ll lc] w fun e w' => e = .returned (.bool (down n R l)) ∧ Below w.heap.size w w' := by
  obtain ⟨hll, hlc1, hlc2⟩ := is_cut hl
  have hll : ll = l.length := by rw [hll]; simp [nI]
  have HLL := hid_of hll
  have h63 : ll ≤ 9223372036854775807 := by omega
  have H := hid_of h
  have HL := hid_of hl
  have HN := hid_of hn
  have HX := hid_of hx
  obtain ⟨i0, hi, hz0, hz1, hz2⟩ := info_parts boolsE.info
  obtain ⟨T, hT⟩ : ∃ T, T = down n R l := ⟨_, rfl⟩
  have HT : Hid (T = dr n R l 0) := hid_of (by rw [hT, dr_zero])
  rw [← hT]
  clear h hl hx hT hll hlc1 hlc2
  go_enter Tryd.func79, Tryd.ntmps79
  go_wp2_with (first
    | (at_make; (refine wpList_make_full _ rfl _ _ 48 rfl w.heap.size 4 i0 (.bool false) 1 Tryd.underlying48 hi hz0 hz1 .i64 .i64 n n n rfl rfl rfl rfl (by rw [hz2]; have := HN.out; omega) (by unfold maxLen; have := HN.out; omega) (Nat.le_refl _) ?_); intro w5 hown hgrow; have HR5 := hid_of (made_row (z := .bool false) hown (by rw [Nat.mul_one]; rfl)); have HB5 : Hid (Below w.heap.size w w5) := hid_of ((Below.refl _ _).grown hgrow (Nat.le_refl _) (fun k h => by cases h)); clear hown hgrow))
  have R0 : Hid (w5.heap[w.heap.size]? = some (.cells (bq n (fun _ => false)).toArray 4 (0, 0))) := hid_of (by
    rw [HR5.out, show List.replicate n (Value.bool false) = bq n (fun _ => false) by unfold bq; apply List.ext_getElem? ; intro j; by_cases hj : j < n <;> simp [hj]])
  obtain ⟨g, hg⟩ : ∃ g, g = w.heap.size := ⟨_, rfl⟩
  have HG := hid_of hg
  rw [← hg] at R0 ⊢
  clear hg hi hz0 hz1 hz2 i0 HR5
  go_loopw [6] (fun iv wr => ∃ (i : Nat) (f : Nat → Bool), i ≤ ll ∧ iv = .int .i64 i ∧ Hid ((∀ x, x < n → f x = decide (x ∈ l.take i)) ∧ wr.heap[g]? = some (.cells (bq n f).toArray 4 (0, 0)) ∧ Below w.heap.size w wr)) (fun iv _ => ll - (intOf iv).toNat)
  case atStart => exact ⟨0, fun _ => false, Nat.zero_le _, rfl, hid_of ⟨fun x _ => by simp, R0.out, HB5.out⟩⟩
  case round =>
    obtain ⟨i, f, hi, rfl, hs⟩ := hrel
    have HS := hid_of hs.out
    clear hs R0 HB5
    by_cases hlt : i < ll
    · obtain ⟨q, o, rfl, hq, hqc⟩ := is_open HL.out (by omega)
      obtain ⟨x, hx⟩ : ∃ x, l[i]? = some x := ⟨_, List.getElem?_eq_getElem (by have := HLL.out; omega)⟩
      have c1 := (HS.out.2.2.cell (p := ⟨q, o + i, none⟩) hq).trans (hqc i x (by simp [nI, hx]))
      have hxn := HX.out x (List.mem_of_getElem? hx)
      have b1 : (i : Int) < (ll : Int) := by omega
      have b0 : (0 : Int) ≤ (i : Int) := by omega
      have b2 : (x : Int) < (n : Int) := by omega
      have b3 : (0 : Int) ≤ (x : Int) := by omega
      have r1 := blk_cell HS.out.2.1 (bq_get f hxn)
      have f1 := blk_free HS.out.2.1 x
      have HIX := hid_of hx
      have HXN := hid_of hxn
      clear hqc hx hxn
      go_wp2
      go_roundw
      case rel =>
        refine ⟨i + 1, fun y => if y = x then true else f y, by omega, by go_num, hid_of ⟨fun y hy => ?_, ?_, ?_⟩⟩
        · have hm : y ∈ l.take (i + 1) ↔ y = x ∨ y ∈ l.take i := by
            rw [List.take_add_one, HIX.out]; simp [or_comm]
          by_cases e : y = x
          · show (if y = x then true else f y) = _; rw [if_pos e]; exact (decide_eq_true (hm.2 (.inl e))).symm
          · show (if y = x then true else f y) = _; rw [if_neg e, HS.out.1 y hy]; exact decide_eq_decide.2 ⟨fun h => hm.2 (.inr h), fun h => (hm.1 h).resolve_left e⟩
        · have := blk_setCell (k := x) (u := .bool true) HS.out.2.1
          rw [this, bq_set]
        · exact HS.out.2.2.setCell (by rw [HG.out]; exact Nat.le_refl _) _
      case measure => simp [intOf]; omega
    · obtain rfl : i = ll := by omega
      have HF : Hid (∀ x, x < n → f x = decide (x ∈ l)) := hid_of (fun x hx => by rw [HS.out.1 x hx, List.take_of_length_le (by have := HLL.out; omega)])
      obtain ⟨w2, hw2⟩ : ∃ w2 : World, w2 = wr := ⟨_, rfl⟩
      have HW2 : Hid (w2.heap[g]? = some (.cells (bq n f).toArray 4 (0, 0)) ∧ Below w.heap.size w w2) := hid_of (by rw [hw2]; exact HS.out.2)
      have HWR : Hid (Below w2.heap.size w2 wr) := hid_of (by rw [hw2]; exact Below.refl _ _)
      clear hw2 HS
      go_wp2
      go_loopw [7] (fun iv wr => ∃ j : Nat, j ≤ i ∧ iv = .int .i64 j ∧ Hid (T = dr n R l j) ∧ Hid (Below w2.heap.size w2 wr)) (fun iv _ => i - (intOf iv).toNat)
      case atStart => exact ⟨0, Nat.zero_le _, rfl, HT, HWR⟩
      case round =>
        obtain ⟨j, hj, rfl, ht, hb⟩ := hrel
        by_cases hlt : j < i
        · obtain ⟨q, o, rfl, hq, hqc⟩ := is_open HL.out (by omega)
          obtain ⟨x, hx⟩ : ∃ x, l[j]? = some x := ⟨_, List.getElem?_eq_getElem (by have := HLL.out; omega)⟩
          have HC1 := hid_of (fun (W : World) (hb : Below w.heap.size w W) => (hb.cell (p := ⟨q, o + j, none⟩) hq).trans (hqc j x (by simp [nI, hx])))
          have hxn := HX.out x (List.mem_of_getElem? hx)
          have b1 : (j : Int) < (i : Int) := by omega
          have b0 : (0 : Int) ≤ (j : Int) := by omega
          have b2 : (x : Int) < (n : Int) := by omega
          have b3 : (0 : Int) ≤ (x : Int) := by omega
          have HT2 : Hid (T = (dq n R l x 0 && dr n R l (j + 1))) := hid_of (by rw [ht.out]; exact dr_step R hx)
          have HXN := hid_of hxn
          have HB := hid_of hb.out
          clear hqc hx hxn ht hb
          go_wp2
          go_loopw [8] (fun av wr => ∃ a : Nat, a ≤ n ∧ av = .int .i64 a ∧ Hid (T = (dq n R l x a && dr n R l (j + 1))) ∧ Hid (Below w2.heap.size w2 wr)) (fun av _ => n - (intOf av).toNat)
          case atStart => exact ⟨0, Nat.zero_le _, rfl, HT2, HB⟩
          case round =>
            obtain ⟨a, ha, rfl, ht, hb⟩ := hrel
            have HTA := hid_of ht.out
            have HBA := hid_of hb.out
            clear ht hb
            by_cases hlt2 : a < n
            · obtain ⟨qa, rfl, hqa, hqac⟩ := H.out.open (by omega)
              obtain ⟨ga, hga, q1, q2⟩ := hqac a hlt2
              have bw := HW2.out.2.trans (HBA.out.mono HW2.out.2.size)
              have c1 := HC1.out _ bw
              have c2 := (bw.cell (p := ⟨qa, a, none⟩) hqa).trans q1
              have c3 := (bw.cell (p := ⟨ga, x, none⟩) hga).trans (q2 x HXN.out)
              have c4 := (HBA.out.cell (p := ⟨g, a, none⟩) (lt_of_block HW2.out.1)).trans (blk_cell HW2.out.1 (bq_get f hlt2))
              have b4 : (a : Int) < (n : Int) := by omega
              have b5 : (0 : Int) ≤ (a : Int) := by omega
              have hst := HTA.out
              rw [dq_step R l x hlt2, ← HF.out a hlt2] at hst
              obtain ⟨v1, hv1⟩ : ∃ v, v = R a x := ⟨_, rfl⟩
              obtain ⟨v2, hv2⟩ : ∃ v, v = f a := ⟨_, rfl⟩
              rw [← hv1] at c3 hst
              rw [← hv2] at c4 hst
              have HST := hid_of hst
              clear hqac hst bw hv1 hv2 q1 q2
              cases v1
              · go_wp2
                go_quiet (fail)
                go_wp2
                go_roundw
                case rel => exact ⟨a + 1, by omega, by go_num, hid_of (by rw [HST.out]; rfl), hid_of (bel_drewN HBA.out _)⟩
                case measure => simp [intOf]; omega
              · cases v2
                · go_wp2
                  go_quiet (fail)
                  go_wp2
                  go_ret
                  exact ⟨by rw [HST.out]; rfl, HW2.out.2.trans ((bel_drewN HBA.out _).mono HW2.out.2.size)⟩
                · go_wp2
                  go_quiet (fail)
                  go_wp2
                  go_roundw
                  case rel => exact ⟨a + 1, by omega, by go_num, hid_of (by rw [HST.out]; rfl), hid_of (bel_drewN HBA.out _)⟩
                  case measure => simp [intOf]; omega
            · obtain rfl : a = n := by omega
              go_wp2
              go_roundw
              case rel => exact ⟨j + 1, by omega, by go_num, hid_of (by rw [HTA.out, dq_end]; rfl), HBA⟩
              case measure => simp [intOf]; omega
        · obtain rfl : j = i := by omega
          have HTE : Hid (T = true) := hid_of (by rw [ht.out]; exact dr_end n R l (by have := HLL.out; omega))
          have HB := hid_of hb.out
          clear ht hb
          go_wp2
          go_ret
          exact ⟨by rw [HTE.out]; rfl, HW2.out.2.trans (HB.out.mono HW2.out.2.size)⟩
end Go.Proofs.YtjfjcgbdpjpodaaDoor
