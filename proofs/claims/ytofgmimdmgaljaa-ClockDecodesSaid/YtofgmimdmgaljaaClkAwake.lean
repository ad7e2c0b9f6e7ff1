/- The examples of the chapter of clock: awake returns true; contracts in the words of version vectors. -/
import Derived.Test.YtofgmimdmgaljaaClkDec
namespace Go.Proofs.Ytofgmimdmgaljaa
open Go.RowKit

section
variable {ao bo : Option Addr} {n cap m cbp : Nat} {a b : List Tk} {w : World}
theorem mrg_c (ra : TRd w (.slice ao n cap) a) (rb : TRd w (.slice bo m cbp) b) (va : VV a) (vb : VV b) :
    Calls Try.prog 22 #[.slice ao n cap, .slice bo m cbp] w fun e w' => ∃ x k c, e = .returned (.slice x k c) ∧ TRd w' (.slice x k c) (mrg a b) ∧ Below w.heap.size w w' := by
  have := op_max_any ao bo n cap m cbp a b w ra rb
  rw [vop_ok va vb] at this
  exact this
theorem cmn_c (ra : TRd w (.slice ao n cap) a) (rb : TRd w (.slice bo m cbp) b) (va : VV a) (vb : VV b) :
    Calls Try.prog 24 #[.slice ao n cap, .slice bo m cbp] w fun e w' => ∃ x k c, e = .returned (.slice x k c) ∧ TRd w' (.slice x k c) (cmn a b) ∧ Below w.heap.size w w' := by
  have := op_min_any ao bo n cap m cbp a b w ra rb
  rw [vop_ok va vb] at this
  exact this
theorem sub_c (ra : TRd w (.slice ao n cap) a) (rb : TRd w (.slice bo m cbp) b) (va : VV a) (vb : VV b) :
    Calls Try.prog 26 #[.slice ao n cap, .slice bo m cbp] w fun e w' => ∃ x k c, e = .returned (.slice x k c) ∧ TRd w' (.slice x k c) (sub a b) ∧ Below w.heap.size w w' := by
  have := op_sub_any ao bo n cap m cbp a b w ra rb
  rw [vop_ok va vb] at this
  exact this
theorem same_c {r : Bool} (ra : TRd w (.slice ao n cap) a) (rb : TRd w (.slice bo m cbp) b) (h : r = decide (a = b)) :
    Calls Try.prog 20 #[.slice ao n cap, .slice bo m cbp] w fun e w' => e = .returned (.bool r) ∧ Below w.heap.size w w' := by
  subst h; exact same_any ao bo n cap m cbp a b w ra rb
theorem valid_c {r : Bool} (ra : TRd w (.slice ao n cap) a) (h : r = okV a) :
    Calls Try.prog 16 #[.slice ao n cap] w fun e w' => e = .returned (.bool r) ∧ Below w.heap.size w w' := valid_b ao n cap a w r h ra
theorem get_c {p r : Int} (ra : TRd w (.slice ao n cap) a) (va : VV a) (h : r = look a p) :
    Calls Try.prog 18 #[.slice ao n cap, .int .i64 p] w fun e w' => e = .returned (.int .i64 r) ∧ Below w.heap.size w w' := by
  have := get_any ao n cap a p w ra
  rw [if_pos ((okV_iff a).2 va), ← h] at this
  exact this
theorem cmp_c {r : Int} (ra : TRd w (.slice ao n cap) a) (rb : TRd w (.slice bo m cbp) b) (h : r = cmpW a b) :
    Calls Try.prog 21 #[.slice ao n cap, .slice bo m cbp] w fun e w' => e = .returned (.int .i64 r) ∧ Below w.heap.size w w' := by
  subst h; exact compare_any ao bo n cap m cbp a b w ra rb
theorem long_c {ao : Option Addr} {n cap : Nat} {w : World} {r : Bool} (h : r = decide (200 < n)) :
    Calls Try.prog 13 #[.slice ao n cap] w fun e w' => e = .returned (.bool r) ∧ w = w' := by
  subst h; exact long_any ao n cap w
end

def TA : List Tk := [(0, 3), (2, 1)]
def TB : List Tk := [(0, 1), (5, 4)]
def TC : List Tk := [(2, 1)]
def TD : List Tk := [(0, 1), (2, 1)]
theorem ta_ok : okV TA = true := by kernel_rfl
theorem tb_ok : okV TB = true := by kernel_rfl
theorem inc_tc : incV TC 0 = (TD, 0) := by kernel_rfl
theorem mrg_len : (mrg TA TB).length = 3 := by kernel_rfl
theorem cmn_len : (cmn TA TB).length = 1 := by kernel_rfl
theorem sub_tab : sub TA TB = TA := by kernel_rfl
theorem cmp_tab : cmpW TA TB = 3 := by kernel_rfl
theorem get_tb : (4 : Int) = look TB 5 := by kernel_rfl
theorem dcd_ex : dcd [2, 0, 3, 2, 200, 1] = some [(0, 3), (2, 200)] := by kernel_rfl
theorem enc_ta : encV TA = [2, 0, 3, 2, 1] := by
  have e : ∀ n : Nat, n < 128 → Wr.enc n = [(n : Int)] := fun n h => Wr.enc_lt h
  simp only [encV, encT, TA, List.flatMap_cons, List.flatMap_nil, List.length_cons, List.length_nil]
  rw [e 2 (by omega), e (0 : Int).toNat (by decide), e (3 : Int).toNat (by decide), e (2 : Int).toNat (by decide), e (1 : Int).toNat (by decide)]
  rfl

theorem inc_x (w : World) :
    Calls Try.prog 14 #[.slice (some ⟨w.heap.size, 0, none⟩) 1 1, .int .i64 0] (w.alloc (.cells #[.int .i64 2, .int .i64 1] 41)) fun e w' => ∃ x k c, e = .returned (.tuple #[.slice x k c, .int .i64 0]) ∧ TRd w' (.slice x k c) TD ∧ Below w.heap.size w w' := by
  have := inc_any (some ⟨w.heap.size, 0, none⟩) 1 1 TC 0 _ (trd_new (w := w) (l := TC) (n := 1) (cs := #[.int .i64 2, .int .i64 1]) (E := 41) (m := (0, 0)) rfl rfl (by decide))
  rw [inc_tc] at this
  exact this.mono fun e w' ⟨x, k, c, he, h1, h2⟩ => ⟨x, k, c, he, h1, bel_fst h2⟩
theorem dec_x (w : World) :
    Calls Try.prog 30 #[.slice (some ⟨w.heap.size, 0, none⟩) 6 6] (w.alloc (.cells #[.int .u8 2, .int .u8 0, .int .u8 3, .int .u8 2, .int .u8 200, .int .u8 1] 5)) fun e w' => ∃ x c, e = .returned (.tuple #[.slice x 2 c, .int .i64 0]) ∧ Below w.heap.size w w' := by
  have h : BR (w.alloc (.cells #[.int .u8 2, .int .u8 0, .int .u8 3, .int .u8 2, .int .u8 200, .int .u8 1] 5)) (.slice (some ⟨w.heap.size, 0, none⟩) 6 6) [2, 0, 3, 2, 200, 1] := br_row (heap_alloc_new w _) rfl (by omega)
  refine (decode_any _ 6 6 _ _ h (by decide) (by decide)).mono fun e w' hd => ?_
  rw [dcd_ex] at hd
  obtain ⟨x, k, c, he, h1, h2⟩ := hd
  have hk := h1.cut.1
  have : k = 2 := hk
  subst this
  exact ⟨x, c, he, bel_fst h2⟩
theorem mrg_x {ao bo : Option Addr} {n cap m cbp : Nat} {w : World} (ra : TRd w (.slice ao n cap) TA) (rb : TRd w (.slice bo m cbp) TB) :
    Calls Try.prog 22 #[.slice ao n cap, .slice bo m cbp] w fun e w' => ∃ x c, e = .returned (.slice x 3 c) ∧ Below w.heap.size w w' :=
  (mrg_c ra rb ((okV_iff _).1 ta_ok) ((okV_iff _).1 tb_ok)).mono fun e w' ⟨x, k, c, he, h1, h2⟩ => ⟨x, c, by rw [he, h1.cut.1, mrg_len], h2⟩
theorem cmn_x {ao bo : Option Addr} {n cap m cbp : Nat} {w : World} (ra : TRd w (.slice ao n cap) TA) (rb : TRd w (.slice bo m cbp) TB) :
    Calls Try.prog 24 #[.slice ao n cap, .slice bo m cbp] w fun e w' => ∃ x c, e = .returned (.slice x 1 c) ∧ Below w.heap.size w w' :=
  (cmn_c ra rb ((okV_iff _).1 ta_ok) ((okV_iff _).1 tb_ok)).mono fun e w' ⟨x, k, c, he, h1, h2⟩ => ⟨x, c, by rw [he, h1.cut.1, cmn_len], h2⟩
theorem sub_x {ao bo : Option Addr} {n cap m cbp : Nat} {w : World} (ra : TRd w (.slice ao n cap) TA) (rb : TRd w (.slice bo m cbp) TB) :
    Calls Try.prog 26 #[.slice ao n cap, .slice bo m cbp] w fun e w' => ∃ x k c, e = .returned (.slice x k c) ∧ TRd w' (.slice x k c) TA ∧ Below w.heap.size w w' := by
  have := sub_c ra rb ((okV_iff _).1 ta_ok) ((okV_iff _).1 tb_ok)
  rw [sub_tab] at this
  exact this
theorem enc_x {ao : Option Addr} {n cap : Nat} {w : World} (ra : TRd w (.slice ao n cap) TA) :
    Calls Try.prog 29 #[.slice ao n cap] w fun e w' => ∃ g, e = .returned (.slice (some ⟨g, 0, none⟩) 5 5) ∧ Below w.heap.size w w' :=
  (encode_any ao n cap TA w ra ((okV_iff _).1 ta_ok)).mono fun e w' ⟨g, m, he, h1, h2⟩ => ⟨g, by
    obtain ⟨_, _, q, _⟩ := h1
    simp only [Value.slice.injEq] at q
    have : m = 5 := by rw [q.2.1, enc_ta]; rfl
    rw [he, this], h2⟩
theorem same_x {xo : Option Addr} {k c : Nat} {w : World} (r : TRd w (.slice xo k c) TD) :
    Calls Try.prog 20 #[.slice xo k c, .slice (some ⟨w.heap.size, 0, none⟩) 2 2] (w.alloc (.cells #[.int .i64 0, .int .i64 1, .int .i64 2, .int .i64 1] 41)) fun e w' => e = .returned (.bool true) ∧ Below w.heap.size w w' :=
  (same_c (r.at (bel_alloc w _)) (trd_new (w := w) (l := TD) (n := 2) (cs := #[.int .i64 0, .int .i64 1, .int .i64 2, .int .i64 1]) (E := 41) (m := (0, 0)) rfl rfl (by decide)) (decide_eq_true rfl).symm).mono fun e w' ⟨he, h2⟩ => ⟨he, bel_fst h2⟩
theorem rows_x (w : World) : TRd ((w.alloc (.cells #[.int .i64 0, .int .i64 3, .int .i64 2, .int .i64 1] 41)).alloc (.cells #[.int .i64 0, .int .i64 1, .int .i64 5, .int .i64 4] 41)) (.slice (some ⟨w.heap.size, 0, none⟩) 2 2) TA ∧
    TRd ((w.alloc (.cells #[.int .i64 0, .int .i64 3, .int .i64 2, .int .i64 1] 41)).alloc (.cells #[.int .i64 0, .int .i64 1, .int .i64 5, .int .i64 4] 41)) (.slice (some ⟨w.heap.size + 1, 0, none⟩) 2 2) TB ∧
    Below w.heap.size w ((w.alloc (.cells #[.int .i64 0, .int .i64 3, .int .i64 2, .int .i64 1] 41)).alloc (.cells #[.int .i64 0, .int .i64 1, .int .i64 5, .int .i64 4] 41)) := by
  refine ⟨TRd.at (trd_new rfl rfl (by decide)) (bel_alloc _ _), ?_, ((Below.refl _ _).alloc (Nat.le_refl _) _).alloc (by simp) _⟩
  have := trd_new (w := w.alloc (.cells #[.int .i64 0, .int .i64 3, .int .i64 2, .int .i64 1] 41)) (l := TB) (n := 2) (cs := #[.int .i64 0, .int .i64 1, .int .i64 5, .int .i64 4]) (E := 41) (m := (0, 0)) rfl rfl (by decide)
  rw [show (w.alloc (.cells #[.int .i64 0, .int .i64 3, .int .i64 2, .int .i64 1] 41)).heap.size = w.heap.size + 1 by simp] at this
  exact this

set_option maxRecDepth 100000 in
set_option maxHeartbeats 1600000 in
theorem awake_any (w : World) : Calls Try.prog 12 #[] w fun e w' => e = .returned (.bool true) ∧ Below w.heap.size w w' := by
  obtain ⟨W, hW⟩ : ∃ W, W = ((w.alloc (.cells #[.int .i64 0, .int .i64 3, .int .i64 2, .int .i64 1] 41)).alloc (.cells #[.int .i64 0, .int .i64 1, .int .i64 5, .int .i64 4] 41)) := ⟨_, rfl⟩
  obtain ⟨r1, r2, r3⟩ := rows_x w
  have sz : W.heap.size = w.heap.size + 2 := by rw [hW]; simp
  rw [← hW] at r1 r2 r3
  have INC := hid_of ((inc_x W).mono (R' := fun e w' => ∃ x k c, e = .returned (.tuple #[.slice x k c, .int .i64 0]) ∧ TRd w' (.slice x k c) TD ∧ TRd w' (.slice (some ⟨w.heap.size, 0, none⟩) 2 2) TA ∧ TRd w' (.slice (some ⟨w.heap.size + 1, 0, none⟩) 2 2) TB ∧ Below w.heap.size w w') fun e w' ⟨x, k, c, he, h1, h2⟩ => ⟨x, k, c, he, h1, r1.at h2, r2.at h2, bel_step r3 h2 (Nat.le_refl _)⟩)
  rw [sz, hW] at INC
  clear r1 r2 r3 sz hW
  clear W
  go_enter Try.func12, Try.ntmps12
  go_wp2_with (first
    | (go_at_call 14; ((with_reducible refine INC.out.mono ?_); (rintro e w1 ⟨x1, k1, c1, rfl, h1, ha, hb, h2⟩; have RD := hid_of h1; have RA := hid_of ha; have RB := hid_of hb; have HB := hid_of h2; clear h1 ha hb h2)))
    | (go_at_call 30; ((with_reducible refine (dec_x w1).mono ?_); (rintro e w2 ⟨x2, c2, rfl, h2⟩; replace RD := hid_of (RD.out.at h2); replace RA := hid_of (RA.out.at h2); replace RB := hid_of (RB.out.at h2); replace HB := hid_of (bel_step HB.out h2 (Nat.le_refl _)); clear h2)))
    | (go_at_call 16; ((with_reducible refine (valid_c RA.out ta_ok.symm).mono ?_); (rintro e w3 ⟨rfl, h2⟩; replace RD := hid_of (RD.out.at h2); replace RA := hid_of (RA.out.at h2); replace RB := hid_of (RB.out.at h2); replace HB := hid_of (bel_step HB.out h2 (Nat.le_refl _)); clear h2)))
    | (go_at_call 18; ((with_reducible refine (get_c (r := 4) RB.out ((okV_iff _).1 tb_ok) get_tb).mono ?_); (rintro e w4 ⟨rfl, h2⟩; replace RD := hid_of (RD.out.at h2); replace RA := hid_of (RA.out.at h2); replace RB := hid_of (RB.out.at h2); replace HB := hid_of (bel_step HB.out h2 (Nat.le_refl _)); clear h2)))
    | (go_at_call 20; (first
      | ((with_reducible refine (same_x RD.out).mono ?_); (rintro e w5 ⟨rfl, h2⟩; replace RA := hid_of (RA.out.at h2); replace RB := hid_of (RB.out.at h2); replace HB := hid_of (bel_step HB.out h2 (Nat.le_refl _)); clear h2 RD))
      | ((with_reducible refine (same_c RS.out RA.out (decide_eq_true rfl).symm).mono ?_); (rintro e w9 ⟨rfl, h2⟩; replace RA := hid_of (RA.out.at h2); replace RB := hid_of (RB.out.at h2); replace HB := hid_of (bel_step HB.out h2 (Nat.le_refl _)); clear h2 RS))))
    | (go_at_call 22; ((with_reducible refine (mrg_x RA.out RB.out).mono ?_); (rintro e w6 ⟨x6, c6, rfl, h2⟩; replace RA := hid_of (RA.out.at h2); replace RB := hid_of (RB.out.at h2); replace HB := hid_of (bel_step HB.out h2 (Nat.le_refl _)); clear h2)))
    | (go_at_call 24; ((with_reducible refine (cmn_x RA.out RB.out).mono ?_); (rintro e w7 ⟨x7, c7, rfl, h2⟩; replace RA := hid_of (RA.out.at h2); replace RB := hid_of (RB.out.at h2); replace HB := hid_of (bel_step HB.out h2 (Nat.le_refl _)); clear h2)))
    | (go_at_call 26; ((with_reducible refine (sub_x RA.out RB.out).mono ?_); (rintro e w8 ⟨x8, k8, c8, rfl, h1, h2⟩; have RS := hid_of h1; replace RA := hid_of (RA.out.at h2); replace RB := hid_of (RB.out.at h2); replace HB := hid_of (bel_step HB.out h2 (Nat.le_refl _)); clear h1 h2)))
    | (go_at_call 21; ((with_reducible refine (cmp_c (r := 3) RA.out RB.out cmp_tab.symm).mono ?_); (rintro e w10 ⟨rfl, h2⟩; replace RA := hid_of (RA.out.at h2); replace RB := hid_of (RB.out.at h2); replace HB := hid_of (bel_step HB.out h2 (Nat.le_refl _)); clear h2)))
    | (go_at_call 29; ((with_reducible refine (enc_x RA.out).mono ?_); (rintro e w11 ⟨g11, rfl, h2⟩; replace HB := hid_of (bel_step HB.out h2 (Nat.le_refl _)); clear h2))))
  go_ret
  exact ⟨rfl, HB.out⟩
end Go.Proofs.Ytofgmimdmgaljaa
