/- put: names that are added to a chase. Bounds on sizes alone. -/
import Derived.Test.YtjponegeidiheaaProg
import Derived.Test.YtjponegeidiheaaClsMat2
import Derived.Test.YtjponegeidiheaaClsCh
namespace Go.Proofs.Ytjponegeidiheaa
open Go.RowKit

theorem intsE : Elem Try.prog 56 3 (.int .i64 0) 8 := ⟨Try.underlying56, by kernel_rfl, rfl⟩
def memB (T : List Nat) (i : Nat) : Bool := decide (i ∈ T)

/-- append of one number onto a row of the call's own. -/
theorem wpList_push {ops : Array Oper} {rest : List Oper} {o : Oper} {a : Act} {w : World} {Q : Exit → Act → World → Prop} (hgd : o.guard = none) (s x : Operand)
    (ho : o.op = .call { callee := .builtin .append, args := #[s, x], argTypes := #[56, 56] })
    (v : Value) (T : List Nat) (hv : a.eval s = v) (hown : w.ownsRow 0 3 1 v T.length (ints T)) (g y : Nat) (hx : a.eval x = .slice (some ⟨g, 0, none⟩) 1 1) (hc : w.cell? ⟨g, 0, none⟩ = some (.int .i64 (y : Int))) (hT : T.length ≤ 1000000)
    (h : ∀ (ao : Option Addr) (cap m : Nat) (w' : World), m = T.length + 1 → w'.ownsRow 0 3 1 (.slice ao m cap) m (ints T ++ [.int .i64 (y : Int)]) → w.grownBy w' v.ownBlock → ((Value.slice ao m cap).ownBlock = v.ownBlock ∨ (Value.slice ao m cap).ownBlock = some w.heap.size) → wpList Try.prog ops Q rest (a.put o.dst (.slice ao m cap)) w') :
    wpList Try.prog ops Q (o :: rest) a w := by
  obtain ⟨i0, hi, hz0, hz1, hz2⟩ := info_parts intsE.info
  refine wpList_append_src _ hgd s x _ _ ho 0 3 i0 (.int .i64 0) 1 8 Try.underlying56 hi hz0 hz1 hz2 rfl (by decide) v T.length (ints T) hv hown _ 1 [.int .i64 (y : Int)] hx
    (Src.ofSlice _ Try.underlying56 ⟨g, 0, none⟩ 1 1 _ rfl (fun j u hu => ?_) (by intro v hv; rw [List.mem_singleton.1 hv]; rfl)) (by unfold maxLen; omega) (by omega) (Nat.zero_le _) ?_
  · have : j = 0 := by have := (List.getElem?_eq_some_iff.1 hu).1; simp at this; omega
    subst this
    rw [Addr.add_mid, Nat.zero_add]
    simp only [List.getElem?_cons_zero, Option.some.injEq] at hu
    rw [← hu]; exact hc
  · intro v2 w2 hown2 hg _ hf
    obtain ⟨ao, cap, rfl⟩ := own_shape hown2
    exact h ao cap _ w2 rfl hown2 hg hf
section
variable {w w1 w2 : World} {c n : Nat} {R : List Hrl} {lk : Nat → Nat} {hs : Nat → Bool} {T : List Nat} {k : Nat} {V : CV} {S : Nat → Prop}
/-- The struct behind an append onto the trail. -/
theorem CH.behind (h : CH w c n R lk hs T k V S) (hb : Below w.heap.size w w1) (hg : w1.grownBy w2 V.tv.ownBlock) : w2.heap[c]? = some (.cells (cvCells V n k).toArray 84 (0, 0)) := by
  rw [hg.block c (by have := lt_of_block h.blk; have := hb.size; omega) (fun e => own_ne h.tr e.symm h.blk (by decide) rfl), hb.block c (lt_of_block h.blk)]
  exact h.blk
theorem CH.tvs (h : CH w c n R lk hs T k V S) : ∃ ao cap, V.tv = .slice ao T.length cap := own_shape h.tr
theorem CH.len (h : CH w c n R lk hs T k V S) : T.length ≤ n := nodup_bound n T h.nd h.tn
end

/-- The names from place j on are still to be put. -/
structure PutI (w : World) (c n : Nat) (R : List Hrl) (lk : Nat → Nat) (T : List Nat) (k : Nat) (V : CV) (S : Nat → Prop) (fl : Nat) (l : List Nat) (j : Nat) (wr : World) : Prop where
  ex : ∃ Tj tv Sj, CH wr c n R lk (memB Tj) Tj k { V with tv := tv } Sj ∧ Chg S Sj w wr ∧ putF fl l T = putF fl (l.drop j) Tj
/-- What put leaves. -/
def PutP (w : World) (c n : Nat) (R : List Hrl) (lk : Nat → Nat) (T : List Nat) (k : Nat) (V : CV) (S : Nat → Prop) (fl : Nat) (l : List Nat) (e : Ending) (w' : World) : Prop :=
  ∃ tv S', e = .returned (.bool (putF fl l T).2) ∧ CH w' c n R lk (memB (putF fl l T).1) (putF fl l T).1 k { V with tv := tv } S' ∧ Chg S S' w w'
theorem memB_push (T : List Nat) (x i : Nat) : (if i = x then true else memB T i) = memB (T ++ [x]) i := by
  unfold memB
  by_cases e : i = x <;> simp [e]

set_option maxRecDepth 100000 in
set_option maxHeartbeats 800000 in
theorem put_any (c n fl k : Nat) (R : List Hrl) (lk : Nat → Nat) (T : List Nat) (V : CV) (S : Nat → Prop) (l : List Nat) (lv : Value) (w : World) (h : CH w c n R lk (memB T) T k V S) (L : Rd w lv (ints l)) (hLS : ∀ g, lv.ownBlock = some g → ¬ S g)
    (hl : ∀ x ∈ l, x < n) (hfl : fl ≤ 1000000) (hn : n ≤ 1000000) :
    Calls Try.prog 70 #[.pointer (some ⟨c, 0, none⟩), lv, .int .i64 fl] w (PutP w c n R lk T k V S fl l) := by
  obtain ⟨ao, cap, rfl, h1, h2, h3⟩ := L
  rw [ints_length] at h1 h3 ⊢
  obtain ⟨m, hm⟩ : ∃ m, m = l.length := ⟨_, rfl⟩
  rw [← hm] at h1 h3 ⊢
  have HM := hid_of hm
  have HI : Hid (PutI w c n R lk T k V S fl l 0 w) := hid_of ⟨T, V.tv, S, h, Chg.refl _ _, by simp⟩
  have HLS := hid_of hLS
  have HL := hid_of hl
  clear hm h hLS hl
  by_cases h0 : 0 < m
  · obtain ⟨g, o, rfl, hg, hc⟩ := h3 h0
    have HC := hid_of hc
    clear hc h3 h0
    go_enter Try.func70, Try.ntmps70
    go_wp2
    go_loopw [8, 11] (fun xv iv wr => ∃ (j : Nat) (v : Value), xv = v ∧ j ≤ m ∧ iv = .int .i64 j ∧ Hid (PutI w c n R lk T k V S fl l j wr)) (fun _ iv _ => m - (intOf iv).toNat)
    case atStart => exact ⟨0, _, rfl, Nat.zero_le _, rfl, HI⟩
    case round =>
      obtain ⟨j, v, rfl, hj, rfl, hi⟩ := hrel
      obtain ⟨Tj, tv, Sj, hch, hchg, hput⟩ := hi.out.ex
      clear hi
      by_cases hlt : j < m
      · have hd : decide (j < m) = true := by simp; omega
        obtain ⟨x, hx⟩ : ∃ x, l[j]? = some x := ⟨_, List.getElem?_eq_getElem (by have := HM.out; omega)⟩
        have hxn : x < n := HL.out x (List.mem_of_getElem? hx)
        have c1 : wr.cell? ⟨g, o + j, none⟩ = some (.int .i64 (x : Int)) := by
          have := HC.out j _ (ints_get hx)
          unfold World.cell? at this ⊢
          rw [hchg.kept.block g hg (HLS.out g rfl)]; exact this
        have HX := hid_of hx
        have cH := hch.cell (j := 4) rfl
        have cX := hch.hasc hxn
        have HD : l.drop j = x :: l.drop (j + 1) := by
          rw [List.drop_eq_getElem_cons (by have := HM.out; omega)]
          have := (List.getElem?_eq_some_iff.1 hx).2
          rw [this]
        rw [HD] at hput
        have HCH := hid_of hch
        have HCG := hid_of hchg
        have HP := hid_of hput
        clear hx hput HD hchg
        by_cases hin : x ∈ Tj
        · rw [show memB Tj x = true from decide_eq_true hin] at cX
          have HN : Hid (PutI w c n R lk T k V S fl l (j + 1) wr) := hid_of ⟨Tj, tv, Sj, HCH.out, HCG.out, by rw [HP.out]; simp [putF, hin]⟩
          clear hch hin
          go_wp2
          go_roundw
          case rel => exact ⟨j + 1, _, rfl, by omega, by go_num, HN⟩
          case measure => simp [intOf]; omega
        · rw [show memB Tj x = false from decide_eq_false hin] at cX
          by_cases hxf : x < fl
          · have hd2 : decide (x < fl) = true := by simp; omega
            have HN : Hid (∀ e, e = .returned (.bool false) → PutP w c n R lk T k V S fl l e wr) := hid_of (fun e he => by
              have e1 : putF fl l T = (Tj, false) := by rw [HP.out]; simp [putF, hin, hxf]
              exact ⟨tv, Sj, by rw [he, e1], by rw [e1]; exact HCH.out, HCG.out⟩)
            clear hch hin hxf
            go_wp2
            go_ret
            exact HN.out _ rfl
          · have hd2 : decide (x < fl) = false := by simp; omega
            have fX := hch.hasf x
            have HS1 := hch.setHas x true
            have c5 := HS1.cell (j := 5) rfl
            have cc := HS1.cell (j := 4) rfl
            obtain ⟨ta, tc, htv⟩ := hch.tvs
            have htv' : tv = .slice ta Tj.length tc := htv
            subst htv'
            have hTl : Tj.length ≤ 1000000 := Nat.le_trans hch.len hn
            have HTL := hid_of hTl
            have HSS := hid_of HS1
            have HIN := hid_of hin
            have HXF := hid_of hxf
            have HXN := hid_of hxn
            have HPU : Hid (∀ (ao2 : Option Addr) (cap2 m2 : Nat) (w2 : World), m2 = Tj.length + 1 → w2.ownsRow 0 3 1 (.slice ao2 m2 cap2) m2 (ints Tj ++ [.int .i64 (x : Int)]) → ((wr.setCell ⟨V.gh, x, none⟩ (.bool true)).alloc (.cells #[.int .i64 (x : Int)] 3)).grownBy w2 (Value.slice ta Tj.length tc).ownBlock →
                ((Value.slice ao2 m2 cap2).ownBlock = (Value.slice ta Tj.length tc).ownBlock ∨ (Value.slice ao2 m2 cap2).ownBlock = some ((wr.setCell ⟨V.gh, x, none⟩ (.bool true)).alloc (.cells #[.int .i64 (x : Int)] 3)).heap.size) →
                (w2.cell? ⟨c, 5, none⟩ = some (.slice ta Tj.length tc) ∧ w2.frozen? ⟨c, 5, none⟩ = false) ∧ PutI w c n R lk T k V S fl l (j + 1) (w2.setCell ⟨c, 5, none⟩ (.slice ao2 m2 cap2))) := hid_of (fun ao2 cap2 m2 w2 e1 e2 e3 e4 => by
              subst e1
              have hb := bel_alloc (wr.setCell ⟨V.gh, x, none⟩ (.bool true)) (.cells #[.int .i64 (x : Int)] 3)
              obtain ⟨p1, p2⟩ := HSS.out.push HIN.out HXN.out hb e2 e3 e4
              have hbl := HSS.out.behind hb e3
              refine ⟨⟨blk_cell hbl rfl, blk_free hbl 5⟩, ⟨Tj ++ [x], _, _, p1.conv (fun _ _ => rfl) (fun i _ => memB_push Tj x i), HCG.out.trans ((chg_set (b := V.gh) HCH.out.sh).trans p2), ?_⟩⟩
              rw [HP.out, putF, if_neg HIN.out, if_neg HXF.out])
            have hown := HSS.out.tr
            obtain ⟨q, hq⟩ : ∃ q, q = Tj.length := ⟨_, rfl⟩
            clear hch HS1 hin hxf htv hTl
            have hov := hid_of hown
            clear hown
            have cN : ((wr.setCell ⟨V.gh, x, none⟩ (.bool true)).alloc (.cells #[.int .i64 (x : Int)] 3)).cell? ⟨wr.heap.size, 0, none⟩ = some (.int .i64 (x : Int)) := by
              have := blk_cell (cs := [.int .i64 (x : Int)]) (j := 0) (heap_alloc_new (wr.setCell ⟨V.gh, x, none⟩ (.bool true)) (.cells #[.int .i64 (x : Int)] 3)) rfl
              simpa using this
            have HO : Hid (((wr.setCell ⟨V.gh, x, none⟩ (.bool true)).alloc (.cells #[.int .i64 (x : Int)] 3)).ownsRow 0 3 1 (.slice ta Tj.length tc) Tj.length (ints Tj)) := hid_of (own_same hov.out fun a ha => (bel_alloc _ _).block a (own_lt hov.out ha))
            go_wp2_with (at_builtin; refine wpList_push rfl (.tmp 35) (.tmp 37) rfl (.slice ta Tj.length tc) Tj rfl HO.out wr.heap.size x rfl cN HTL.out ?_; intro ao2 cap2 m2 w2 e1 e2 e3 e4; have PP := hid_of (HPU.out ao2 cap2 m2 w2 e1 e2 e3 e4); clear e1 e2 e3 e4; have q5 := PP.out.1.1; have f5 := PP.out.1.2)
            go_roundw
            case rel => exact ⟨j + 1, _, rfl, by omega, by go_num, hid_of PP.out.2⟩
            case measure => simp [intOf]; omega
      · have hd : decide (j < m) = false := by simp; omega
        have HN : Hid (∀ e, e = .returned (.bool true) → PutP w c n R lk T k V S fl l e wr) := hid_of (fun e he => by
          have e1 : putF fl l T = (Tj, true) := by rw [hput, List.drop_of_length_le (by have := HM.out; omega)]; rfl
          exact ⟨tv, Sj, by rw [he, e1], by rw [e1]; exact hch, hchg⟩)
        clear hch hput hchg
        go_wp2
        go_ret
        exact HN.out _ rfl
  · have hm0 : m = 0 := by omega
    subst hm0
    have HN : Hid (∀ e, e = .returned (.bool true) → PutP w c n R lk T k V S fl l e w) := hid_of (fun e he => by
      obtain ⟨Tj, tv, Sj, hch, hchg, hput⟩ := HI.out.ex
      have hl0 : l = [] := List.eq_nil_of_length_eq_zero HM.out.symm
      subst hl0
      have e1 : putF fl [] T = (Tj, true) := by rw [hput]; rfl
      exact ⟨tv, Sj, by rw [he, e1], by rw [e1]; exact hch, hchg⟩)
    clear h3 h0 HM HI
    go_enter Try.func70, Try.ntmps70
    go_wp2
    go_loop [8, 11] (fun sv iv => ∃ v : Value, sv = v ∧ iv = .int .i64 0) (fun _ iv => 0)
    case atStart => exact ⟨_, rfl, rfl⟩
    case round =>
      obtain ⟨v, rfl, rfl⟩ := hrel
      go_wp2
      go_ret
      exact HN.out _ rfl
end Go.Proofs.Ytjponegeidiheaa
