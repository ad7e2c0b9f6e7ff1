/- The reference of package clock: all, of, Inc. -/
import Derived.Test.YtofgmimdmgaljaaClkRef1
namespace Go.Proofs.Ytofgmimdmgaljaa
open Go.RowKit

def ic (l : List Int) : List Value := l.map (Value.int .i64)
theorem ic_one (l : List Int) : ∀ v ∈ ic l, v.oneCell' = true := by
  intro v hv; simp [ic] at hv; obtain ⟨x, _, rfl⟩ := hv; rfl
theorem Try.infoI64 : (Try.prog.info? 2).map (fun i => (i.zero, i.size, i.bytes)) = some (some (.int .i64 0), 1, 8) := by kernel_rfl
/-- A slice of numbers of the call's own. -/
def OI (B : Nat) (w0 w : World) (v : Value) (l : List Int) : Prop := B ≤ w0.heap.size ∧ Below B w0 w ∧ w.ownsRow B 2 1 v l.length (ic l)
theorem OI.size {B : Nat} {w0 w : World} {v : Value} {l : List Int} (h : OI B w0 w v l) : B ≤ w.heap.size := Nat.le_trans h.1 h.2.1.size
theorem OI.alloc {B : Nat} {w0 w : World} {v : Value} {l : List Int} (h : OI B w0 w v l) (o : Obj) : OI B w0 (w.alloc o) v l := ⟨h.1, h.2.1.alloc h.size _, h.2.2.alloc o⟩
theorem OI.later {B : Nat} {w0 w w' : World} {v : Value} {l : List Int} (h : OI B w0 w v l) (hb : Below w.heap.size w w') : OI B w0 w' v l :=
  ⟨h.1, h.2.1.trans (hb.mono h.size), own_same h.2.2 fun k hk => hb.block k (h.2.2.lt k hk).2⟩
theorem oi_nil (w : World) : OI w.heap.size w w (.slice none 0 0) [] := ⟨Nat.le_refl _, Below.refl _ _, World.ownsRow_nil _ _ _ _⟩
theorem wpList_appi {ops : Array Oper} {rest : List Oper} {o : Oper} {a : Act} {Q : Exit → Act → World → Prop} (hgd : o.guard = none) (s x : Operand)
    (ho : o.op = .call { callee := .builtin .append, args := #[s, x], argTypes := #[42, 42] })
    {B : Nat} {w0 w : World} {v : Value} {l : List Int} (hv : a.eval s = v) (H : OI B w0 w v l) (y : Int) (hx : a.eval x = .slice (some ⟨w.heap.size, 0, none⟩) 1 1) (hl : l.length ≤ 1000000000)
    (h : ∀ (ao : Option Addr) (n cap : Nat) (w' : World), n = l.length + 1 → OI B w0 w' (.slice ao n cap) (l ++ [y]) → wpList Try.prog ops Q rest (a.put o.dst (.slice ao n cap)) w') :
    wpList Try.prog ops Q (o :: rest) a (w.alloc (.cells #[.int .i64 y] 2)) := by
  obtain ⟨i0, hi, hz0, hz1, hz2⟩ := info_parts Try.infoI64
  have HA := H.alloc (.cells #[.int .i64 y] 2)
  have hsrc : Src Try.prog 1 42 (.slice (some ⟨w.heap.size, 0, none⟩) 1 1) 1 (ic [y]) (w.alloc (.cells #[.int .i64 y] 2)) := by
    refine Src.ofSlice _ Try.underlying42 _ 1 1 (ic [y]) rfl (fun j u hu => ?_) (ic_one _)
    exact World.news_of_block (heap_alloc_new w (.cells #[.int .i64 y] 2)) j u (by simpa [ic] using hu)
  refine wpList_append_src _ hgd s x 42 42 ho B 2 i0 (.int .i64 0) 1 8 Try.underlying42 hi hz0 hz1 hz2 rfl (by decide) v l.length (ic l) hv HA.2.2 _ 1 (ic [y]) hx hsrc (by unfold maxLen; omega) (by omega) HA.size ?_
  intro v2 w2 hown hg _ _
  obtain ⟨ao, cap, rfl⟩ := own_shape hown
  refine h ao _ cap w2 rfl ⟨HA.1, HA.2.1.grown hg HA.size (fun k hk => (HA.2.2.lt k hk).1), ?_⟩
  rw [List.length_append]
  simp only [ic, List.map_append] at hown ⊢
  exact hown

/-- 64 numbers in block g. -/
def N64 (w : World) (g : Nat) (f : Nat → Int) : Prop := ∃ cur : Array Value, w.heap[g]? = some (.cells cur 2 (0, 0)) ∧ ∀ j, j < 64 → cur[j]? = some (.int .i64 (f j))
theorem N64.lt {w : World} {g : Nat} {f : Nat → Int} (h : N64 w g f) : g < w.heap.size := by obtain ⟨c, h, _⟩ := h; exact lt_of_block h
theorem N64.cell {w : World} {g : Nat} {f : Nat → Int} (h : N64 w g f) {j : Nat} (hj : j < 64) : w.cell? ⟨g, j, none⟩ = some (.int .i64 (f j)) := by
  obtain ⟨c, h1, h2⟩ := h
  rw [cell_of_row _ _ _ _ _ _ h1]; exact h2 j hj
theorem N64.free {w : World} {g : Nat} {f : Nat → Int} (h : N64 w g f) (j : Nat) : w.frozen? ⟨g, j, none⟩ = false := by
  obtain ⟨c, h1, h2⟩ := h; exact frozen_of_row _ _ _ _ _ h1
theorem N64.same {w w' : World} {g : Nat} {f : Nat → Int} (h : N64 w g f) (hs : w'.heap[g]? = w.heap[g]?) : N64 w' g f := by
  obtain ⟨c, h1, h2⟩ := h; exact ⟨c, hs.trans h1, h2⟩
theorem N64.at {w w' : World} {g : Nat} {f : Nat → Int} (h : N64 w g f) (hb : Below w.heap.size w w') : N64 w' g f := h.same (hb.block g h.lt)
theorem N64.set {w : World} {g : Nat} {f : Nat → Int} (h : N64 w g f) (j : Nat) (z : Int) : N64 (w.setCell ⟨g, j, none⟩ (.int .i64 z)) g (fun i => if i = j then z else f i) := by
  obtain ⟨c, h1, h2⟩ := h
  refine ⟨c.setIfInBounds j (.int .i64 z), heap_setCell_same _ _ _ _ _ _ h1, fun i hi => ?_⟩
  by_cases e : i = j
  · subst e
    have hl : i < c.size := (Array.getElem?_eq_some_iff.1 (h2 i hi)).1
    show _ = some (Value.int .i64 (if i = i then z else f i))
    rw [if_pos rfl]; simp [hl]
  · show _ = some (Value.int .i64 (if i = j then z else f i))
    rw [if_neg e, Array.getElem?_setIfInBounds_ne (Ne.symm e)]; exact h2 i hi
theorem N64.congr {w : World} {g : Nat} {f f' : Nat → Int} (h : N64 w g f) (e : ∀ j, j < 64 → f j = f' j) : N64 w g f' := by
  obtain ⟨c, h1, h2⟩ := h; exact ⟨c, h1, fun j hj => by rw [← e j hj]; exact h2 j hj⟩
theorem OI.n64 {B : Nat} {w0 w : World} {v : Value} {f : Nat → Int} (h : OI B w0 w v ((List.range 64).map f)) : ∃ g c, v = .slice (some ⟨g, 0, none⟩) 64 c ∧ 64 ≤ c ∧ c ≤ 9223372036854775807 ∧ B ≤ g ∧ N64 w g f := by
  have hlen : ((List.range 64).map f).length = 64 := by simp
  have hown := h.2.2
  rw [hlen] at hown
  rcases hown.2 with ⟨h1, h2⟩ | ⟨g, c, cur, h1, hB, hg, hnc, hcm, _, ht⟩
  · omega
  · unfold maxLen at hcm
    refine ⟨g, c, h1, hnc, by omega, hB, cur, hg, fun j hj => ?_⟩
    have : (cur.toList.take (64 * 1))[j]? = (ic ((List.range 64).map f))[j]? := by rw [ht]
    rw [List.getElem?_take, if_pos (by omega)] at this
    rw [← Array.getElem?_toList, this]
    simp [ic, hj]

set_option maxHeartbeats 800000 in
theorem rall_any (ao : Option Addr) (n cap : Nat) (l : List Tk) (w : World) (h : TRd w (.slice ao n cap) l) :
    Calls Try.prog 33 #[.slice ao n cap] w fun e w' => ∃ g c, e = .returned (.slice (some ⟨g, 0, none⟩) 64 c) ∧ 64 ≤ c ∧ c ≤ 9223372036854775807 ∧ w.heap.size ≤ g ∧ N64 w' g (fun j : Nat => if okV l = true then look l (j : Int) else 0) ∧ Below w.heap.size w w' := by
  obtain ⟨F, hF⟩ : ∃ F : Nat → Int, F = fun j : Nat => if okV l = true then look l (j : Int) else 0 := ⟨_, rfl⟩
  have GET : Hid (∀ (w' : World) (j : Nat), Below w.heap.size w w' → Calls Try.prog 19 #[.slice ao n cap, .int .i64 j] w' fun e w'' => e = .returned (.int .i64 (F j)) ∧ Below w'.heap.size w' w'') := hid_of (fun w' j hb => by rw [hF]; exact rget_any ao n cap l j w' (h.later hb (Nat.le_refl _)))
  rw [← hF]
  clear hF h
  go_enter Try.func33, Try.ntmps33
  go_wp2
  go_loopw [3, 4] (fun lv iv wr => ∃ (k : Nat) (x : Option Addr) (c : Nat), k ≤ 64 ∧ iv = .int .i64 k ∧ lv = .slice x k c ∧ Hid (OI w.heap.size w wr (.slice x k c) ((List.range k).map F))) (fun _ iv _ => 64 - (intOf iv).toNat)
  case atStart => exact ⟨0, none, 0, by omega, rfl, rfl, hid_of (oi_nil w)⟩
  case round =>
    obtain ⟨k, x, c, hk, rfl, rfl, ho⟩ := hrel
    have HO := hid_of ho.out
    have HB := hid_of ho.out.2.1
    clear ho
    by_cases hlt : k < 64
    · have d : decide ((k : Int) ≤ 63) = true := by simp; omega
      have b0 : (0 : Int) ≤ (k : Int) := by omega
      go_wp2_with (first
        | (go_at_call 19; ((with_reducible refine (GET.out wr k HB.out).mono ?_); (rintro e w2 ⟨rfl, h2⟩; have HO2 := hid_of (HO.out.later h2); clear h2)))
        | (at_builtin; (refine wpList_appi rfl _ _ rfl (v := .slice x k c) rfl HO2.out (F k) rfl (by simp; omega) ?_); intro xo xn xc w5 hxn h5; have HN := hid_of hxn; have H5 := hid_of h5; clear h5 hxn))
      go_roundw
      case rel =>
        have e : xn = k + 1 := by have := HN.out; simpa using this
        subst e
        refine ⟨k + 1, xo, xc, by omega, by go_num, rfl, hid_of ?_⟩
        have := H5.out
        rw [List.range_succ, List.map_append]
        exact this
      case measure => simp [intOf]; omega
    · obtain rfl : k = 64 := by omega
      go_wp2
      go_ret
      obtain ⟨g, c2, e, h1, h2, h3, h4⟩ := HO.out.n64
      exact ⟨g, c2, congrArg Ending.returned e, h1, h2, h3, h4, HB.out⟩

set_option maxHeartbeats 800000 in
theorem rof_any (g c : Nat) (f : Nat → Int) (w : World) (hc : 64 ≤ c) (hc2 : c ≤ 9223372036854775807) (h : N64 w g f) :
    Calls Try.prog 34 #[.slice (some ⟨g, 0, none⟩) 64 c] w fun e w' => ∃ x k d, e = .returned (.slice x k d) ∧ TRd w' (.slice x k d) (can fun p => f p.toNat) ∧ Below w.heap.size w w' := by
  have HNN := hid_of h
  have hg := h.lt
  clear h
  go_enter Try.func34, Try.ntmps34
  go_wp2
  go_loopw [3, 4] (fun lv iv wr => ∃ (k : Nat) (x : Option Addr) (m d : Nat), k ≤ 64 ∧ iv = .int .i64 k ∧ lv = .slice x m d ∧ Hid (OT w.heap.size w wr (.slice x m d) (canTo (fun p => f p.toNat) k))) (fun _ iv _ => 64 - (intOf iv).toNat)
  case atStart => exact ⟨0, none, 0, 0, by omega, rfl, rfl, hid_of (ot_nil w)⟩
  case round =>
    obtain ⟨k, x, m, d, hk, rfl, rfl, ho⟩ := hrel
    have HO := hid_of ho.out
    have HB := hid_of ho.out.bel
    clear ho
    by_cases hlt : k < 64
    · have b1 : (k : Int) < (64 : Int) := by omega
      have b0 : (0 : Int) ≤ (k : Int) := by omega
      obtain ⟨y, hy⟩ : ∃ y, y = f k := ⟨_, rfl⟩
      have c1 : wr.cell? ⟨g, k, none⟩ = some (.int .i64 y) := by rw [hy, HB.out.cell (p := ⟨g, k, none⟩) hg]; exact HNN.out.cell hlt
      have CS := hid_of (canTo_succ (fun p => f p.toNat) k)
      have HY := hid_of hy
      have CL : Hid ((canTo (fun p => f p.toNat) k).length ≤ 1000000000) := hid_of (by have := canTo_len (f := fun p => f p.toNat) k; omega)
      clear hy
      by_cases hp : 0 < y
      · go_wp2_with (at_builtin; (refine wpList_tick rfl _ _ rfl (v := .slice x m d) rfl HO.out ((k : Int), y) rfl CL.out ?_); intro xo xn xc w5 hxn h5; have H5 := hid_of h5; clear h5 hxn)
        go_roundw
        case rel =>
          refine ⟨k + 1, xo, xn, xc, by omega, by go_num, rfl, hid_of ?_⟩
          rw [CS.out, if_pos (by show 0 < f k; rw [← HY.out]; exact hp)]
          have := H5.out
          rw [HY.out] at this
          exact this
        case measure => simp [intOf]; omega
      · have dp : decide (y > 0) = false := by simp; omega
        go_wp2
        go_roundw
        case rel =>
          refine ⟨k + 1, x, m, d, by omega, by go_num, rfl, hid_of ?_⟩
          rw [CS.out, if_neg (by show ¬ 0 < f k; rw [← HY.out]; exact hp), List.append_nil]
          exact HO.out
        case measure => simp [intOf]; omega
    · obtain rfl : k = 64 := by omega
      go_wp2
      go_ret
      exact ⟨_, _, _, rfl, HO.out.rd, HB.out⟩

theorem can_inc {c D : List Tk} {p : Nat} (hp : p ≤ 63) (vc : VV c) (vd : VV D) (hm : look c p < 1000000000000000) (hl : ∀ x, look D x = if x = (p : Int) then look c p + 1 else look c x) {F : Nat → Int} (hF : ∀ j, j < 64 → F j = if j = p then look c p + 1 else look c j) :
    can (fun q => F q.toNat) = D := by
  have e : can (fun q => F q.toNat) = can (look D) := canTo_congr 64 fun q h0 h1 => by
    show F q.toNat = look D q
    rw [hF q.toNat (by omega), hl]
    obtain ⟨j, rfl⟩ : ∃ j : Nat, q = j := ⟨q.toNat, by omega⟩
    by_cases h : j = p
    · subst h; simp
    · rw [if_neg (by omega), if_neg (by omega)]; simp
  rw [e, vd.can_eq]

set_option maxHeartbeats 1600000 in
theorem rinc_any (ao : Option Addr) (n cap : Nat) (c : List Tk) (p : Int) (w : World) (ra : TRd w (.slice ao n cap) c) :
    Calls Try.prog 15 #[.slice ao n cap, .int .i64 p] w fun e w' => ∃ x k d, e = .returned (.tuple #[.slice x k d, .int .i64 (incV c p).2]) ∧ TRd w' (.slice x k d) (incV c p).1 ∧ Below w.heap.size w w' := by
  have RA := hid_of ra
  by_cases hv : okV c = true
  · have VA : Hid (Calls Try.prog 17 #[.slice ao n cap] w fun e w' => e = .returned (.bool true) ∧ Below w.heap.size w w') := hid_of (by rw [← hv]; exact rvalid_any ao n cap c w ra)
    by_cases h0 : 0 ≤ p ∧ p ≤ 63
    · obtain ⟨h1, h2⟩ := h0
      have d1 : decide (p < 0) = false := by simp; omega
      have d2 : decide (p > 63) = false := by simp; omega
      obtain ⟨P, rfl⟩ : ∃ P : Nat, p = P := ⟨p.toNat, by omega⟩
      have hP : P < 64 := by omega
      have b1 : (P : Int) < (64 : Int) := by omega
      have ALL : Hid (∀ w', Below w.heap.size w w' → Calls Try.prog 33 #[.slice ao n cap] w' fun e w'' => ∃ g k, e = .returned (.slice (some ⟨g, 0, none⟩) 64 k) ∧ 64 ≤ k ∧ k ≤ 9223372036854775807 ∧ w'.heap.size ≤ g ∧ N64 w'' g (fun j : Nat => look c (j : Int)) ∧ Below w'.heap.size w' w'') := hid_of (fun w' hb => by
        have := rall_any ao n cap c w' (RA.out.later hb (Nat.le_refl _))
        simp only [if_pos hv] at this
        exact this)
      rcases inc_cases c P with hi | hi | ⟨D, hi, vc, vd, hm, hl, hc⟩
      · exfalso
        unfold incV at hi
        rw [if_pos ⟨hv, h1, h2⟩] at hi
        split at hi <;> simp at hi
      · have hm : look c P = 1000000000000000 := by
          unfold incV at hi
          rw [if_pos ⟨hv, h1, h2⟩] at hi
          by_cases h : look c P = 1000000000000000
          · exact h
          · rw [if_neg h] at hi; simp at hi
        have HE := hid_of hi
        have HMM := hid_of hm
        clear hi hm ra hv
        go_enter Try.func15, Try.ntmps15
        go_wp2_with (first
          | (go_at_call 17; ((with_reducible refine VA.out.mono ?_); (rintro e w1 ⟨rfl, h1⟩; have HB1 := hid_of h1; clear h1)))
          | (go_at_call 33; ((with_reducible refine (ALL.out w1 HB1.out).mono ?_); (rintro e w2 ⟨g, k, rfl, hk1, hk2, hg, h3, h4⟩; have HB2 := hid_of (bel_step HB1.out h4 (Nat.le_refl _)); have cc : w2.cell? ⟨g, P, none⟩ = some (.int .i64 1000000000000000) := (by rw [← HMM.out]; exact h3.cell hP); clear h3 h4))))
        go_ret2
        exact ⟨_, _, _, by rw [HE.out]; rfl, by rw [HE.out]; exact trd_nil _, HB2.out⟩
      · obtain ⟨y, hy⟩ : ∃ y, y = look c P := ⟨_, rfl⟩
        have HE := hid_of hi
        have hbd := vc.bd P
        rw [← hy] at hm hbd
        have dm : (y == 1000000000000000) = false := by simp; omega
        have aw : IntKind.i64.wrap (y + 1) = y + 1 := IntWalk.i64_in _ (by omega)
        have HY := hid_of hy
        obtain ⟨F, hF⟩ : ∃ F : Nat → Int, F = fun i => if i = P then y + 1 else look c (i : Int) := ⟨_, rfl⟩
        have CI : Hid (can (fun q => F q.toNat) = D) := hid_of (can_inc (p := P) (by omega) vc vd (by rw [← hy]; exact hm) hl (fun j _ => by rw [hF, hy]))
        have SET : Hid (∀ (W : World) (g : Nat), N64 W g (fun j : Nat => look c (j : Int)) → N64 (W.setCell ⟨g, P, none⟩ (.int .i64 (y + 1))) g F) := hid_of (fun W g h => by rw [hF]; exact h.set P (y + 1))
        clear hF
        clear hi hm ra hv vc vd hl hc hy
        go_enter Try.func15, Try.ntmps15
        go_wp2_with (first
          | (go_at_call 17; ((with_reducible refine VA.out.mono ?_); (rintro e w1 ⟨rfl, h1⟩; have HB1 := hid_of h1; clear h1)))
          | (go_at_call 33; ((with_reducible refine (ALL.out w1 HB1.out).mono ?_); (rintro e w2 ⟨g, k, rfl, hk1, hk2, hg, h3, h4⟩; have HB2 := hid_of (bel_step HB1.out h4 (Nat.le_refl _)); have H3 := hid_of h3; have HG := hid_of (Nat.le_trans HB1.out.size hg); have cf : w2.frozen? ⟨g, P, none⟩ = false := h3.free P; have cc : w2.cell? ⟨g, P, none⟩ = some (.int .i64 y) := (by rw [HY.out]; exact h3.cell hP); clear h3 h4 hg)))
          | (go_at_call 34; ((with_reducible refine (rof_any g k F (w2.setCell ⟨g, P, none⟩ (.int .i64 (y + 1))) hk1 hk2 (SET.out w2 g H3.out)).mono ?_); (rintro e w3 ⟨x, m, d, rfl, h5, h6⟩; rw [CI.out] at h5; have H5 := hid_of h5; have HB3 := hid_of ((HB2.out.setCell (p := ⟨g, P, none⟩) HG.out (.int .i64 (y + 1))).trans (h6.mono (HB2.out.setCell (p := ⟨g, P, none⟩) HG.out (.int .i64 (y + 1))).size)); clear h5 h6))))
        go_ret2
        exact ⟨_, _, _, by rw [HE.out]; rfl, by rw [HE.out]; exact H5.out, HB3.out⟩
    · have HE : Hid (incV c p = ([], 1)) := hid_of (if_neg (fun h => h0 h.2))
      clear ra hv
      by_cases h1 : p < 0
      · have d1 : decide (p < 0) = true := by simp; omega
        clear h0 h1
        go_enter Try.func15, Try.ntmps15
        go_wp2_with (go_at_call 17; ((with_reducible refine VA.out.mono ?_); (rintro e w1 ⟨rfl, h1⟩; have HB1 := hid_of h1; clear h1)))
        go_ret2
        exact ⟨_, _, _, by rw [HE.out]; rfl, by rw [HE.out]; exact trd_nil _, HB1.out⟩
      · have d1 : decide (p < 0) = false := by simp; omega
        have d2 : decide (p > 63) = true := by simp; omega
        clear h0 h1
        go_enter Try.func15, Try.ntmps15
        go_wp2_with (go_at_call 17; ((with_reducible refine VA.out.mono ?_); (rintro e w1 ⟨rfl, h1⟩; have HB1 := hid_of h1; clear h1)))
        go_ret2
        exact ⟨_, _, _, by rw [HE.out]; rfl, by rw [HE.out]; exact trd_nil _, HB1.out⟩
  · have HE : Hid (incV c p = ([], 1)) := hid_of (if_neg (fun h => hv h.1))
    have VA : Hid (Calls Try.prog 17 #[.slice ao n cap] w fun e w' => e = .returned (.bool false) ∧ Below w.heap.size w w') := hid_of (by rw [show false = okV c by simpa using hv]; exact rvalid_any ao n cap c w ra)
    clear ra hv
    go_enter Try.func15, Try.ntmps15
    go_wp2_with (go_at_call 17; ((with_reducible refine VA.out.mono ?_); (rintro e w1 ⟨rfl, h1⟩; have HB1 := hid_of h1; clear h1)))
    go_ret2
    exact ⟨_, _, _, by rw [HE.out]; rfl, by rw [HE.out]; exact trd_nil _, HB1.out⟩
end Go.Proofs.Ytofgmimdmgaljaa
