/- The reference's Subsets. Bounds on sizes alone. -/
import Derived.Test.YtclefigcendpgaaClsSbM
import Derived.Test.YtclefigcendpgaaClsCpl
namespace Go.Proofs.Ytclefigcendpgaa
open Go.RowKit

theorem own_new1 (w : World) (u : Value) (t : Nat) : (w.alloc (.cells #[u] t)).ownsRow w.heap.size t 1 (.slice (some ⟨w.heap.size, 0, none⟩) 1 1) 1 [u] :=
  ⟨rfl, .inr ⟨w.heap.size, 1, #[u], rfl, Nat.le_refl _, heap_alloc_new w _, Nat.le_refl _, by unfold maxLen; omega, rfl, rfl⟩⟩
theorem SetsR.below {B : Nat} {w w' : World} {v : Value} {ls : List (List Str)} (h : SetsR B w v ls) (hb : Below w.heap.size w w') : SetsR B w' v ls := by
  obtain ⟨vals, h1, h2, h3⟩ := h
  exact ⟨vals, h1, own_same h2 fun k hk => hb.block k (own_lt h2 hk), fun i u l hu hl => own_same (h3 i u l hu hl) fun k hk => hb.block k (own_lt (h3 i u l hu hl) hk)⟩
theorem SetsR.len {B : Nat} {w : World} {ao : Option Addr} {n cap : Nat} {ls : List (List Str)} (h : SetsR B w (.slice ao n cap) ls) : n = ls.length := by
  obtain ⟨vals, h1, h2, _⟩ := h
  rcases own_shape2 h2 with ⟨e, e2⟩ | ⟨g, c, e, _⟩
  · simp only [Value.slice.injEq] at e; omega
  · simp only [Value.slice.injEq] at e; omega
/-- A set more. -/
theorem SetsR.more {B : Nat} {w : World} {v : Value} {ls : List (List Str)} (h : SetsR B w v ls) (hB : B ≤ w.heap.size) : ∃ vals, vals.length = ls.length ∧ (∀ W, Below w.heap.size w W → W.ownsRow 0 22 1 v ls.length vals) ∧
    ∀ (W2 W3 : World) (a2 xo : Option Addr) (c2 n2 xn xc : Nat) (L : List Str), Below w.heap.size w W2 → W2.ownsRow B 9 1 (.slice xo xn xc) xn (ss L) → n2 = ls.length + 1 → W3.ownsRow 0 22 1 (.slice a2 n2 c2) n2 (vals ++ [.slice xo xn xc]) → W2.grownBy W3 v.ownBlock → ((Value.slice a2 n2 c2).ownBlock = v.ownBlock ∨ (Value.slice a2 n2 c2).ownBlock = some W2.heap.size) →
      SetsR B W3 (.slice a2 n2 c2) (ls ++ [L]) ∧ (∀ {w0 : World}, Below B w0 w → Below B w0 W3) := by
  obtain ⟨vals, h1, h2, h3⟩ := h
  refine ⟨vals, h1, fun W hb => own_base (own_same h2 fun k hk => hb.block k (own_lt h2 hk)), fun W2 W3 a2 xo c2 n2 xn xc L hb hx hn ho hg hf => ?_⟩
  subst hn
  have z1 := hb.size
  have z2 := hg.size
  have h22 := own_same h2 fun k hk => hb.block k (own_lt h2 hk)
  have hlen : xn = L.length := by have := hx.1; rw [ss_length] at this; omega
  subst hlen
  have hstr : ∀ (B n : Nat) (u : Value) (xs : List Value), W2.ownsRow B 9 1 u n xs → W3.ownsRow B 9 1 u n xs := fun B n u xs hv => own_same hv fun k hk => hg.block k (own_lt hv hk) (fun e => own_type hv hk h22 (by decide) e.symm)
  refine ⟨⟨vals ++ [.slice xo L.length xc], by simp [h1], ?_, fun i u l hu hl => ?_⟩, fun {w0} h0 => ?_⟩
  · rw [List.length_append, List.length_singleton]
    refine own_up ho fun g hgg => ?_
    rcases hf with hf | hf
    · rw [hf] at hgg; exact (h22.lt g hgg).1
    · rw [hf] at hgg; cases hgg; omega
  · by_cases hi : i < ls.length
    · rw [List.getElem?_append_left (by rw [h1]; exact hi)] at hu
      rw [List.getElem?_append_left hi] at hl
      exact hstr _ _ _ _ (own_same (h3 i u l hu hl) fun k hk => hb.block k (own_lt (h3 i u l hu hl) hk))
    · have e : i = ls.length := by have := (List.getElem?_eq_some_iff.1 hl).1; simp at this; omega
      subst e
      rw [List.getElem?_append_right (Nat.le_refl _)] at hl
      rw [List.getElem?_append_right (by rw [h1]; exact Nat.le_refl _)] at hu
      simp [h1] at hu hl
      subst hu hl
      exact hstr _ _ _ _ hx
  · exact (h0.trans (hb.mono (by exact hB))).grown hg (Nat.le_trans hB z1) (fun k hk => (h22.lt k hk).1)

set_option maxRecDepth 100000 in
set_option maxHeartbeats 3200000 in
theorem rsubsets_any (uo : Option Addr) (un uc : Nat) (U : List Str) (w : World) (hU : Rd w (.slice uo un uc) (ss U)) (hu : un ≤ 8) :
    Calls Try.prog 63 #[.slice uo un uc] w fun e w' => ∃ ao n cap, e = .returned (.slice ao n cap) ∧ SetsR w.heap.size w' (.slice ao n cap) (sbF U 0) ∧ Below w.heap.size w w' := by
  have hun := (rds_open hU).1
  have HUN := hid_of hun
  obtain ⟨i1, hi1, hz10, hz11, hz12⟩ := info_parts strsE.info
  have HC : Hid (∀ wr i, Below w.heap.size w wr → i < un → ∃ g o x, uo = some ⟨g, o, none⟩ ∧ U[i]? = some x ∧ ∀ W, Below wr.heap.size wr W → W.cell? ⟨g, o + i, none⟩ = some (.string (ba x))) := hid_of (fun wr i hb hi => by
    obtain ⟨x, hx⟩ : ∃ x, U[i]? = some x := ⟨_, List.getElem?_eq_getElem (by omega)⟩
    rcases (rds_open hU).2.2.2 with q | ⟨g, o, e2, _, _⟩
    · rw [q] at hx; simp at hx
    · refine ⟨g, o, x, e2, hx, fun W hW => ?_⟩
      rcases (rds_open ((hU.at hb).at hW)).2.2.2 with q | ⟨g', o', e3, _, q3⟩
      · rw [q] at hx; simp at hx
      · rw [e2] at e3
        cases e3
        exact q3 i x hx)
  have HL : Hid (∀ i, i ≤ un → (sbF U i).length ≤ 256) := hid_of (fun i _ => by
    rw [sbF_len]
    have : 2 ^ (U.length - i) ≤ 2 ^ 8 := Nat.pow_le_pow_right (by omega) (by omega)
    omega)
  have HE : Hid (∀ i l, l ∈ sbF U i → l.length ≤ 8) := hid_of (fun i l h => Nat.le_trans (sbF_each h) (by omega))
  have H0 : Hid (SetsR w.heap.size ((w.alloc (.cells #[] 9)).alloc (.cells #[.slice (some ⟨w.heap.size, 0, none⟩) 0 0] 22)) (.slice (some ⟨w.heap.size + 1, 0, none⟩) 1 1) (sbF U un) ∧ Below w.heap.size w ((w.alloc (.cells #[] 9)).alloc (.cells #[.slice (some ⟨w.heap.size, 0, none⟩) 0 0] 22))) := hid_of (by
    rw [hun, sbF_end]
    have b1 := bel_alloc w (.cells #[] 9)
    have b2 := bel_alloc (w.alloc (.cells #[] 9)) (.cells #[.slice (some ⟨w.heap.size, 0, none⟩) 0 0] 22)
    have o1 := (ow_empty 9 w).own
    have o2 := own_new1 (w.alloc (.cells #[] 9)) (.slice (some ⟨w.heap.size, 0, none⟩) 0 0) 22
    have e : (w.alloc (.cells #[] 9)).heap.size = w.heap.size + 1 := by simp
    rw [e] at o2
    refine ⟨⟨_, rfl, own_weak o2 (by omega), fun i u l hu hl => ?_⟩, b1.trans (b2.mono b1.size)⟩
    have hi : i = 0 := by have := (List.getElem?_eq_some_iff.1 hl).1; simp at this; omega
    subst hi
    simp only [List.getElem?_cons_zero, Option.some.injEq] at hu hl
    subst hu hl
    exact own_same o1 fun k hk => b2.block k (own_lt o1 hk))
  have hw0 : un = 0 ∨ ∃ i, un = i + 1 := by cases un with | zero => exact .inl rfl | succ i => exact .inr ⟨i, rfl⟩
  have hup : un ≤ 9223372036854775807 := by omega
  clear hU hun
  go_enter Try.func63, Try.ntmps63
  go_wp2
  go_loopw [3, 4, 5, 6] (fun ov iv nv kv wr => ∃ (j m : Nat) (ao : Option Addr) (cap : Nat) (v5 v6 : Value), ov = .slice ao m cap ∧ j ≤ un ∧ ((j = 0 ∧ iv = .int .i64 (-1)) ∨ ∃ i : Nat, j = i + 1 ∧ iv = .int .i64 i) ∧ nv = v5 ∧ kv = v6 ∧ Hid (SetsR w.heap.size wr (.slice ao m cap) (sbF U j)) ∧ Hid (Below w.heap.size w wr)) (fun _ iv _ _ _ => (intOf iv + 1).toNat)
  case atStart =>
    refine ⟨un, 1, _, _, _, _, rfl, Nat.le_refl _, ?_, rfl, rfl, hid_of H0.out.1, hid_of H0.out.2⟩
    rcases hw0 with rfl | ⟨i, rfl⟩
    · exact .inl ⟨rfl, by go_num⟩
    · exact .inr ⟨i, rfl, by go_num⟩
  case round =>
    obtain ⟨j, m0, ao0, cap0, v5, v6, rfl, hj, hcase, rfl, rfl, hs, hb⟩ := hrel
    rcases hcase with ⟨rfl, rfl⟩ | ⟨i, rfl, rfl⟩
    · go_wp2
      go_ret
      exact ⟨ao0, m0, cap0, rfl, hs.out, hb.out⟩
    · have hd : decide ((i : Int) ≥ 0) = true := by simp
      have hd2 : decide ((0 : Int) ≤ (i : Int)) = true := by simp
      have HS0 := hid_of hs.out.len
      have hm0 : m0 ≤ 256 := by rw [HS0.out]; exact HL.out _ hj
      have hi0 : (0 : Int) ≤ (i : Int) := Int.natCast_nonneg _
      have hi2 : (i : Int) < (un : Int) := by omega
      obtain ⟨gu, ou, x, rfl, hx, _⟩ := HC.out w i (Below.refl _ _) (by omega)
      have HX := hid_of hx
      obtain ⟨bx, ebx⟩ : ∃ bx, bx = ba x := ⟨_, rfl⟩
      have HBX := hid_of ebx
      clear hx ebx
      go_wp2
      go_loopw [3, 6] (fun ov kv wr => ∃ (k m : Nat) (ao : Option Addr) (cap : Nat), ov = .slice ao m cap ∧ k ≤ m0 ∧ kv = .int .i64 k ∧ Hid (SetsR w.heap.size wr (.slice ao m cap) (sbF U (i + 1) ++ ((sbF U (i + 1)).take k).map (x :: ·))) ∧ Hid (m = m0 + k) ∧ Hid (Below w.heap.size w wr)) (fun _ kv _ => m0 - (intOf kv).toNat)
      case atStart => exact ⟨0, m0, ao0, cap0, rfl, Nat.zero_le _, rfl, hid_of (by simpa using hs.out), hid_of rfl, hb⟩
      case round =>
        obtain ⟨k, m, ao, cap, rfl, hk, rfl, hs2, HMK, hb2⟩ := hrel
        by_cases hlt : k < m0
        · have hdk : decide (k < m0) = true := by simp; omega
          have hk0 : (0 : Int) ≤ (k : Int) := Int.natCast_nonneg _
          have hmm := HMK.out
          have hk1 : (k : Int) < (m : Int) := by omega
          have hmb : m ≤ 512 := by omega
          clear hmm
          have HMB := hid_of hmb
          obtain ⟨l, hl⟩ : ∃ l, (sbF U (i + 1))[k]? = some l := ⟨_, List.getElem?_eq_getElem (by have := HS0.out; omega)⟩
          have hl2 : (sbF U (i + 1) ++ ((sbF U (i + 1)).take k).map (x :: ·))[k]? = some l := by rw [List.getElem?_append_left (List.getElem?_eq_some_iff.1 hl).1]; exact hl
          obtain ⟨g, xo, xc, rfl, hget⟩ := hs2.out.get hl2
          obtain ⟨vals, q1, q2, q3⟩ := hs2.out.more hb2.out.size
          obtain ⟨gu', ou', x', eu, ex, hcu⟩ := HC.out wr i hb2.out (by omega)
          have exx : x' = x := by have := HX.out; rw [ex] at this; cases this; rfl
          subst exx
          cases eu
          rw [← HBX.out] at hcu
          have HCU := hid_of hcu
          have HGE := hid_of hget
          have HLL : Hid (l.length ≤ 8) := hid_of (HE.out _ l (List.mem_of_getElem? hl))
          have HLK := hid_of hl
          have D0 : Hid (Below wr.heap.size wr wr.drew) := hid_of (Below.refl _ _).drew
          have D1 : Hid (Below wr.heap.size wr ((wr.alloc (.cells #[.string bx] 9)).drew)) := hid_of (bel_alloc wr _).drew
          have y1 := hcu _ D0.out
          have y2 := hcu _ D1.out
          have y3 := (hget _ D0.out).1
          have y4 := (hget _ D1.out).1
          have OWN : Hid (((wr.alloc (.cells #[.string bx] 9)).drew).ownsRow wr.heap.size 9 1 (.slice (some ⟨wr.heap.size, 0, none⟩) 1 1) 1 [.string bx]) := hid_of (own_new1 wr (.string bx) 9).drew
          have SRC : Hid (Src Try.prog 1 22 (.slice xo l.length xc) l.length (ss l) ((wr.alloc (.cells #[.string bx] 9)).drew)) := hid_of (by
            have := (hget _ D1.out).2.srcs strsE (ss_one l)
            rw [ss_length] at this; exact this)
          have HB2 : Hid (∀ w2 (a2 : Option Addr) (c2 n2 : Nat), w2.ownsRow wr.heap.size 9 1 (.slice a2 n2 c2) n2 ([.string bx] ++ ss l) → ((wr.alloc (.cells #[.string bx] 9)).drew).grownBy w2 (Value.slice (some ⟨wr.heap.size, 0, none⟩) 1 1).ownBlock → Below wr.heap.size wr w2) := hid_of (fun w2 a2 c2 n2 _ hg => D1.out.grown hg D1.out.size (fun k hk => by simp only [Value.ownBlock, Option.some.injEq] at hk; omega))
          have hll : (sbF U (i + 1) ++ ((sbF U (i + 1)).take k).map (x' :: ·)).length = m := hs2.out.len.symm
          rw [hll] at q2 q3
          have HROW := hid_of q2
          have HMO : Hid (∀ (W2 W3 : World) (a4 a2 : Option Addr) (c4 n4 xn c2 : Nat), Below wr.heap.size wr W2 → W2.ownsRow wr.heap.size 9 1 (.slice a2 xn c2) xn ([.string bx] ++ ss l) → n4 = m + 1 → W3.ownsRow 0 22 1 (.slice a4 n4 c4) n4 (vals ++ [.slice a2 xn c2]) → W2.grownBy W3 (Value.slice (some ⟨g, 0, none⟩) m cap).ownBlock → ((Value.slice a4 n4 c4).ownBlock = (Value.slice (some ⟨g, 0, none⟩) m cap).ownBlock ∨ (Value.slice a4 n4 c4).ownBlock = some W2.heap.size) →
              n4 = m + 1 ∧ SetsR w.heap.size W3 (.slice a4 (m + 1) c4) (sbF U (i + 1) ++ ((sbF U (i + 1)).take (k + 1)).map (x' :: ·)) ∧ Below w.heap.size w W3) := hid_of (fun W2 W3 a4 a2 c4 n4 xn c2 r1 r2 r3 r4 r5 r6 => by
            have r2' : W2.ownsRow wr.heap.size 9 1 (.slice a2 xn c2) xn (ss (x' :: l)) := by rw [HBX.out] at r2; exact r2
            obtain ⟨t1, t2⟩ := q3 W2 W3 a4 a2 c4 n4 xn c2 (x' :: l) r1 (own_weak r2' hb2.out.size) r3 r4 r5 r6
            subst r3
            refine ⟨rfl, ?_, t2 hb2.out⟩
            rw [take_snoc_get HLK.out, List.map_append, ← List.append_assoc]
            exact t1)
          clear hget hl hl2 q1 q2 q3 hcu ex hll
          go_wp2
          refine wp_region_any (by kernel_rfl) ?_
          change wpAny _ _ _ _ _ _ _ (World.drew _)
          refine wpAny_take (i := 0) (v := .slice (some ⟨g, 0, none⟩) m cap) rfl (by kernel_rfl) (by kernel_rfl) (by kernel_rfl) (fun _ _ _ h => h) (Or.inl ⟨by rfl, by intro w; go_simp⟩) ?_
          refine wpAny_take (i := 1) (v := .slice (some ⟨gu, ou, none⟩) un uc) rfl (by kernel_rfl) (by kernel_rfl) (by kernel_rfl) (fun _ _ _ h => h) (Or.inl ⟨by rfl, by intro w; go_simp⟩) ?_
          refine wpAny_take (i := 2) (v := .int .i64 i) rfl (by kernel_rfl) (by kernel_rfl) (by kernel_rfl) (fun _ _ _ h => h) (Or.inl ⟨by rfl, by intro w; go_simp⟩) ?_
          refine wpAny_take (i := 6) (v := .slice (some ⟨g, 0, none⟩) m cap) rfl (by kernel_rfl) (by kernel_rfl) (by kernel_rfl) (fun _ _ _ h => h) (Or.inl ⟨by rfl, by intro w; go_simp⟩) ?_
          refine wpAny_take (i := 7) (v := .int .i64 k) rfl (by kernel_rfl) (by kernel_rfl) (by kernel_rfl) (fun _ _ _ h => h) (Or.inl ⟨by rfl, by intro w; go_simp⟩) ?_
          refine wpAny_ready (rs := [3, 8]) (by kernel_rfl) (by simp) ?_
          refine AllReady.cons rfl (fun K hK => ?_) (AllReady.cons rfl (fun K hK => ?_) AllReady.nil)
          · go_simp
            refine hK _ _ ?_
            clear hK K
            refine wpAny_ready (rs := [4, 8]) (by kernel_rfl) (by simp) ?_
            refine AllReady.cons rfl (fun K hK => ?_) (AllReady.cons rfl (fun K hK => ?_) AllReady.nil)
            · go_simp
              refine hK _ _ ?_
              clear hK K
              refine wpAny_ready (rs := [5, 8]) (by kernel_rfl) (by simp) ?_
              refine AllReady.cons rfl (fun K hK => ?_) (AllReady.cons rfl (fun K hK => ?_) AllReady.nil)
              · go_simp
                refine hK _ _ ?_
                clear hK K
                refine wpAny_ready (rs := [8]) (by kernel_rfl) (by simp) ?_
                refine AllReady.cons rfl (fun K hK => ?_) AllReady.nil
                go_simp
                refine hK _ _ ?_
                clear hK K
                refine wpAny_ready (rs := [9]) (by kernel_rfl) (by simp) ?_
                refine AllReady.cons rfl (fun K hK => ?_) AllReady.nil
                go_simp
                refine hK _ _ ?_
                clear hK K
                refine wpAny_ready (rs := [10]) (by kernel_rfl) (by simp) ?_
                refine AllReady.cons rfl (fun K hK => ?_) AllReady.nil
                refine step_append_src _ (by rfl) _ _ _ _ (by rfl) wr.heap.size 9 i1 (.string ⟨#[]⟩) 1 16 Try.underlying22 hi1 hz10 hz11 hz12 rfl (by decide) (.slice (some ⟨wr.heap.size, 0, none⟩) 1 1) 1 [.string bx] (by rfl) OWN.out _ l.length (ss l) (by rfl) SRC.out (by unfold maxLen; have := HLL.out; omega) (by have := HLL.out; omega) (by have := D1.out.size; omega) ?_
                intro v2 w2 hown hg _ hf
                obtain ⟨a2, c2, rfl⟩ := own_shape hown
                have B2 := hid_of (HB2.out w2 a2 c2 _ hown hg)
                have O2 := hid_of hown
                clear hown hg hf
                refine hK _ _ ?_
                clear hK K
                refine wpAny_ready (rs := [11]) (by kernel_rfl) (by simp) ?_
                refine AllReady.cons rfl (fun K hK => ?_) AllReady.nil
                go_simp
                refine hK _ _ ?_
                clear hK K
                refine wpAny_ready (rs := [12]) (by kernel_rfl) (by simp) ?_
                refine AllReady.cons rfl (fun K hK => ?_) AllReady.nil
                refine step_own setsE (by rfl) _ _ (by rfl) (.slice (some ⟨g, 0, none⟩) m cap) m vals (by rfl) (HROW.out _ (B2.out.trans ((bel_alloc w2 _).mono B2.out.size))) w2.heap.size (.slice a2 (1 + l.length) c2) (by rfl) (cell_new _ _ _) rfl (by have := HMB.out; omega) (by have := HMB.out; omega) ?_
                intro a4 c4 n4 w4 e1 e2 e3 e4
                have PP := hid_of (HMO.out _ w4 a4 a2 c4 n4 _ c2 (B2.out.trans ((bel_alloc w2 _).mono B2.out.size)) (own_same O2.out fun k hk => (bel_alloc w2 _).block k (own_lt O2.out hk)) e1 e2 e3 e4)
                clear e1 e2 e3 e4
                refine hK _ _ ?_
                clear hK K
                refine wpAny_ready (rs := [13]) (by kernel_rfl) (by simp) ?_
                refine AllReady.cons rfl (fun K hK => ?_) AllReady.nil
                go_simp
                refine hK _ _ ?_
                clear hK K
                refine wpAny_done (by kernel_rfl) ?_ _
                go_wp2
                go_roundw
                case rel => exact ⟨k + 1, m + 1, a4, c4, by rw [PP.out.1], by omega, by go_num, hid_of PP.out.2.1, hid_of (by rw [HMK.out]; omega), hid_of PP.out.2.2⟩
                case measure => simp [intOf]; omega
              · go_simp
                refine hK _ _ ?_
                clear hK K
                refine wpAny_ready (rs := [5, 9]) (by kernel_rfl) (by simp) ?_
                refine AllReady.cons rfl (fun K hK => ?_) (AllReady.cons rfl (fun K hK => ?_) AllReady.nil)
                · go_simp
                  refine hK _ _ ?_
                  clear hK K
                  refine wpAny_ready (rs := [9]) (by kernel_rfl) (by simp) ?_
                  refine AllReady.cons rfl (fun K hK => ?_) AllReady.nil
                  go_simp
                  refine hK _ _ ?_
                  clear hK K
                  refine wpAny_ready (rs := [10]) (by kernel_rfl) (by simp) ?_
                  refine AllReady.cons rfl (fun K hK => ?_) AllReady.nil
                  refine step_append_src _ (by rfl) _ _ _ _ (by rfl) wr.heap.size 9 i1 (.string ⟨#[]⟩) 1 16 Try.underlying22 hi1 hz10 hz11 hz12 rfl (by decide) (.slice (some ⟨wr.heap.size, 0, none⟩) 1 1) 1 [.string bx] (by rfl) OWN.out _ l.length (ss l) (by rfl) SRC.out (by unfold maxLen; have := HLL.out; omega) (by have := HLL.out; omega) (by have := D1.out.size; omega) ?_
                  intro v2 w2 hown hg _ hf
                  obtain ⟨a2, c2, rfl⟩ := own_shape hown
                  have B2 := hid_of (HB2.out w2 a2 c2 _ hown hg)
                  have O2 := hid_of hown
                  clear hown hg hf
                  refine hK _ _ ?_
                  clear hK K
                  refine wpAny_ready (rs := [11]) (by kernel_rfl) (by simp) ?_
                  refine AllReady.cons rfl (fun K hK => ?_) AllReady.nil
                  go_simp
                  refine hK _ _ ?_
                  clear hK K
                  refine wpAny_ready (rs := [12]) (by kernel_rfl) (by simp) ?_
                  refine AllReady.cons rfl (fun K hK => ?_) AllReady.nil
                  refine step_own setsE (by rfl) _ _ (by rfl) (.slice (some ⟨g, 0, none⟩) m cap) m vals (by rfl) (HROW.out _ (B2.out.trans ((bel_alloc w2 _).mono B2.out.size))) w2.heap.size (.slice a2 (1 + l.length) c2) (by rfl) (cell_new _ _ _) rfl (by have := HMB.out; omega) (by have := HMB.out; omega) ?_
                  intro a4 c4 n4 w4 e1 e2 e3 e4
                  have PP := hid_of (HMO.out _ w4 a4 a2 c4 n4 _ c2 (B2.out.trans ((bel_alloc w2 _).mono B2.out.size)) (own_same O2.out fun k hk => (bel_alloc w2 _).block k (own_lt O2.out hk)) e1 e2 e3 e4)
                  clear e1 e2 e3 e4
                  refine hK _ _ ?_
                  clear hK K
                  refine wpAny_ready (rs := [13]) (by kernel_rfl) (by simp) ?_
                  refine AllReady.cons rfl (fun K hK => ?_) AllReady.nil
                  go_simp
                  refine hK _ _ ?_
                  clear hK K
                  refine wpAny_done (by kernel_rfl) ?_ _
                  go_wp2
                  go_roundw
                  case rel => exact ⟨k + 1, m + 1, a4, c4, by rw [PP.out.1], by omega, by go_num, hid_of PP.out.2.1, hid_of (by rw [HMK.out]; omega), hid_of PP.out.2.2⟩
                  case measure => simp [intOf]; omega
                · go_simp
                  refine hK _ _ ?_
                  clear hK K
                  refine wpAny_ready (rs := [5]) (by kernel_rfl) (by simp) ?_
                  refine AllReady.cons rfl (fun K hK => ?_) AllReady.nil
                  go_simp
                  refine hK _ _ ?_
                  clear hK K
                  refine wpAny_ready (rs := [10]) (by kernel_rfl) (by simp) ?_
                  refine AllReady.cons rfl (fun K hK => ?_) AllReady.nil
                  refine step_append_src _ (by rfl) _ _ _ _ (by rfl) wr.heap.size 9 i1 (.string ⟨#[]⟩) 1 16 Try.underlying22 hi1 hz10 hz11 hz12 rfl (by decide) (.slice (some ⟨wr.heap.size, 0, none⟩) 1 1) 1 [.string bx] (by rfl) OWN.out _ l.length (ss l) (by rfl) SRC.out (by unfold maxLen; have := HLL.out; omega) (by have := HLL.out; omega) (by have := D1.out.size; omega) ?_
                  intro v2 w2 hown hg _ hf
                  obtain ⟨a2, c2, rfl⟩ := own_shape hown
                  have B2 := hid_of (HB2.out w2 a2 c2 _ hown hg)
                  have O2 := hid_of hown
                  clear hown hg hf
                  refine hK _ _ ?_
                  clear hK K
                  refine wpAny_ready (rs := [11]) (by kernel_rfl) (by simp) ?_
                  refine AllReady.cons rfl (fun K hK => ?_) AllReady.nil
                  go_simp
                  refine hK _ _ ?_
                  clear hK K
                  refine wpAny_ready (rs := [12]) (by kernel_rfl) (by simp) ?_
                  refine AllReady.cons rfl (fun K hK => ?_) AllReady.nil
                  refine step_own setsE (by rfl) _ _ (by rfl) (.slice (some ⟨g, 0, none⟩) m cap) m vals (by rfl) (HROW.out _ (B2.out.trans ((bel_alloc w2 _).mono B2.out.size))) w2.heap.size (.slice a2 (1 + l.length) c2) (by rfl) (cell_new _ _ _) rfl (by have := HMB.out; omega) (by have := HMB.out; omega) ?_
                  intro a4 c4 n4 w4 e1 e2 e3 e4
                  have PP := hid_of (HMO.out _ w4 a4 a2 c4 n4 _ c2 (B2.out.trans ((bel_alloc w2 _).mono B2.out.size)) (own_same O2.out fun k hk => (bel_alloc w2 _).block k (own_lt O2.out hk)) e1 e2 e3 e4)
                  clear e1 e2 e3 e4
                  refine hK _ _ ?_
                  clear hK K
                  refine wpAny_ready (rs := [13]) (by kernel_rfl) (by simp) ?_
                  refine AllReady.cons rfl (fun K hK => ?_) AllReady.nil
                  go_simp
                  refine hK _ _ ?_
                  clear hK K
                  refine wpAny_done (by kernel_rfl) ?_ _
                  go_wp2
                  go_roundw
                  case rel => exact ⟨k + 1, m + 1, a4, c4, by rw [PP.out.1], by omega, by go_num, hid_of PP.out.2.1, hid_of (by rw [HMK.out]; omega), hid_of PP.out.2.2⟩
                  case measure => simp [intOf]; omega
            · go_simp
              refine hK _ _ ?_
              clear hK K
              refine wpAny_ready (rs := [4, 9]) (by kernel_rfl) (by simp) ?_
              refine AllReady.cons rfl (fun K hK => ?_) (AllReady.cons rfl (fun K hK => ?_) AllReady.nil)
              · go_simp
                refine hK _ _ ?_
                clear hK K
                refine wpAny_ready (rs := [5, 9]) (by kernel_rfl) (by simp) ?_
                refine AllReady.cons rfl (fun K hK => ?_) (AllReady.cons rfl (fun K hK => ?_) AllReady.nil)
                · go_simp
                  refine hK _ _ ?_
                  clear hK K
                  refine wpAny_ready (rs := [9]) (by kernel_rfl) (by simp) ?_
                  refine AllReady.cons rfl (fun K hK => ?_) AllReady.nil
                  go_simp
                  refine hK _ _ ?_
                  clear hK K
                  refine wpAny_ready (rs := [10]) (by kernel_rfl) (by simp) ?_
                  refine AllReady.cons rfl (fun K hK => ?_) AllReady.nil
                  refine step_append_src _ (by rfl) _ _ _ _ (by rfl) wr.heap.size 9 i1 (.string ⟨#[]⟩) 1 16 Try.underlying22 hi1 hz10 hz11 hz12 rfl (by decide) (.slice (some ⟨wr.heap.size, 0, none⟩) 1 1) 1 [.string bx] (by rfl) OWN.out _ l.length (ss l) (by rfl) SRC.out (by unfold maxLen; have := HLL.out; omega) (by have := HLL.out; omega) (by have := D1.out.size; omega) ?_
                  intro v2 w2 hown hg _ hf
                  obtain ⟨a2, c2, rfl⟩ := own_shape hown
                  have B2 := hid_of (HB2.out w2 a2 c2 _ hown hg)
                  have O2 := hid_of hown
                  clear hown hg hf
                  refine hK _ _ ?_
                  clear hK K
                  refine wpAny_ready (rs := [11]) (by kernel_rfl) (by simp) ?_
                  refine AllReady.cons rfl (fun K hK => ?_) AllReady.nil
                  go_simp
                  refine hK _ _ ?_
                  clear hK K
                  refine wpAny_ready (rs := [12]) (by kernel_rfl) (by simp) ?_
                  refine AllReady.cons rfl (fun K hK => ?_) AllReady.nil
                  refine step_own setsE (by rfl) _ _ (by rfl) (.slice (some ⟨g, 0, none⟩) m cap) m vals (by rfl) (HROW.out _ (B2.out.trans ((bel_alloc w2 _).mono B2.out.size))) w2.heap.size (.slice a2 (1 + l.length) c2) (by rfl) (cell_new _ _ _) rfl (by have := HMB.out; omega) (by have := HMB.out; omega) ?_
                  intro a4 c4 n4 w4 e1 e2 e3 e4
                  have PP := hid_of (HMO.out _ w4 a4 a2 c4 n4 _ c2 (B2.out.trans ((bel_alloc w2 _).mono B2.out.size)) (own_same O2.out fun k hk => (bel_alloc w2 _).block k (own_lt O2.out hk)) e1 e2 e3 e4)
                  clear e1 e2 e3 e4
                  refine hK _ _ ?_
                  clear hK K
                  refine wpAny_ready (rs := [13]) (by kernel_rfl) (by simp) ?_
                  refine AllReady.cons rfl (fun K hK => ?_) AllReady.nil
                  go_simp
                  refine hK _ _ ?_
                  clear hK K
                  refine wpAny_done (by kernel_rfl) ?_ _
                  go_wp2
                  go_roundw
                  case rel => exact ⟨k + 1, m + 1, a4, c4, by rw [PP.out.1], by omega, by go_num, hid_of PP.out.2.1, hid_of (by rw [HMK.out]; omega), hid_of PP.out.2.2⟩
                  case measure => simp [intOf]; omega
                · go_simp
                  refine hK _ _ ?_
                  clear hK K
                  refine wpAny_ready (rs := [5]) (by kernel_rfl) (by simp) ?_
                  refine AllReady.cons rfl (fun K hK => ?_) AllReady.nil
                  go_simp
                  refine hK _ _ ?_
                  clear hK K
                  refine wpAny_ready (rs := [10]) (by kernel_rfl) (by simp) ?_
                  refine AllReady.cons rfl (fun K hK => ?_) AllReady.nil
                  refine step_append_src _ (by rfl) _ _ _ _ (by rfl) wr.heap.size 9 i1 (.string ⟨#[]⟩) 1 16 Try.underlying22 hi1 hz10 hz11 hz12 rfl (by decide) (.slice (some ⟨wr.heap.size, 0, none⟩) 1 1) 1 [.string bx] (by rfl) OWN.out _ l.length (ss l) (by rfl) SRC.out (by unfold maxLen; have := HLL.out; omega) (by have := HLL.out; omega) (by have := D1.out.size; omega) ?_
                  intro v2 w2 hown hg _ hf
                  obtain ⟨a2, c2, rfl⟩ := own_shape hown
                  have B2 := hid_of (HB2.out w2 a2 c2 _ hown hg)
                  have O2 := hid_of hown
                  clear hown hg hf
                  refine hK _ _ ?_
                  clear hK K
                  refine wpAny_ready (rs := [11]) (by kernel_rfl) (by simp) ?_
                  refine AllReady.cons rfl (fun K hK => ?_) AllReady.nil
                  go_simp
                  refine hK _ _ ?_
                  clear hK K
                  refine wpAny_ready (rs := [12]) (by kernel_rfl) (by simp) ?_
                  refine AllReady.cons rfl (fun K hK => ?_) AllReady.nil
                  refine step_own setsE (by rfl) _ _ (by rfl) (.slice (some ⟨g, 0, none⟩) m cap) m vals (by rfl) (HROW.out _ (B2.out.trans ((bel_alloc w2 _).mono B2.out.size))) w2.heap.size (.slice a2 (1 + l.length) c2) (by rfl) (cell_new _ _ _) rfl (by have := HMB.out; omega) (by have := HMB.out; omega) ?_
                  intro a4 c4 n4 w4 e1 e2 e3 e4
                  have PP := hid_of (HMO.out _ w4 a4 a2 c4 n4 _ c2 (B2.out.trans ((bel_alloc w2 _).mono B2.out.size)) (own_same O2.out fun k hk => (bel_alloc w2 _).block k (own_lt O2.out hk)) e1 e2 e3 e4)
                  clear e1 e2 e3 e4
                  refine hK _ _ ?_
                  clear hK K
                  refine wpAny_ready (rs := [13]) (by kernel_rfl) (by simp) ?_
                  refine AllReady.cons rfl (fun K hK => ?_) AllReady.nil
                  go_simp
                  refine hK _ _ ?_
                  clear hK K
                  refine wpAny_done (by kernel_rfl) ?_ _
                  go_wp2
                  go_roundw
                  case rel => exact ⟨k + 1, m + 1, a4, c4, by rw [PP.out.1], by omega, by go_num, hid_of PP.out.2.1, hid_of (by rw [HMK.out]; omega), hid_of PP.out.2.2⟩
                  case measure => simp [intOf]; omega
              · go_simp
                refine hK _ _ ?_
                clear hK K
                refine wpAny_ready (rs := [4]) (by kernel_rfl) (by simp) ?_
                refine AllReady.cons rfl (fun K hK => ?_) AllReady.nil
                go_simp
                refine hK _ _ ?_
                clear hK K
                refine wpAny_ready (rs := [5]) (by kernel_rfl) (by simp) ?_
                refine AllReady.cons rfl (fun K hK => ?_) AllReady.nil
                go_simp
                refine hK _ _ ?_
                clear hK K
                refine wpAny_ready (rs := [10]) (by kernel_rfl) (by simp) ?_
                refine AllReady.cons rfl (fun K hK => ?_) AllReady.nil
                refine step_append_src _ (by rfl) _ _ _ _ (by rfl) wr.heap.size 9 i1 (.string ⟨#[]⟩) 1 16 Try.underlying22 hi1 hz10 hz11 hz12 rfl (by decide) (.slice (some ⟨wr.heap.size, 0, none⟩) 1 1) 1 [.string bx] (by rfl) OWN.out _ l.length (ss l) (by rfl) SRC.out (by unfold maxLen; have := HLL.out; omega) (by have := HLL.out; omega) (by have := D1.out.size; omega) ?_
                intro v2 w2 hown hg _ hf
                obtain ⟨a2, c2, rfl⟩ := own_shape hown
                have B2 := hid_of (HB2.out w2 a2 c2 _ hown hg)
                have O2 := hid_of hown
                clear hown hg hf
                refine hK _ _ ?_
                clear hK K
                refine wpAny_ready (rs := [11]) (by kernel_rfl) (by simp) ?_
                refine AllReady.cons rfl (fun K hK => ?_) AllReady.nil
                go_simp
                refine hK _ _ ?_
                clear hK K
                refine wpAny_ready (rs := [12]) (by kernel_rfl) (by simp) ?_
                refine AllReady.cons rfl (fun K hK => ?_) AllReady.nil
                refine step_own setsE (by rfl) _ _ (by rfl) (.slice (some ⟨g, 0, none⟩) m cap) m vals (by rfl) (HROW.out _ (B2.out.trans ((bel_alloc w2 _).mono B2.out.size))) w2.heap.size (.slice a2 (1 + l.length) c2) (by rfl) (cell_new _ _ _) rfl (by have := HMB.out; omega) (by have := HMB.out; omega) ?_
                intro a4 c4 n4 w4 e1 e2 e3 e4
                have PP := hid_of (HMO.out _ w4 a4 a2 c4 n4 _ c2 (B2.out.trans ((bel_alloc w2 _).mono B2.out.size)) (own_same O2.out fun k hk => (bel_alloc w2 _).block k (own_lt O2.out hk)) e1 e2 e3 e4)
                clear e1 e2 e3 e4
                refine hK _ _ ?_
                clear hK K
                refine wpAny_ready (rs := [13]) (by kernel_rfl) (by simp) ?_
                refine AllReady.cons rfl (fun K hK => ?_) AllReady.nil
                go_simp
                refine hK _ _ ?_
                clear hK K
                refine wpAny_done (by kernel_rfl) ?_ _
                go_wp2
                go_roundw
                case rel => exact ⟨k + 1, m + 1, a4, c4, by rw [PP.out.1], by omega, by go_num, hid_of PP.out.2.1, hid_of (by rw [HMK.out]; omega), hid_of PP.out.2.2⟩
                case measure => simp [intOf]; omega
          · go_simp
            refine hK _ _ ?_
            clear hK K
            refine wpAny_ready (rs := [3, 9]) (by kernel_rfl) (by simp) ?_
            refine AllReady.cons rfl (fun K hK => ?_) (AllReady.cons rfl (fun K hK => ?_) AllReady.nil)
            · go_simp
              refine hK _ _ ?_
              clear hK K
              refine wpAny_ready (rs := [4, 9]) (by kernel_rfl) (by simp) ?_
              refine AllReady.cons rfl (fun K hK => ?_) (AllReady.cons rfl (fun K hK => ?_) AllReady.nil)
              · go_simp
                refine hK _ _ ?_
                clear hK K
                refine wpAny_ready (rs := [5, 9]) (by kernel_rfl) (by simp) ?_
                refine AllReady.cons rfl (fun K hK => ?_) (AllReady.cons rfl (fun K hK => ?_) AllReady.nil)
                · go_simp
                  refine hK _ _ ?_
                  clear hK K
                  refine wpAny_ready (rs := [9]) (by kernel_rfl) (by simp) ?_
                  refine AllReady.cons rfl (fun K hK => ?_) AllReady.nil
                  go_simp
                  refine hK _ _ ?_
                  clear hK K
                  refine wpAny_ready (rs := [10]) (by kernel_rfl) (by simp) ?_
                  refine AllReady.cons rfl (fun K hK => ?_) AllReady.nil
                  refine step_append_src _ (by rfl) _ _ _ _ (by rfl) wr.heap.size 9 i1 (.string ⟨#[]⟩) 1 16 Try.underlying22 hi1 hz10 hz11 hz12 rfl (by decide) (.slice (some ⟨wr.heap.size, 0, none⟩) 1 1) 1 [.string bx] (by rfl) OWN.out _ l.length (ss l) (by rfl) SRC.out (by unfold maxLen; have := HLL.out; omega) (by have := HLL.out; omega) (by have := D1.out.size; omega) ?_
                  intro v2 w2 hown hg _ hf
                  obtain ⟨a2, c2, rfl⟩ := own_shape hown
                  have B2 := hid_of (HB2.out w2 a2 c2 _ hown hg)
                  have O2 := hid_of hown
                  clear hown hg hf
                  refine hK _ _ ?_
                  clear hK K
                  refine wpAny_ready (rs := [11]) (by kernel_rfl) (by simp) ?_
                  refine AllReady.cons rfl (fun K hK => ?_) AllReady.nil
                  go_simp
                  refine hK _ _ ?_
                  clear hK K
                  refine wpAny_ready (rs := [12]) (by kernel_rfl) (by simp) ?_
                  refine AllReady.cons rfl (fun K hK => ?_) AllReady.nil
                  refine step_own setsE (by rfl) _ _ (by rfl) (.slice (some ⟨g, 0, none⟩) m cap) m vals (by rfl) (HROW.out _ (B2.out.trans ((bel_alloc w2 _).mono B2.out.size))) w2.heap.size (.slice a2 (1 + l.length) c2) (by rfl) (cell_new _ _ _) rfl (by have := HMB.out; omega) (by have := HMB.out; omega) ?_
                  intro a4 c4 n4 w4 e1 e2 e3 e4
                  have PP := hid_of (HMO.out _ w4 a4 a2 c4 n4 _ c2 (B2.out.trans ((bel_alloc w2 _).mono B2.out.size)) (own_same O2.out fun k hk => (bel_alloc w2 _).block k (own_lt O2.out hk)) e1 e2 e3 e4)
                  clear e1 e2 e3 e4
                  refine hK _ _ ?_
                  clear hK K
                  refine wpAny_ready (rs := [13]) (by kernel_rfl) (by simp) ?_
                  refine AllReady.cons rfl (fun K hK => ?_) AllReady.nil
                  go_simp
                  refine hK _ _ ?_
                  clear hK K
                  refine wpAny_done (by kernel_rfl) ?_ _
                  go_wp2
                  go_roundw
                  case rel => exact ⟨k + 1, m + 1, a4, c4, by rw [PP.out.1], by omega, by go_num, hid_of PP.out.2.1, hid_of (by rw [HMK.out]; omega), hid_of PP.out.2.2⟩
                  case measure => simp [intOf]; omega
                · go_simp
                  refine hK _ _ ?_
                  clear hK K
                  refine wpAny_ready (rs := [5]) (by kernel_rfl) (by simp) ?_
                  refine AllReady.cons rfl (fun K hK => ?_) AllReady.nil
                  go_simp
                  refine hK _ _ ?_
                  clear hK K
                  refine wpAny_ready (rs := [10]) (by kernel_rfl) (by simp) ?_
                  refine AllReady.cons rfl (fun K hK => ?_) AllReady.nil
                  refine step_append_src _ (by rfl) _ _ _ _ (by rfl) wr.heap.size 9 i1 (.string ⟨#[]⟩) 1 16 Try.underlying22 hi1 hz10 hz11 hz12 rfl (by decide) (.slice (some ⟨wr.heap.size, 0, none⟩) 1 1) 1 [.string bx] (by rfl) OWN.out _ l.length (ss l) (by rfl) SRC.out (by unfold maxLen; have := HLL.out; omega) (by have := HLL.out; omega) (by have := D1.out.size; omega) ?_
                  intro v2 w2 hown hg _ hf
                  obtain ⟨a2, c2, rfl⟩ := own_shape hown
                  have B2 := hid_of (HB2.out w2 a2 c2 _ hown hg)
                  have O2 := hid_of hown
                  clear hown hg hf
                  refine hK _ _ ?_
                  clear hK K
                  refine wpAny_ready (rs := [11]) (by kernel_rfl) (by simp) ?_
                  refine AllReady.cons rfl (fun K hK => ?_) AllReady.nil
                  go_simp
                  refine hK _ _ ?_
                  clear hK K
                  refine wpAny_ready (rs := [12]) (by kernel_rfl) (by simp) ?_
                  refine AllReady.cons rfl (fun K hK => ?_) AllReady.nil
                  refine step_own setsE (by rfl) _ _ (by rfl) (.slice (some ⟨g, 0, none⟩) m cap) m vals (by rfl) (HROW.out _ (B2.out.trans ((bel_alloc w2 _).mono B2.out.size))) w2.heap.size (.slice a2 (1 + l.length) c2) (by rfl) (cell_new _ _ _) rfl (by have := HMB.out; omega) (by have := HMB.out; omega) ?_
                  intro a4 c4 n4 w4 e1 e2 e3 e4
                  have PP := hid_of (HMO.out _ w4 a4 a2 c4 n4 _ c2 (B2.out.trans ((bel_alloc w2 _).mono B2.out.size)) (own_same O2.out fun k hk => (bel_alloc w2 _).block k (own_lt O2.out hk)) e1 e2 e3 e4)
                  clear e1 e2 e3 e4
                  refine hK _ _ ?_
                  clear hK K
                  refine wpAny_ready (rs := [13]) (by kernel_rfl) (by simp) ?_
                  refine AllReady.cons rfl (fun K hK => ?_) AllReady.nil
                  go_simp
                  refine hK _ _ ?_
                  clear hK K
                  refine wpAny_done (by kernel_rfl) ?_ _
                  go_wp2
                  go_roundw
                  case rel => exact ⟨k + 1, m + 1, a4, c4, by rw [PP.out.1], by omega, by go_num, hid_of PP.out.2.1, hid_of (by rw [HMK.out]; omega), hid_of PP.out.2.2⟩
                  case measure => simp [intOf]; omega
              · go_simp
                refine hK _ _ ?_
                clear hK K
                refine wpAny_ready (rs := [4]) (by kernel_rfl) (by simp) ?_
                refine AllReady.cons rfl (fun K hK => ?_) AllReady.nil
                go_simp
                refine hK _ _ ?_
                clear hK K
                refine wpAny_ready (rs := [5]) (by kernel_rfl) (by simp) ?_
                refine AllReady.cons rfl (fun K hK => ?_) AllReady.nil
                go_simp
                refine hK _ _ ?_
                clear hK K
                refine wpAny_ready (rs := [10]) (by kernel_rfl) (by simp) ?_
                refine AllReady.cons rfl (fun K hK => ?_) AllReady.nil
                refine step_append_src _ (by rfl) _ _ _ _ (by rfl) wr.heap.size 9 i1 (.string ⟨#[]⟩) 1 16 Try.underlying22 hi1 hz10 hz11 hz12 rfl (by decide) (.slice (some ⟨wr.heap.size, 0, none⟩) 1 1) 1 [.string bx] (by rfl) OWN.out _ l.length (ss l) (by rfl) SRC.out (by unfold maxLen; have := HLL.out; omega) (by have := HLL.out; omega) (by have := D1.out.size; omega) ?_
                intro v2 w2 hown hg _ hf
                obtain ⟨a2, c2, rfl⟩ := own_shape hown
                have B2 := hid_of (HB2.out w2 a2 c2 _ hown hg)
                have O2 := hid_of hown
                clear hown hg hf
                refine hK _ _ ?_
                clear hK K
                refine wpAny_ready (rs := [11]) (by kernel_rfl) (by simp) ?_
                refine AllReady.cons rfl (fun K hK => ?_) AllReady.nil
                go_simp
                refine hK _ _ ?_
                clear hK K
                refine wpAny_ready (rs := [12]) (by kernel_rfl) (by simp) ?_
                refine AllReady.cons rfl (fun K hK => ?_) AllReady.nil
                refine step_own setsE (by rfl) _ _ (by rfl) (.slice (some ⟨g, 0, none⟩) m cap) m vals (by rfl) (HROW.out _ (B2.out.trans ((bel_alloc w2 _).mono B2.out.size))) w2.heap.size (.slice a2 (1 + l.length) c2) (by rfl) (cell_new _ _ _) rfl (by have := HMB.out; omega) (by have := HMB.out; omega) ?_
                intro a4 c4 n4 w4 e1 e2 e3 e4
                have PP := hid_of (HMO.out _ w4 a4 a2 c4 n4 _ c2 (B2.out.trans ((bel_alloc w2 _).mono B2.out.size)) (own_same O2.out fun k hk => (bel_alloc w2 _).block k (own_lt O2.out hk)) e1 e2 e3 e4)
                clear e1 e2 e3 e4
                refine hK _ _ ?_
                clear hK K
                refine wpAny_ready (rs := [13]) (by kernel_rfl) (by simp) ?_
                refine AllReady.cons rfl (fun K hK => ?_) AllReady.nil
                go_simp
                refine hK _ _ ?_
                clear hK K
                refine wpAny_done (by kernel_rfl) ?_ _
                go_wp2
                go_roundw
                case rel => exact ⟨k + 1, m + 1, a4, c4, by rw [PP.out.1], by omega, by go_num, hid_of PP.out.2.1, hid_of (by rw [HMK.out]; omega), hid_of PP.out.2.2⟩
                case measure => simp [intOf]; omega
            · go_simp
              refine hK _ _ ?_
              clear hK K
              refine wpAny_ready (rs := [3]) (by kernel_rfl) (by simp) ?_
              refine AllReady.cons rfl (fun K hK => ?_) AllReady.nil
              go_simp
              refine hK _ _ ?_
              clear hK K
              refine wpAny_ready (rs := [4]) (by kernel_rfl) (by simp) ?_
              refine AllReady.cons rfl (fun K hK => ?_) AllReady.nil
              go_simp
              refine hK _ _ ?_
              clear hK K
              refine wpAny_ready (rs := [5]) (by kernel_rfl) (by simp) ?_
              refine AllReady.cons rfl (fun K hK => ?_) AllReady.nil
              go_simp
              refine hK _ _ ?_
              clear hK K
              refine wpAny_ready (rs := [10]) (by kernel_rfl) (by simp) ?_
              refine AllReady.cons rfl (fun K hK => ?_) AllReady.nil
              refine step_append_src _ (by rfl) _ _ _ _ (by rfl) wr.heap.size 9 i1 (.string ⟨#[]⟩) 1 16 Try.underlying22 hi1 hz10 hz11 hz12 rfl (by decide) (.slice (some ⟨wr.heap.size, 0, none⟩) 1 1) 1 [.string bx] (by rfl) OWN.out _ l.length (ss l) (by rfl) SRC.out (by unfold maxLen; have := HLL.out; omega) (by have := HLL.out; omega) (by have := D1.out.size; omega) ?_
              intro v2 w2 hown hg _ hf
              obtain ⟨a2, c2, rfl⟩ := own_shape hown
              have B2 := hid_of (HB2.out w2 a2 c2 _ hown hg)
              have O2 := hid_of hown
              clear hown hg hf
              refine hK _ _ ?_
              clear hK K
              refine wpAny_ready (rs := [11]) (by kernel_rfl) (by simp) ?_
              refine AllReady.cons rfl (fun K hK => ?_) AllReady.nil
              go_simp
              refine hK _ _ ?_
              clear hK K
              refine wpAny_ready (rs := [12]) (by kernel_rfl) (by simp) ?_
              refine AllReady.cons rfl (fun K hK => ?_) AllReady.nil
              refine step_own setsE (by rfl) _ _ (by rfl) (.slice (some ⟨g, 0, none⟩) m cap) m vals (by rfl) (HROW.out _ (B2.out.trans ((bel_alloc w2 _).mono B2.out.size))) w2.heap.size (.slice a2 (1 + l.length) c2) (by rfl) (cell_new _ _ _) rfl (by have := HMB.out; omega) (by have := HMB.out; omega) ?_
              intro a4 c4 n4 w4 e1 e2 e3 e4
              have PP := hid_of (HMO.out _ w4 a4 a2 c4 n4 _ c2 (B2.out.trans ((bel_alloc w2 _).mono B2.out.size)) (own_same O2.out fun k hk => (bel_alloc w2 _).block k (own_lt O2.out hk)) e1 e2 e3 e4)
              clear e1 e2 e3 e4
              refine hK _ _ ?_
              clear hK K
              refine wpAny_ready (rs := [13]) (by kernel_rfl) (by simp) ?_
              refine AllReady.cons rfl (fun K hK => ?_) AllReady.nil
              go_simp
              refine hK _ _ ?_
              clear hK K
              refine wpAny_done (by kernel_rfl) ?_ _
              go_wp2
              go_roundw
              case rel => exact ⟨k + 1, m + 1, a4, c4, by rw [PP.out.1], by omega, by go_num, hid_of PP.out.2.1, hid_of (by rw [HMK.out]; omega), hid_of PP.out.2.2⟩
              case measure => simp [intOf]; omega
        · have hdk : decide (k < m0) = false := by simp; omega
          obtain rfl : m0 = k := by omega
          have HNX : Hid (SetsR w.heap.size wr (.slice ao m cap) (sbF U i)) := hid_of (by
            have h := hs2.out
            rw [List.take_of_length_le (by have := HS0.out; omega)] at h
            rw [sbF_next HX.out]; exact h)
          go_wp2
          go_roundw
          case rel =>
            refine ⟨i, m, ao, cap, _, _, rfl, by omega, ?_, rfl, rfl, HNX, hb2⟩
            rcases Nat.eq_zero_or_pos i with h | h
            · subst h; exact .inl ⟨rfl, by go_num⟩
            · obtain ⟨i', rfl⟩ : ∃ i', i = i' + 1 := ⟨i - 1, by omega⟩
              exact .inr ⟨i', rfl, by go_num⟩
          case measure => simp [intOf] <;> omega
end Go.Proofs.Ytclefigcendpgaa
