/- The reference's All. Bounds on sizes alone. -/
import Derived.Test.YtclefigcendpgaaClsRsb
import Derived.Test.YtclefigcendpgaaClsRcl
namespace Go.Proofs.Ytclefigcendpgaa
open Go.RowKit

theorem SetsR.each {B : Nat} {w : World} {v : Value} {ls : List (List Str)} (h : SetsR B w v ls) {k : Nat} {l : List Str} (hl : ls[k]? = some l) : ∃ xo xc, w.ownsRow B 9 1 (.slice xo l.length xc) l.length (ss l) ∧ (∀ ao n cap, v = .slice ao n cap → ∃ g, ao = some ⟨g, 0, none⟩ ∧ w.cell? ⟨g, k, none⟩ = some (.slice xo l.length xc)) := by
  obtain ⟨vals, h1, h2, h3⟩ := h
  obtain ⟨u, hu⟩ : ∃ u, vals[k]? = some u := ⟨_, List.getElem?_eq_getElem (by have := (List.getElem?_eq_some_iff.1 hl).1; omega)⟩
  have h4 := h3 k u l hu hl
  obtain ⟨xo, xc, rfl⟩ := own_shape h4
  refine ⟨xo, xc, h4, fun ao n cap e => ?_⟩
  subst e
  rcases own_shape2 h2 with ⟨e, e2⟩ | ⟨g, c, e, _, _, _⟩
  · have := (List.getElem?_eq_some_iff.1 hl).1; omega
  · simp only [Value.slice.injEq] at e
    obtain ⟨rfl, rfl, rfl⟩ := e
    exact ⟨g, rfl, own_cell h2 hu⟩
/-- What another row's append lets alone. -/
theorem SetsR.keep {B B2 n2 : Nat} {w W2 W3 : World} {v v2 : Value} {ls : List (List Str)} {xs : List Value} (h : SetsR B w v ls) (hb : Below w.heap.size w W2) (ho : W2.ownsRow B2 22 1 v2 n2 xs) (hg : W2.grownBy W3 v2.ownBlock) (hne : ∀ g, v.ownBlock = some g → v2.ownBlock ≠ some g) : SetsR B W3 v ls := by
  obtain ⟨vals, h1, h2, h3⟩ := h.below hb
  exact ⟨vals, h1, own_same h2 fun k hk => hg.block k (own_lt h2 hk) (fun e => hne k hk e.symm), fun i u l hu hl => own_same (h3 i u l hu hl) fun k hk => hg.block k (own_lt (h3 i u l hu hl) hk) (fun e => own_type (h3 i u l hu hl) hk ho (by decide) e.symm)⟩
theorem SetsR.lt {B : Nat} {w : World} {v : Value} {ls : List (List Str)} (h : SetsR B w v ls) : ∀ g, v.ownBlock = some g → B ≤ g ∧ g < w.heap.size := fun g hg => by
  obtain ⟨_, _, h2, _⟩ := h; exact h2.lt g hg
set_option maxRecDepth 100000 in
set_option maxHeartbeats 1600000 in
theorem rall_any (uo : Option Addr) (un uc : Nat) (U : List Str) (ro : Option Addr) (rn rc : Nat) (rs : List Gr) (w : World) (hU : Rd w (.slice uo un uc) (ss U)) (hR : RuR w (.slice ro rn rc) rs) (hu : un ≤ 8) :
    Calls Try.prog 39 #[.slice uo un uc, .slice ro rn rc] w fun e w' => ∃ ao n cap, e = .returned (.slice ao n cap) ∧ SetsR w.heap.size w' (.slice ao n cap) ((sbF U 0).filter (clsB rs)) ∧ Below w.heap.size w w' := by
  have b1 := bel_alloc w (.cells #[] 22)
  have hun := (rds_open hU).1
  have HL : Hid ((sbF U 0).length ≤ 256) := hid_of (by
    rw [sbF_len]
    have : 2 ^ (U.length - 0) ≤ 2 ^ 8 := Nat.pow_le_pow_right (by omega) (by omega)
    omega)
  have HS : Hid (Calls Try.prog 63 #[.slice uo un uc] (w.alloc (.cells #[] 22)) fun e w1 => ∃ ao n cap, e = .returned (.slice ao n cap) ∧ SetsR w.heap.size w1 (.slice ao n cap) (sbF U 0) ∧ SetsR w.heap.size w1 (.slice (some ⟨w.heap.size, 0, none⟩) 0 0) [] ∧ Below w.heap.size w w1 ∧ ∀ g, (Value.slice ao n cap).ownBlock = some g → (Value.slice (some ⟨w.heap.size, 0, none⟩) 0 0).ownBlock ≠ some g) := hid_of ((rsubsets_any uo un uc U _ (hU.at b1) hu).mono fun e w1 ⟨ao, n, cap, h1, h2, h3⟩ => by
    have hlt := h2.lt
    obtain ⟨vals, q1, q2, q3⟩ := h2
    have o1 := (ow_empty 22 w).own
    exact ⟨ao, n, cap, h1, ⟨vals, q1, own_weak q2 b1.size, fun i u l hu hl => own_weak (q3 i u l hu hl) b1.size⟩, ⟨[], rfl, own_same o1 fun k hk => h3.block k (own_lt o1 hk), fun i u l hu => by simp at hu⟩, b1.trans (h3.mono b1.size), fun g hg e => by
      have := (hlt g hg).1
      simp only [Value.ownBlock, Option.some.injEq] at e
      simp at this; omega⟩)
  have HCL : Hid (∀ W so sc s, Below w.heap.size w W → Rd W (.slice so (List.length s) sc) (ss s) → Calls Try.prog 24 #[.slice ro rn rc, .slice so (List.length s) sc] W fun e w' => e = .returned (.bool (clsB rs s)) ∧ W = w') := hid_of (fun W so sc s hb hs => rclosed_any ro rn rc rs so _ sc s W (hR.at hb) hs)
  clear hU hR hun b1 hu
  go_enter Try.func39, Try.ntmps39
  go_wp2_with (go_at_call 63; ((with_reducible refine (HS.out).mono ?_); (rintro ee w1 ⟨lo, ln, lc, rfl, q1, q2, q3, q4⟩)); have L1 := hid_of q1; have O1 := hid_of q2; have B1 := hid_of q3; have N1 := hid_of q4; clear q1 q2 q3 q4)
  have HLN := hid_of (L1.out.len)
  have hln : ln ≤ 256 := by rw [HLN.out]; exact HL.out
  go_loopw [5, 7] (fun ov kv wr => ∃ (k m : Nat) (ao : Option Addr) (cap : Nat), ov = .slice ao m cap ∧ k ≤ ln ∧ kv = .int .i64 k ∧ m ≤ k ∧ Hid (SetsR w.heap.size wr (.slice ao m cap) (((sbF U 0).take k).filter (clsB rs))) ∧ Hid (SetsR w.heap.size wr (.slice lo ln lc) (sbF U 0)) ∧ Hid (Below w.heap.size w wr) ∧ Hid (∀ g, (Value.slice lo ln lc).ownBlock = some g → (Value.slice ao m cap).ownBlock ≠ some g)) (fun _ kv _ => ln - (intOf kv).toNat)
  case atStart => exact ⟨0, 0, _, _, rfl, Nat.zero_le _, rfl, Nat.le_refl _, O1, L1, B1, N1⟩
  case round =>
    obtain ⟨k, m, ao, cap, rfl, hk, rfl, hmk, ho, hl, hb, hne⟩ := hrel
    by_cases hlt : k < ln
    · have hd : decide (k < ln) = true := by simp; omega
      obtain ⟨l, hlk⟩ : ∃ l, (sbF U 0)[k]? = some l := ⟨_, List.getElem?_eq_getElem (by have := HLN.out; omega)⟩
      obtain ⟨xo, xc, ox, hc⟩ := hl.out.each hlk
      obtain ⟨g, rfl, c1⟩ := hc _ _ _ rfl
      obtain ⟨n, hn⟩ : ∃ n, n = l.length := ⟨_, rfl⟩
      have HC := HCL.out wr xo xc l hb.out (own_rd ox)
      have OX := hid_of ox
      obtain ⟨b, hbb⟩ : ∃ b, b = clsB rs l := ⟨_, rfl⟩
      rw [← hbb, ← hn] at HC
      rw [← hn] at c1
      have HCC := hid_of HC
      have HBB := hid_of hbb
      have HNN := hid_of hn
      have HLK := hid_of hlk
      clear HC hbb hn hlk ox hc
      cases b
      · go_wp2_with (go_at_call 24; ((with_reducible refine (HCC.out).mono ?_); (rintro ee w' ⟨rfl, rfl⟩)))
        go_roundw
        case rel => exact ⟨k + 1, m, ao, cap, rfl, by omega, by go_num, by omega, hid_of (by rw [take_snoc_get HLK.out, List.filter_append]; simp [← HBB.out]; exact ho.out), hl, hb, hne⟩
        case measure => simp [intOf]; omega
      · obtain ⟨vals, q1, q2, q3⟩ := ho.out.more hb.out.size
        have hm : (((sbF U 0).take k).filter (clsB rs)).length = m := ho.out.len.symm
        rw [hm] at q2 q3
        have D1 : Hid (Below wr.heap.size wr (wr.alloc (.cells #[.slice xo n xc] 22))) := hid_of (bel_alloc wr _)
        have HROW := hid_of (q2 _ D1.out)
        have HCN := hid_of (cell_new wr (.slice xo n xc) 22)
        have HMO : Hid (∀ (W3 : World) (a4 : Option Addr) (c4 n4 : Nat), n4 = m + 1 → W3.ownsRow 0 22 1 (.slice a4 n4 c4) n4 (vals ++ [.slice xo n xc]) → (wr.alloc (.cells #[.slice xo n xc] 22)).grownBy W3 (Value.slice ao m cap).ownBlock → ((Value.slice a4 n4 c4).ownBlock = (Value.slice ao m cap).ownBlock ∨ (Value.slice a4 n4 c4).ownBlock = some (wr.alloc (.cells #[.slice xo n xc] 22)).heap.size) →
            n4 = m + 1 ∧ SetsR w.heap.size W3 (.slice a4 (m + 1) c4) (((sbF U 0).take (k + 1)).filter (clsB rs)) ∧ Below w.heap.size w W3 ∧ SetsR w.heap.size W3 (.slice (some ⟨g, 0, none⟩) ln lc) (sbF U 0) ∧ ∀ z, (Value.slice (some ⟨g, 0, none⟩) ln lc).ownBlock = some z → (Value.slice a4 (m + 1) c4).ownBlock ≠ some z) := hid_of (fun W3 a4 c4 n4 r3 r4 r5 r6 => by
          obtain ⟨t1, t2⟩ := q3 _ W3 a4 xo c4 n4 n xc l D1.out (by have h9 := own_same OX.out fun k hk => D1.out.block k (own_lt OX.out hk); rw [← HNN.out] at h9; exact h9) r3 r4 r5 r6
          have hk2 := hl.out.keep D1.out HROW.out r5 hne.out
          subst r3
          refine ⟨rfl, ?_, t2 hb.out, hk2, fun g' hg' e => ?_⟩
          rotate_left
          · rcases r6 with r6 | r6
            · rw [r6] at e; exact hne.out g' hg' e
            · rw [r6] at e; cases e; have h7 := (hl.out.lt _ hg').2; have h8 := D1.out.size; omega
          rw [take_snoc_get HLK.out, List.filter_append]
          simp only [List.filter_cons, ← HBB.out, if_true, List.filter_nil]
          exact t1)
        have y1 := (D1.out.cell (p := ⟨g, k, none⟩) (World.block_lt_of_cell? wr _ c1)).trans c1
        clear q1 q2 q3 hm
        have hmb : m ≤ 256 := by omega
        have HMB := hid_of hmb
        go_wp2_with (first
          | (go_at_call 24; ((with_reducible refine (HCC.out).mono ?_); (rintro ee w' ⟨rfl, rfl⟩)))
          | (at_builtin; refine wpList_own setsE rfl (.tmp 23) (.tmp 28) rfl (.slice ao m cap) m vals rfl HROW.out wr.heap.size (.slice xo n xc) rfl HCN.out rfl (by have := HMB.out; omega) (by have := HMB.out; omega) ?_; intro a4 c4 n4 w6 e1 e2 e3 e4; have PP := hid_of (HMO.out w6 a4 c4 n4 e1 e2 e3 e4); clear e1 e2 e3 e4))
        go_roundw
        case rel => exact ⟨k + 1, m + 1, a4, c4, by rw [PP.out.1], by omega, by go_num, by omega, hid_of PP.out.2.1, hid_of PP.out.2.2.2.1, hid_of PP.out.2.2.1, hid_of PP.out.2.2.2.2⟩
        case measure => simp [intOf]; omega
    · have hd : decide (k < ln) = false := by simp; omega
      have HE : Hid (SetsR w.heap.size wr (.slice ao m cap) ((sbF U 0).filter (clsB rs))) := hid_of (by
        have h := ho.out
        rw [List.take_of_length_le (by have := HLN.out; omega)] at h; exact h)
      go_wp2
      go_ret
      exact ⟨ao, m, cap, rfl, HE.out, hb.out⟩
end Go.Proofs.Ytclefigcendpgaa
