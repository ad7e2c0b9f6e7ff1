/- KeyedPlays. -/
import Derived.Test.YtogfgcihhnblkaaDoorKeyRefV
import Derived.Test.YtogfgcihhnblkaaDoorKeyOps
import Derived.Deep.RegionWith
import Derived.Deep.RegionHeld3
import Derived.Deep.RegionHeldLaw
namespace Go.Proofs.YtogfgcihhnblkaaDoor
open Go.RowKit

theorem OpsIn.get {w : World} {a : Option Addr} {len cap : Nat} {l : List Opx} (h : OpsIn w a len cap l) {i : Nat} (hi : i < len) :
    ∃ x g o, l[i]? = some x ∧ OpW w x ∧ a = some ⟨g, o, none⟩ ∧ g < w.heap.size ∧ ∀ W, Below w.heap.size w W → ∀ j, j < 5 → W.cell? ⟨g, o + i * 5 + j, none⟩ = x.cells[j]? := by
  obtain ⟨h1, h2, h3, h4, h5⟩ := h
  obtain ⟨g, o, ha, hg, hc⟩ := h5 (by omega)
  obtain ⟨x, hx⟩ : ∃ x, l[i]? = some x := ⟨_, List.getElem?_eq_getElem (by omega)⟩
  exact ⟨x, g, o, hx, h4 x (List.mem_of_getElem? hx), ha, hg, fun W hb j hj => (hb.cell (p := ⟨g, o + i * 5 + j, none⟩) hg).trans (hc i x hx j hj)⟩

/-- A short row of bytes. -/
def BS (w : World) (o : Option Addr) (n c : Nat) (l : List Int) : Prop :=
  l.length = n ∧ n ≤ 2000 ∧ (∀ y ∈ l, 0 ≤ y ∧ y ≤ 255) ∧ Lies w (.slice o n c) l
theorem BS.later {w w2 : World} {o : Option Addr} {n c : Nat} {l : List Int} (h : BS w o n c l) (hb : Below w.heap.size w w2) : BS w2 o n c l :=
  ⟨h.1, h.2.1, h.2.2.1, h.2.2.2.later hb (Nat.le_refl _)⟩
/-- .. that does not lie in the block b. -/
def BSb (b : Nat) (w : World) (o : Option Addr) (n c : Nat) (l : List Int) : Prop :=
  BS w o n c l ∧ (0 < n → ∀ a, o = some a → a.block ≠ b)
theorem BSb.later {b : Nat} {w w2 : World} {o : Option Addr} {n c : Nat} {l : List Int} (h : BSb b w o n c l) (hb : Below w.heap.size w w2) : BSb b w2 o n c l :=
  ⟨h.1.later hb, h.2⟩
theorem BSb.kept {b : Nat} {w w2 : World} {o : Option Addr} {n c : Nat} {l : List Int} (h : BSb b w o n c l) (hk : Kept (fun q => q = b) w w2) : BSb b w2 o n c l := by
  obtain ⟨⟨h1, h2, h3, ao, cap, q1, q2, q3, q4⟩, h5⟩ := h
  refine ⟨⟨h1, h2, h3, ao, cap, q1, q2, q3, fun h0 => ?_⟩, h5⟩
  obtain ⟨g, o', r1, r2, r3⟩ := q4 h0
  simp only [Value.slice.injEq] at q1
  have hne : g ≠ b := h5 (by omega) ⟨g, o', none⟩ (by rw [q1.1, r1])
  exact ⟨g, o', r1, Nat.lt_of_lt_of_le r2 hk.size, fun j u hu => by
    rw [World.cell?_of_block (w := w) (hk.block g r2 hne)]
    exact r3 j u hu⟩
theorem BSb.of {w W : World} {b n c : Nat} {o : Option Addr} {l : List Int} (h : Lies w (.slice o n c) l) (hl : l.length = n) (hn : n ≤ 2000) (hr : ∀ y ∈ l, 0 ≤ y ∧ y ≤ 255) (hb : w.heap.size ≤ b) (hB : Below w.heap.size w W) : BSb b W o n c l := by
  refine ⟨⟨hl, hn, hr, h.later hB (Nat.le_refl _)⟩, fun h0 a ha => ?_⟩
  obtain ⟨ao, cap, q1, q2, q3, q4⟩ := h
  obtain ⟨g, o', r1, r2, r3⟩ := q4 (by omega)
  simp only [Value.slice.injEq] at q1
  rw [q1.1, r1] at ha
  cases ha
  show g ≠ b
  omega
/-- The variable x of a round. -/
abbrev XA (wr : World) (xk xn xp : Int) (bo : Option Addr) (bl bc : Nat) (to : Option Addr) (tl tc : Nat) : World := wr.alloc (.cells #[.int .i64 xk, .int .i64 xn, .int .i64 xp, .slice bo bl bc, .slice to tl tc] 30)
theorem XA_cells (wr : World) (xk xn xp : Int) (bo : Option Addr) (bl bc : Nat) (to : Option Addr) (tl tc : Nat) (W : World) (h : (XA wr xk xn xp bo bl bc to tl tc).heap[wr.heap.size]? = W.heap[wr.heap.size]?) : W.cell? ⟨wr.heap.size, 1, none⟩ = some (.int .i64 xn) ∧ W.cell? ⟨wr.heap.size, 2, none⟩ = some (.int .i64 xp) ∧ W.cell? ⟨wr.heap.size, 3, none⟩ = some (.slice bo bl bc) ∧ W.cell? ⟨wr.heap.size, 4, none⟩ = some (.slice to tl tc) := by
  have hb : W.heap[wr.heap.size]? = some (.cells #[.int .i64 xk, .int .i64 xn, .int .i64 xp, .slice bo bl bc, .slice to tl tc] 30 (0, 0)) := h.symm.trans (heap_alloc_new wr _)
  exact ⟨cell_of_row _ _ 1 _ _ _ hb, cell_of_row _ _ 2 _ _ _ hb, cell_of_row _ _ 3 _ _ _ hb, cell_of_row _ _ 4 _ _ _ hb⟩
/-- What holds at the head of the main loop. -/
structure PI (w wr : World) (b : Nat) (k : List Int) (p H A : Int) (lo : Option Addr) (ll lc : Nat) (t : List Int) (fo : Option Addr) (fl fc : Nat) (f : List Int) : Prop where
  m : Mst w.heap.size wr b k p H
  bel : Below w.heap.size w wr
  h0 : 0 ≤ H
  a : R64 A
  last : BSb b wr lo ll lc t
  frm : BSb b wr fo fl fc f

set_option maxRecDepth 100000 in
set_option maxHeartbeats 6400000 in
theorem keyedPlays_law (a0 : Option Addr) (n0 c0 : Nat) (z0 : List Int) (p : Int) (a2 : Option Addr) (n2 c2 : Nat) (l : List Opx) (w : World) (hG : Glob w) (w0 : IsRow .u8 w a0 n0 c0 z0) (hp : R64 p) (w2 : OpsIn w a2 n2 c2 l) :
    Calls Tryd.prog 5 #[.slice a0 n0 c0, .int .i64 p, .slice a2 n2 c2] w fun e w' => e = .returned (.bool true) ∧ Below w.heap.size w w' := by
  obtain ⟨k, hk, kr, hK⟩ := w0.lies
  have H2 : Hid (2 ≤ w.heap.size) := hid_of hG.two
  have hn2 : n2 ≤ 9223372036854775807 := by have := w2.2.1; have := w2.2.2.1; omega
  obtain ⟨r, hr⟩ : ∃ r, r = (decide (n0 ≤ 2000) && decide (0 ≤ 2000)) := ⟨_, rfl⟩
  have SH := hid_of (fun w => short_any a0 none n0 c0 0 0 r w hr)
  have AWK := hid_of (awake_any w hG)
  by_cases hlen : 20 < n2
  · have d : decide ((n2 : Int) > 20) = true := by simp; omega
    clear hG w0 w2 hk kr hK hr hp hlen hn2
    go_enter Tryd.func5, Tryd.ntmps5
    go_wp2_with (go_at_call 10; ((with_reducible refine AWK.out.mono ?_); (rintro e w1 ⟨rfl, h1⟩; have HB1 := hid_of h1; clear h1)))
    go_ret
    exact ⟨rfl, HB1.out⟩
  have d : decide ((n2 : Int) > 20) = false := by simp; omega
  cases r
  · clear hG w0 w2 hk kr hK hr hp hlen hn2
    go_enter Tryd.func5, Tryd.ntmps5
    go_wp2_with (first
      | (go_at_call 10; ((with_reducible refine AWK.out.mono ?_); (rintro e w1 ⟨rfl, h1⟩; have HB1 := hid_of h1; clear h1)))
      | (go_at_call 11; ((with_reducible refine (SH.out w1).mono ?_); (rintro e w' ⟨rfl, rfl⟩))))
    go_ret
    exact ⟨rfl, HB1.out⟩
  have hn : n0 ≤ 2000 := by simpa using hr.symm
  have HW2 := hid_of w2
  clear hr w2 hlen
  go_enter Tryd.func5, Tryd.ntmps5
  go_wp2_with (first
    | (go_at_call 10; ((with_reducible refine AWK.out.mono ?_); (rintro e w1 ⟨rfl, h1⟩; have HB1 := hid_of h1; clear h1)))
    | (go_at_call 11; ((with_reducible refine (SH.out w1).mono ?_); (rintro e w' ⟨rfl, rfl⟩))))
  go_loopw [7] (fun iv wr => ∃ i : Nat, i ≤ n2 ∧ iv = .int .i64 i ∧ Hid (∀ j x, j < i → l[j]? = some x → x.bl ≤ 2000 ∧ x.tl ≤ 2000) ∧ Hid (Below w.heap.size w wr)) (fun iv _ => n2 - (intOf iv).toNat)
  case atStart => exact ⟨0, Nat.zero_le _, rfl, hid_of (fun j x hj => by omega), HB1⟩
  case round =>
    obtain ⟨i, hi, rfl, hs, hb⟩ := hrel
    have HS := hid_of hs.out
    have HB := hid_of hb.out
    clear hs hb
    by_cases hlt : i < n2
    · have b1 : (i : Int) < (n2 : Int) := by omega
      have b0 : (0 : Int) ≤ (i : Int) := by omega
      obtain ⟨x, g3, o3, hx, -, rfl, hg3, hC⟩ := HW2.out.get hlt
      obtain ⟨rx, hrx⟩ : ∃ rx, rx = (decide (x.bl ≤ 2000) && decide (x.tl ≤ 2000)) := ⟨_, rfl⟩
      have SHX := hid_of (fun W => short_any x.bo x.to x.bl x.bc x.tl x.tc rx W hrx)
      have C3 := hC wr HB.out 3 (by omega)
      have C4 := hC wr HB.out 4 (by omega)
      have C3d := hC wr.drew HB.out.drew 3 (by omega)
      have C4d := hC wr.drew HB.out.drew 4 (by omega)
      simp only [Opx.cells, List.getElem?_cons_succ, List.getElem?_cons_zero] at C3 C4 C3d C4d
      have HC := hid_of hC
      have HX := hid_of hx
      have HRX := hid_of hrx
      clear hC hx hrx hG w0 hk kr hK hp hn
      cases rx
      · go_wp2
        go_quiet ((go_at_call 11; exact Calls.quiet_of_same ((SHX.out (wr.drewN _)).mono fun _ _ h => ⟨h.1, h.2.symm⟩)))
        go_wp2
        go_ret
        exact ⟨rfl, bel_drewN HB.out _⟩
      · go_wp2
        go_quiet ((go_at_call 11; exact Calls.quiet_of_same ((SHX.out (wr.drewN _)).mono fun _ _ h => ⟨h.1, h.2.symm⟩)))
        go_wp2
        go_roundw
        case rel =>
          refine ⟨i + 1, by omega, by go_num, hid_of (fun j y hj hy => ?_), hid_of (bel_drewN HB.out _)⟩
          by_cases hji : j = i
          · subst hji
            rw [HX.out] at hy
            cases hy
            simpa using HRX.out.symm
          · exact HS.out j y (by omega) hy
        case measure => simp [intOf]; omega
    · obtain rfl : i = n2 := by omega
      have hkl : k.length ≤ 2000 := by omega
      have NEW : Hid (∀ W, Below w.heap.size w W → Calls Tryd.prog 16 #[.slice a0 n0 c0, .int .i64 p] W fun e w' => ∃ b, e = .returned (.pointer (some ⟨b, 0, none⟩)) ∧ Mst w.heap.size w' b k p 0 ∧ Below w.heap.size w w') := hid_of (fun W hb => (new_module _ k p W (hK.later hb (Nat.le_refl _)) (by omega)).mono fun e w' ⟨b, h1, h2, h3, h4⟩ => ⟨b, h1, by
          obtain ⟨q1, g, n, q2, q3, q4, q5, q6⟩ := h3
          have := hb.size
          exact ⟨by omega, g, n, q2, q3, q4, by omega, q6⟩, hb.trans (h4.mono hb.size)⟩)
      have SNEG : Hid (∀ (W : World) (b : Nat) (q h : Int) (u : Value), h < 0 → Mst w.heap.size W b k p q → Calls Tryd.prog 20 #[.pointer (some ⟨b, 0, none⟩), .int .i64 h, u] W fun e w' => e = .returned (.tuple #[.slice none 0 0, .int .i64 1]) ∧ W = w') := hid_of (fun W b q h u hneg hm => sign_neg b p q h _ k W hm hneg)
      have SSTA : Hid (∀ (W : World) (b : Nat) (q h : Int) (u : Value), ¬ h < 0 → h < q → Mst w.heap.size W b k p q → Calls Tryd.prog 20 #[.pointer (some ⟨b, 0, none⟩), .int .i64 h, u] W fun e w' => e = .returned (.tuple #[.slice none 0 0, .int .i64 11]) ∧ W = w') := hid_of (fun W b q h u h0 h1 hm => sign_stale b p q h _ k W hm h0 h1)
      have SOK : Hid (∀ (W : World) (b : Nat) (q h : Int) (o : Option Addr) (n c : Nat) (m : List Int), ¬ h < 0 → ¬ h < q → R64 h → Below w.heap.size w W → Mst w.heap.size W b k p q → BS W o n c m → Calls Tryd.prog 20 #[.pointer (some ⟨b, 0, none⟩), .int .i64 h, .slice o n c] W fun e w' => ∃ g cap, e = .returned (.tuple #[.slice (some ⟨g, 0, none⟩) 32 cap, .int .i64 0]) ∧ BSb b w' (some ⟨g, 0, none⟩) 32 cap (hmac (derive k p h) m) ∧ Below W.heap.size W w') := hid_of (fun W b q h o n c m h0 h1 hh hb hms hu => (sign_ok b k m p q h _ W hms h0 h1 kr hu.2.2.2 hu.2.2.1 hp hh (hG.bel hb hG.two) (by omega) (by have := hu.1; have := hu.2.1; omega)).mono fun e w' ⟨g, cap, e1, e4, e2, e3⟩ => ⟨g, cap, e1, ⟨⟨hmac_length _ _, by omega, hmac_rng _ _, e2⟩, fun _ a ha => by cases ha; have := hms.lt; show g ≠ b; omega⟩, e3⟩)
      have VER : Hid (∀ (W : World) (b : Nat) (q P X : Int) (fo : Option Addr) (fl fc : Nat) (to : Option Addr) (tl tc : Nat) (f t : List Int), Below w.heap.size w W → Mst w.heap.size W b k p q → BS W fo fl fc f → BS W to tl tc t → R64 P → R64 X → Calls Tryd.prog 22 #[.pointer (some ⟨b, 0, none⟩), .int .i64 P, .int .i64 X, .slice fo fl fc, .slice to tl tc] W fun e w' => e = .returned (.bool (decide (t = hmac (derive k P X) f))) ∧ Below W.heap.size W w') := hid_of (fun W b q P X fo fl fc to tl tc f t hb hms hf ht hP hX => verify_any b k f t p q P X _ _ W hms kr hf.2.2.2 hf.2.2.1 ht.2.2.2 ht.2.2.1 hP hX (hG.bel hb hG.two) (by omega) (by have := hf.1; have := hf.2.1; omega))
      have RVER : Hid (∀ (W : World) (P X : Int) (fo : Option Addr) (fl fc : Nat) (to : Option Addr) (tl tc : Nat) (f t : List Int), Below w.heap.size w W → BS W fo fl fc f → BS W to tl tc t → R64 P → R64 X → Calls Tryd.prog 23 #[.slice a0 n0 c0, .int .i64 P, .int .i64 X, .slice fo fl fc, .slice to tl tc] W fun e w' => e = .returned (.bool (decide (t = hmac (derive k P X) f))) ∧ Below W.heap.size W w') := hid_of (fun W P X fo fl fc to tl tc f t hb hf ht hP hX => rverify_any k f t a0 fo to n0 c0 fl fc tl tc P X W hk hf.1 (hK.later hb (Nat.le_refl _)) hf.2.2.2 ht.2.2.2 kr hf.2.2.1 ht.2.2.1 (by omega) (by have := hf.2.1; omega) hP hX)
      have RSIG : Hid (∀ (W : World) (h : Int) (o : Option Addr) (n c : Nat) (m : List Int), R64 h → Below w.heap.size w W → BS W o n c m → Calls Tryd.prog 21 #[.slice a0 n0 c0, .int .i64 p, .int .i64 h, .slice o n c] W fun e w' => ∃ g c2, e = .returned (.slice (some ⟨g, 0, none⟩) 32 c2) ∧ Lies w' (.slice (some ⟨g, 0, none⟩) 32 c2) (hmac (derive k p h) m) ∧ Below W.heap.size W w') := hid_of (fun W h o n c m hh hb hu => rsign_any k m a0 o n0 c0 n c p h W hk hu.1 (hK.later hb (Nat.le_refl _)) hu.2.2.2 kr hu.2.2.1 (by omega) (by have := hu.2.1; omega) hp hh)
      have HP64 := hid_of hp
      clear hG w0 hk kr hK hp hn hkl
      go_wp2_with (first
        | (go_at_call 16; ((with_reducible refine (NEW.out wr HB.out).mono ?_); (rintro e w2 ⟨b, rfl, h1, h2⟩; have HM2 := hid_of h1; have HB2 := hid_of h2; clear h1 h2)))
        | (go_at_call 17; ((with_reducible refine (proc_any b k p _ w2 HM2.out).mono ?_); (rintro e w' ⟨rfl, rfl⟩)))
        | (go_at_call 18; ((with_reducible refine (height_any b k p _ w2 HM2.out).mono ?_); (rintro e w' ⟨rfl, rfl⟩))))
      have LF0 := hid_of (fun (W : World) => lies_new (w := W) (l := []) (n := 0) (cs := #[]) (m := (0, 0)) rfl (by simp [bs]) (by simp))
      have PI0 : Hid (PI w ((w2.alloc (.cells #[] 5)).alloc (.cells #[] 5)) b k p 0 0 (some ⟨w2.heap.size, 0, none⟩) 0 0 [] (some ⟨w2.heap.size + 1, 0, none⟩) 0 0 []) := hid_of (by
        have q1 := bel_alloc w2 (.cells #[] 5)
        have q2 := bel_alloc (w2.alloc (.cells #[] 5)) (.cells #[] 5)
        have q3 := q1.trans (q2.mono q1.size)
        have l1 := LF0.out w2
        have l2 := LF0.out (w2.alloc (.cells #[] 5))
        refine ⟨HM2.out.later q3 (Nat.le_refl _), HB2.out.trans (q3.mono HB2.out.size), Int.le_refl _, ⟨by decide, by decide⟩, ⟨⟨rfl, by omega, by simp, l1.later q2 (Nat.le_refl _)⟩, fun h => by omega⟩, ⟨⟨rfl, by omega, by simp, ?_⟩, fun h => by omega⟩⟩
        simpa using l2)
      clear HM2 HB2 LF0 AWK SH NEW HB
      go_loopw [9, 10, 11, 12, 13] (fun hv lv fv av iv wr => ∃ (j : Nat) (H A : Int) (lo : Option Addr) (ll lc : Nat) (fo : Option Addr) (fl fc : Nat) (t f : List Int), j ≤ i ∧ iv = .int .i64 j ∧ hv = .int .i64 H ∧ lv = .slice lo ll lc ∧ fv = .slice fo fl fc ∧ av = .int .i64 A ∧ Hid (PI w wr b k p H A lo ll lc t fo fl fc f)) (fun _ _ _ _ iv _ => i - (intOf iv).toNat)
      case atStart => exact ⟨0, 0, 0, _, 0, 0, _, 0, 0, [], [], Nat.zero_le _, rfl, rfl, rfl, rfl, rfl, PI0⟩
      case round =>
        obtain ⟨j, H, A, lo, ll, lc, fo, fl, fc, t, f, hj, rfl, rfl, rfl, rfl, rfl, hpi⟩ := hrel
        have HPI := hid_of hpi.out
        clear hpi PI0
        by_cases hlt : j < i
        · have b1 : (j : Int) < (i : Int) := by omega
          have b0 : (0 : Int) ≤ (j : Int) := by omega
          obtain ⟨x, g3, o3, hx, hox, rfl, hg3, hC⟩ := HW2.out.get hlt
          have hsx := HS.out j x hlt hx
          obtain ⟨xk, xn, xp, bo, bl, bc, xb, to, tl, tc, xt⟩ := x
          have C0 := hC _ HPI.out.bel 0 (by omega)
          have C1 := hC _ HPI.out.bel 1 (by omega)
          have C2 := hC _ HPI.out.bel 2 (by omega)
          have C3 := hC _ HPI.out.bel 3 (by omega)
          have C4 := hC _ HPI.out.bel 4 (by omega)
          simp only [Opx.cells, List.getElem?_cons_succ, List.getElem?_cons_zero, Nat.add_zero] at C0 C1 C2 C3 C4
          have HOX := hid_of hox
          have HSX := hid_of hsx
          clear hC hx hox hsx hlt
          have PX : Hid (PI w (XA wr xk xn xp bo bl bc to tl tc) b k p H A lo ll lc t fo fl fc f) := hid_of (by
            have q := bel_alloc wr (.cells #[.int .i64 xk, .int .i64 xn, .int .i64 xp, .slice bo bl bc, .slice to tl tc] 30)
            have hp := HPI.out
            exact ⟨hp.m.later q (Nat.le_refl _), hp.bel.trans (q.mono hp.bel.size), hp.h0, hp.a, hp.last.later q, hp.frm.later q⟩)
          have PL : Hid (∀ W, Below (XA wr xk xn xp bo bl bc to tl tc).heap.size (XA wr xk xn xp bo bl bc to tl tc) W → PI w W b k p H A lo ll lc t fo fl fc f) := hid_of (fun W hb => by
            have hp := PX.out
            exact ⟨hp.m.later hb (Nat.le_refl _), hp.bel.trans (hb.mono hp.bel.size), hp.h0, hp.a, hp.last.later hb, hp.frm.later hb⟩)
          have BX : Hid (∀ W, Below w.heap.size w W → BSb b W bo bl bc xb ∧ BSb b W to tl tc xt) := hid_of (fun W hb => ⟨BSb.of HOX.out.b HOX.out.bl HSX.out.1 HOX.out.br PX.out.m.1 hb, BSb.of HOX.out.t HOX.out.tl HSX.out.2 HOX.out.tr PX.out.m.1 hb⟩)
          have hsz : (XA wr xk xn xp bo bl bc to tl tc).heap.size = wr.heap.size + 1 := by simp [XA]
          have XC : Hid (∀ W, Below (XA wr xk xn xp bo bl bc to tl tc).heap.size (XA wr xk xn xp bo bl bc to tl tc) W → W.cell? ⟨wr.heap.size, 1, none⟩ = some (.int .i64 xn) ∧ W.cell? ⟨wr.heap.size, 2, none⟩ = some (.int .i64 xp) ∧ W.cell? ⟨wr.heap.size, 3, none⟩ = some (.slice bo bl bc) ∧ W.cell? ⟨wr.heap.size, 4, none⟩ = some (.slice to tl tc)) := hid_of (fun W hb => XA_cells wr xk xn xp bo bl bc to tl tc W (hb.block _ (by omega)).symm)
          have XK : Hid (∀ W, Kept (fun q => q = b) (XA wr xk xn xp bo bl bc to tl tc) W → W.cell? ⟨wr.heap.size, 1, none⟩ = some (.int .i64 xn)) := hid_of (fun W hb => (XA_cells wr xk xn xp bo bl bc to tl tc W (hb.block _ (by omega) (by have := HPI.out.m.lt; omega)).symm).1)
          have HSZ := hid_of hsz
          clear hsz
          by_cases hk0 : xk = 0
          · have d0 : (xk == 0) = true := by simp; exact hk0
            clear hk0
            obtain ⟨M, hM⟩ : ∃ M, M = max H xn := ⟨_, rfl⟩
            have RAI : Hid (Calls Tryd.prog 19 #[.pointer (some ⟨b, 0, none⟩), .int .i64 xn] (XA wr xk xn xp bo bl bc to tl tc) fun e w' => e = .returned (.tuple #[]) ∧ PI w w' b k p M A lo ll lc t fo fl fc f ∧ w'.cell? ⟨wr.heap.size, 1, none⟩ = some (.int .i64 xn)) := hid_of (by
              rw [hM]
              have hp := PX.out
              exact (raise_any b k p H xn (XA wr xk xn xp bo bl bc to tl tc) hp.m).mono fun e w' ⟨e1, e2, e3⟩ => ⟨e1, ⟨e2, hp.bel.trans (e3.below hp.bel.size (fun j hj => by have := hp.m.1; omega)), by have := hp.h0; omega, hp.a, hp.last.kept e3, hp.frm.kept e3⟩, XK.out w' e3⟩)
            have hsp : M = H ∧ xn < H ∨ M = H ∧ xn = H ∨ M = xn ∧ H < xn := by omega
            clear hM
            rcases hsp with ⟨rfl, hxq⟩ | ⟨rfl, rfl⟩ | ⟨rfl, hxq⟩
            all_goals (
              go_wp2_with (first
                | (go_at_call 19; ((with_reducible refine RAI.out.mono ?_); (rintro e w3 ⟨rfl, h1, h2⟩; have HM3 := hid_of h1; have c1 := h2; clear h1 h2)))
                | (go_at_call 18; ((with_reducible refine (height_any b k p _ w3 HM3.out.m).mono ?_); (rintro e w' ⟨rfl, rfl⟩))))
              go_roundw
              case rel => exact ⟨j + 1, _, A, lo, ll, lc, fo, fl, fc, t, f, by omega, by go_num, rfl, rfl, rfl, rfl, HM3⟩
              case measure => simp [intOf]; omega)
          · have d0 : (xk == 0) = false := by simp; exact hk0
            by_cases hk1 : xk = 1
            · have d1 : (xk == 1) = true := by simp; exact hk1
              clear hk0 hk1
              have c1 := (XC.out _ (Below.refl _ _)).1
              have c3 := (XC.out _ (Below.refl _ _)).2.2.1
              by_cases hneg : xn < 0
              · have e0 : decide (xn < 0) = true := by simp; exact hneg
                have HNEG := hid_of hneg
                clear hneg
                go_wp2_with (first
                  | (go_at_call 20; ((with_reducible refine (SNEG.out (XA wr xk xn xp bo bl bc to tl tc) b H xn _ HNEG.out PX.out.m).mono ?_); (rintro e w' ⟨rfl, rfl⟩)))
                  | (go_at_call 18; ((with_reducible refine (height_any b k p _ (XA wr xk xn xp bo bl bc to tl tc) PX.out.m).mono ?_); (rintro e w' ⟨rfl, rfl⟩))))
                go_roundw
                case rel => exact ⟨j + 1, _, A, lo, ll, lc, fo, fl, fc, t, f, by omega, by go_num, rfl, rfl, rfl, rfl, PX⟩
                case measure => simp [intOf]; omega
              have e0 : decide (xn < 0) = false := by simp; omega
              by_cases hst : xn < H
              · have e1 : decide (xn < H) = true := by simp; exact hst
                have HNEG := hid_of hneg
                have HST := hid_of hst
                clear hneg hst
                go_wp2_with (first
                  | (go_at_call 20; ((with_reducible refine (SSTA.out (XA wr xk xn xp bo bl bc to tl tc) b H xn _ (by have := HNEG.out; omega) HST.out PX.out.m).mono ?_); (rintro e w' ⟨rfl, rfl⟩)))
                  | (go_at_call 18; ((with_reducible refine (height_any b k p _ (XA wr xk xn xp bo bl bc to tl tc) PX.out.m).mono ?_); (rintro e w' ⟨rfl, rfl⟩))))
                go_roundw
                case rel => exact ⟨j + 1, _, A, lo, ll, lc, fo, fl, fc, t, f, by omega, by go_num, rfl, rfl, rfl, rfl, PX⟩
                case measure => simp [intOf]; omega
              have e1 : decide (xn < H) = false := by simp; omega
              have HNEG := hid_of hneg
              have HST := hid_of hst
              clear hneg hst
              obtain ⟨T, hT⟩ : ∃ T, T = hmac (derive k p xn) xb := ⟨_, rfl⟩
              obtain ⟨ST, hST⟩ : ∃ ST, ST = strOfNums T := ⟨_, rfl⟩
              have SG : Hid (Calls Tryd.prog 20 #[.pointer (some ⟨b, 0, none⟩), .int .i64 xn, .slice bo bl bc] (XA wr xk xn xp bo bl bc to tl tc) fun e w' => ∃ g cap, e = .returned (.tuple #[.slice (some ⟨g, 0, none⟩) 32 cap, .int .i64 0]) ∧ BSb b w' (some ⟨g, 0, none⟩) 32 cap T ∧ Below (XA wr xk xn xp bo bl bc to tl tc).heap.size (XA wr xk xn xp bo bl bc to tl tc) w') := hid_of (by
                rw [hT]; exact SOK.out _ b H xn bo bl bc xb (by have := HNEG.out; omega) (by have := HST.out; omega) HOX.out.n PX.out.bel PX.out.m (BX.out _ PX.out.bel).1.1)
              have RG : Hid (∀ W, Below w.heap.size w W → Calls Tryd.prog 21 #[.slice a0 n0 c0, .int .i64 p, .int .i64 xn, .slice bo bl bc] W fun e w' => ∃ g c2, e = .returned (.slice (some ⟨g, 0, none⟩) 32 c2) ∧ Lies w' (.slice (some ⟨g, 0, none⟩) 32 c2) T ∧ Below W.heap.size W w') := hid_of (fun W hb => by
                rw [hT]; exact RSIG.out W xn bo bl bc xb HOX.out.n hb (BX.out _ hb).1.1)
              have CV : Hid (∀ W g c, Lies W (.slice (some ⟨g, 0, none⟩) 32 c) T → (convert 22 9 (.slice (some ⟨g, 0, none⟩) 32 c)).run Tryd.prog W = .ok (.string ST) W) := hid_of (fun W g c hl => by rw [hST]; exact conv_lies hl)
              clear hT hST
              have heq : (ST.toList == ST.toList) = true := by simp
              go_wp2_with (go_at_call 20; ((with_reducible refine SG.out.mono ?_); (rintro e w3 ⟨g, cap, rfl, h1, h2⟩; have HL3 := hid_of h1; have HB3 := hid_of h2; obtain ⟨c31, -, c33, -⟩ := XC.out w3 h2; clear h1 h2)))
              have HB3D := hid_of HB3.out.drew
              have HL3D := hid_of (HL3.out.later (Below.refl _ w3).drew)
              have HW3 := hid_of (PL.out _ HB3D.out).bel
              have CS : Hid (∀ W, Below w3.drew.heap.size w3.drew W → (convert 22 9 (.slice (some ⟨g, 0, none⟩) 32 cap)).run Tryd.prog W = .ok (.string ST) W ∧ W.cell? ⟨wr.heap.size, 1, none⟩ = some (.int .i64 xn) ∧ W.cell? ⟨wr.heap.size, 3, none⟩ = some (.slice bo bl bc)) := hid_of (fun W hb => by
                have h := XC.out W (HB3D.out.trans (hb.mono HB3D.out.size))
                exact ⟨CV.out W g cap (HL3D.out.later hb).1.2.2.2, h.1, h.2.2.1⟩)
              have cs0 := CS.out _ (Below.refl _ _)
              go_region_held_law (fun W => (convert 22 9 (.slice (some ⟨g, 0, none⟩) 32 cap)).run Tryd.prog W = .ok (.string ST) W ∧ W.cell? ⟨wr.heap.size, 1, none⟩ = some (.int .i64 xn) ∧ W.cell? ⟨wr.heap.size, 3, none⟩ = some (.slice bo bl bc)) (first | exact cs0 | exact cs4) (first | (go_at_call 21; ((with_reducible refine (RG.out w3.drew HW3.out).mono ?_); (rintro e w4 ⟨g4, cap4, rfl, h1, h2⟩; have HB4 := hid_of h2; have cs4 := CS.out w4 h2; have cv4 := CV.out w4 g4 cap4 h1; clear h1 h2))))
              have M4 : Hid (∀ n, PI w (w4.drewN n) b k p H xn (some ⟨g, 0, none⟩) 32 cap T bo bl bc xb) := hid_of (fun n => by
                have hb := bel_drewN HB4.out n
                have h := PL.out _ (HB3D.out.trans (hb.mono HB3D.out.size))
                exact ⟨h.m, h.bel, h.h0, HOX.out.n, HL3D.out.later hb, (BX.out _ h.bel).1⟩)
              all_goals go_wp2
              all_goals go_quiet (fail)
              all_goals go_wp2_with (go_at_call 18; ((with_reducible refine (height_any b k p H (w4.drewN _) (M4.out _).m).mono ?_); (rintro e w' ⟨rfl, rfl⟩)))
              all_goals go_roundw
              case rel => exact ⟨j + 1, _, xn, some ⟨g, 0, none⟩, 32, cap, bo, bl, bc, T, xb, by omega, by go_num, rfl, rfl, rfl, rfl, hid_of (M4.out _)⟩
              case measure => simp [intOf]; omega
            · have d1 : (xk == 1) = false := by simp; exact hk1
              have c1 := (XC.out _ (Below.refl _ _)).1
              have c2 := (XC.out _ (Below.refl _ _)).2.1
              by_cases hk2 : xk = 2
              · have d2 : (xk == 2) = true := by simp; exact hk2
                clear hk0 hk1 hk2
                obtain ⟨R1, hR1⟩ : ∃ R1, R1 = decide (t = hmac (derive k xp xn) f) := ⟨_, rfl⟩
                obtain ⟨R2, hR2⟩ : ∃ R2, R2 = decide (t = hmac (derive k p A) f) := ⟨_, rfl⟩
                have V1 : Hid (∀ W, Below (XA wr xk xn xp bo bl bc to tl tc).heap.size (XA wr xk xn xp bo bl bc to tl tc) W → Calls Tryd.prog 22 #[.pointer (some ⟨b, 0, none⟩), .int .i64 xp, .int .i64 xn, .slice fo fl fc, .slice lo ll lc] W fun e w' => e = .returned (.bool R1) ∧ Below W.heap.size W w') := hid_of (fun W hb => by
                  have h := PL.out W hb
                  rw [hR1]; exact VER.out W b H xp xn fo fl fc lo ll lc f t h.bel h.m h.frm.1 h.last.1 HOX.out.p HOX.out.n)
                have V2 : Hid (∀ W, Below (XA wr xk xn xp bo bl bc to tl tc).heap.size (XA wr xk xn xp bo bl bc to tl tc) W → Calls Tryd.prog 22 #[.pointer (some ⟨b, 0, none⟩), .int .i64 p, .int .i64 A, .slice fo fl fc, .slice lo ll lc] W fun e w' => e = .returned (.bool R2) ∧ Below W.heap.size W w') := hid_of (fun W hb => by
                  have h := PL.out W hb
                  rw [hR2]; exact VER.out W b H p A fo fl fc lo ll lc f t h.bel h.m h.frm.1 h.last.1 HP64.out h.a)
                have U1 : Hid (∀ W, Below (XA wr xk xn xp bo bl bc to tl tc).heap.size (XA wr xk xn xp bo bl bc to tl tc) W → Calls Tryd.prog 23 #[.slice a0 n0 c0, .int .i64 xp, .int .i64 xn, .slice fo fl fc, .slice lo ll lc] W fun e w' => e = .returned (.bool R1) ∧ Below W.heap.size W w') := hid_of (fun W hb => by
                  have h := PL.out W hb
                  rw [hR1]; exact RVER.out W xp xn fo fl fc lo ll lc f t h.bel h.frm.1 h.last.1 HOX.out.p HOX.out.n)
                have U2 : Hid (∀ W, Below (XA wr xk xn xp bo bl bc to tl tc).heap.size (XA wr xk xn xp bo bl bc to tl tc) W → Calls Tryd.prog 23 #[.slice a0 n0 c0, .int .i64 p, .int .i64 A, .slice fo fl fc, .slice lo ll lc] W fun e w' => e = .returned (.bool R2) ∧ Below W.heap.size W w') := hid_of (fun W hb => by
                  have h := PL.out W hb
                  rw [hR2]; exact RVER.out W p A fo fl fc lo ll lc f t h.bel h.frm.1 h.last.1 HP64.out h.a)
                clear hR1 hR2
                have s1 : (R1 != R1) = false := by simp
                have s2 : (R2 != R2) = false := by simp
                have CS : Hid (∀ W, Below (XA wr xk xn xp bo bl bc to tl tc).heap.size (XA wr xk xn xp bo bl bc to tl tc) W → W.cell? ⟨wr.heap.size, 1, none⟩ = some (.int .i64 xn) ∧ W.cell? ⟨wr.heap.size, 2, none⟩ = some (.int .i64 xp)) := hid_of (fun W hb => ⟨(XC.out W hb).1, (XC.out W hb).2.1⟩)
                have B0 : Hid (Below (XA wr xk xn xp bo bl bc to tl tc).heap.size (XA wr xk xn xp bo bl bc to tl tc) (XA wr xk xn xp bo bl bc to tl tc).drew) := hid_of (Below.refl _ _).drew
                have cs0 := CS.out _ B0.out
                go_wp2
                go_region_held3 (fun W => W.cell? ⟨wr.heap.size, 1, none⟩ = some (.int .i64 xn) ∧ W.cell? ⟨wr.heap.size, 2, none⟩ = some (.int .i64 xp)) (first | exact cs0 | exact cs4 | exact cs5 | exact cs6 | exact cs7) (first
                  | (go_at_call 22; (first
                      | ((with_reducible refine (V1.out (XA wr xk xn xp bo bl bc to tl tc).drew B0.out).mono ?_); (rintro e w4 ⟨rfl, h2⟩; have B4 := hid_of (B0.out.trans (h2.mono B0.out.size)); have cs4 := CS.out w4 B4.out; clear h2))
                      | ((with_reducible refine (V2.out w5 B5.out).mono ?_); (rintro e w6 ⟨rfl, h2⟩; have B6 := hid_of (B5.out.trans (h2.mono B5.out.size)); have cs6 := CS.out w6 B6.out; clear h2))))
                  | (go_at_call 23; (first
                      | ((with_reducible refine (U1.out w4 B4.out).mono ?_); (rintro e w5 ⟨rfl, h2⟩; have B5 := hid_of (B4.out.trans (h2.mono B4.out.size)); have cs5 := CS.out w5 B5.out; clear h2))
                      | ((with_reducible refine (U2.out w6 B6.out).mono ?_); (rintro e w7 ⟨rfl, h2⟩; have B7 := hid_of (B6.out.trans (h2.mono B6.out.size)); have cs7 := CS.out w7 B7.out; clear h2)))))
                all_goals go_wp2_with (go_at_call 18; ((with_reducible refine (height_any b k p H w7 (PL.out _ B7.out).m).mono ?_); (rintro e w' ⟨rfl, rfl⟩)))
                all_goals go_roundw
                case rel => exact ⟨j + 1, _, A, lo, ll, lc, fo, fl, fc, t, f, by omega, by go_num, rfl, rfl, rfl, rfl, hid_of (PL.out _ B7.out)⟩
                case measure => simp [intOf]; omega
              · have d2 : (xk == 2) = false := by simp; exact hk2
                clear hk0 hk1 hk2
                have c3 := (XC.out _ (Below.refl _ _)).2.2.1
                have c4 := (XC.out _ (Below.refl _ _)).2.2.2
                obtain ⟨R1, hR1⟩ : ∃ R1, R1 = decide (xt = hmac (derive k xp xn) xb) := ⟨_, rfl⟩
                have V1 : Hid (∀ W, Below (XA wr xk xn xp bo bl bc to tl tc).heap.size (XA wr xk xn xp bo bl bc to tl tc) W → Calls Tryd.prog 22 #[.pointer (some ⟨b, 0, none⟩), .int .i64 xp, .int .i64 xn, .slice bo bl bc, .slice to tl tc] W fun e w' => e = .returned (.bool R1) ∧ Below W.heap.size W w') := hid_of (fun W hb => by
                  have h := PL.out W hb
                  have hx := BX.out W h.bel
                  rw [hR1]; exact VER.out W b H xp xn bo bl bc to tl tc xb xt h.bel h.m hx.1.1 hx.2.1 HOX.out.p HOX.out.n)
                have U1 : Hid (∀ W, Below (XA wr xk xn xp bo bl bc to tl tc).heap.size (XA wr xk xn xp bo bl bc to tl tc) W → Calls Tryd.prog 23 #[.slice a0 n0 c0, .int .i64 xp, .int .i64 xn, .slice bo bl bc, .slice to tl tc] W fun e w' => e = .returned (.bool R1) ∧ Below W.heap.size W w') := hid_of (fun W hb => by
                  have h := PL.out W hb
                  have hx := BX.out W h.bel
                  rw [hR1]; exact RVER.out W xp xn bo bl bc to tl tc xb xt h.bel hx.1.1 hx.2.1 HOX.out.p HOX.out.n)
                clear hR1
                have s1 : (R1 != R1) = false := by simp
                have B0 : Hid (Below (XA wr xk xn xp bo bl bc to tl tc).heap.size (XA wr xk xn xp bo bl bc to tl tc) (XA wr xk xn xp bo bl bc to tl tc).drew) := hid_of (Below.refl _ _).drew
                have cs0 := XC.out _ B0.out
                go_wp2
                go_region_held_law (fun W => W.cell? ⟨wr.heap.size, 1, none⟩ = some (.int .i64 xn) ∧ W.cell? ⟨wr.heap.size, 2, none⟩ = some (.int .i64 xp) ∧ W.cell? ⟨wr.heap.size, 3, none⟩ = some (.slice bo bl bc) ∧ W.cell? ⟨wr.heap.size, 4, none⟩ = some (.slice to tl tc)) (first | exact cs0 | exact cs4 | exact cs5) (first
                  | (go_at_call 22; ((with_reducible refine (V1.out (XA wr xk xn xp bo bl bc to tl tc).drew B0.out).mono ?_); (rintro e w4 ⟨rfl, h2⟩; have B4 := hid_of (B0.out.trans (h2.mono B0.out.size)); have cs4 := XC.out w4 B4.out; clear h2)))
                  | (go_at_call 23; ((with_reducible refine (U1.out w4 B4.out).mono ?_); (rintro e w5 ⟨rfl, h2⟩; have B5 := hid_of (B4.out.trans (h2.mono B4.out.size)); have cs5 := XC.out w5 B5.out; clear h2))))
                all_goals go_wp2_with (go_at_call 18; ((with_reducible refine (height_any b k p H w5 (PL.out _ B5.out).m).mono ?_); (rintro e w' ⟨rfl, rfl⟩)))
                all_goals go_roundw
                case rel => exact ⟨j + 1, _, A, lo, ll, lc, fo, fl, fc, t, f, by omega, by go_num, rfl, rfl, rfl, rfl, hid_of (PL.out _ B5.out)⟩
                case measure => simp [intOf]; omega
        · obtain rfl : j = i := by omega
          go_wp2
          go_ret
          exact ⟨rfl, HPI.out.bel⟩
end Go.Proofs.YtogfgcihhnblkaaDoor
