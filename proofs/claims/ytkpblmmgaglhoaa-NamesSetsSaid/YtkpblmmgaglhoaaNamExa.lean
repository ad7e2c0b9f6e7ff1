/- What the law of the sets asks of a result: exactly the wanted elements. Bounds on sizes alone. -/
import Derived.Deep.RegionWith
import Derived.Deep.RegionHeldLaw
import Derived.Deep.DrawnRows
import Derived.Test.YtkpblmmgaglhoaaNamLSub
namespace Go.Proofs.Ytkpblmmgaglhoaa
open Go.RowKit

def wantB (x y k0 k1 k2 : Bool) : Bool := (x && !y && k0) || (!x && y && k1) || (x && y && k2)
def wn (a b : List Str) (k0 k1 k2 : Bool) (s : Str) : Bool := wantB (decide (s ∈ a)) (decide (s ∈ b)) k0 k1 k2

set_option maxRecDepth 100000 in
set_option maxHeartbeats 3200000 in
theorem wanted_any (ao : Option Addr) (n cap : Nat) (bo : Option Addr) (m cap2 : Nat) (a b : List Str) (s : Str) (k0 k1 k2 : Bool) (w : World) (Ra : Rd w (.slice ao n cap) (ss a)) (Rb : Rd w (.slice bo m cap2) (ss b)) :
    Calls Try.prog 40 #[.slice ao n cap, .slice bo m cap2, .string (ba s), .agg #[.bool k0, .bool k1, .bool k2]] w fun e w' => e = .returned (.bool (wn a b k0 k1 k2 s)) ∧ Below w.heap.size w w' := by
  have HX : Hid (Calls Try.prog 22 #[.slice ao n cap, .string (ba s)] (w.alloc (.cells #[.bool k0, .bool k1, .bool k2] 28)) fun e w' => e = .returned (.bool (decide (s ∈ a))) ∧ w.alloc (.cells #[.bool k0, .bool k1, .bool k2] 28) = w') := hid_of (rhas_any ao n cap a s _ (Ra.at (bel_alloc w _)))
  have HY : Hid (Calls Try.prog 22 #[.slice bo m cap2, .string (ba s)] (w.alloc (.cells #[.bool k0, .bool k1, .bool k2] 28)) fun e w' => e = .returned (.bool (decide (s ∈ b))) ∧ w.alloc (.cells #[.bool k0, .bool k1, .bool k2] 28) = w') := hid_of (rhas_any bo m cap2 b s _ (Rb.at (bel_alloc w _)))
  unfold wn
  obtain ⟨x, hx⟩ : ∃ x, x = decide (s ∈ a) := ⟨_, rfl⟩
  obtain ⟨y, hy⟩ : ∃ y, y = decide (s ∈ b) := ⟨_, rfl⟩
  rw [← hx] at HX ⊢
  rw [← hy] at HY ⊢
  obtain ⟨bs, hbs⟩ : ∃ t, t = ba s := ⟨_, rfl⟩
  rw [← hbs] at HX HY ⊢
  clear hx hy hbs Ra Rb
  cases x <;> cases y <;> cases k0 <;> cases k1 <;> cases k2
  all_goals
    go_enter Try.func40, Try.ntmps40
    go_wp2_with (go_at_call 22; (first
      | ((with_reducible refine (HX.out).mono ?_); (rintro ee w' ⟨rfl, rfl⟩))
      | ((with_reducible refine (HY.out).mono ?_); (rintro ee w' ⟨rfl, rfl⟩))))
    go_ret
    exact ⟨rfl, bel_alloc w _⟩

theorem keep_cell {w w' : World} {o : Array Value} {t : TypeId} {j : Nat} {v : Value} (h : Below (w.heap.size + 1) (w.alloc (.cells o t)) w') (hj : o[j]? = some v) : w'.cell? ⟨w.heap.size, j, none⟩ = some v := by
  refine (h.cell (p := ⟨w.heap.size, j, none⟩) (by show w.heap.size < _; omega)).trans ?_
  have := World.news_of_block (heap_alloc_new w (.cells o t)) j v (by simpa using hj)
  rw [Addr.add_mid, Nat.zero_add] at this
  exact this

set_option maxRecDepth 100000 in
set_option maxHeartbeats 6400000 in
theorem exactly_yes (xo : Option Addr) (nx xc : Nat) (ao : Option Addr) (n cap : Nat) (bo : Option Addr) (m cap2 : Nat) (X a b : List Str) (k0 k1 k2 : Bool) (w : World) (RX : Rd w (.slice xo nx xc) (ss X)) (Ra : Rd w (.slice ao n cap) (ss a)) (Rb : Rd w (.slice bo m cap2) (ss b))
    (hs : SS X) (h1 : ∀ x ∈ X, wn a b k0 k1 k2 x = true) (h2 : ∀ x ∈ a ++ b, wn a b k0 k1 k2 x = true → x ∈ X) (hX9 : X.length ≤ 1000) (ha9 : a.length ≤ 1000) (hb9 : b.length ≤ 1000) :
    Calls Try.prog 16 #[.slice xo nx xc, .slice ao n cap, .slice bo m cap2, .agg #[.bool k0, .bool k1, .bool k2]] w fun e w' => e = .returned (.bool true) ∧ Below w.heap.size w w' := by
  have hnx := (rds_open RX).1
  have hna := (rds_open Ra).1
  have hnb := (rds_open Rb).1
  have HRX := hid_of RX
  have HRA := hid_of Ra
  have HRB := hid_of Rb
  have HNX := hid_of hnx
  have HNA := hid_of (And.intro hna hnb)
  have HSS := hid_of hs
  have H1 := hid_of h1
  have H2 := hid_of h2
  have HL := hid_of (And.intro hX9 (And.intro ha9 hb9))
  have hnx9 : nx ≤ 1000 := by omega
  have WA : Hid (∀ (wx : World) (s : Str) (bs : ByteArray), bs = ba s → Below w.heap.size w wx → Calls Try.prog 40 #[.slice ao n cap, .slice bo m cap2, .string bs, .agg #[.bool k0, .bool k1, .bool k2]] wx fun e w' => e = .returned (.bool (wn a b k0 k1 k2 s)) ∧ Below wx.heap.size wx w') :=
    hid_of (fun wx s bs hb h => by subst hb; exact wanted_any ao n cap bo m cap2 a b s k0 k1 k2 wx (Ra.at h) (Rb.at h))
  have HA : Hid (∀ (wx : World) (s : Str) (bs : ByteArray), bs = ba s → Below w.heap.size w wx → Calls Try.prog 22 #[.slice xo nx xc, .string bs] wx fun e w' => e = .returned (.bool (decide (s ∈ X))) ∧ wx = w') :=
    hid_of (fun wx s bs hb h => by subst hb; exact rhas_any xo nx xc X s wx (RX.at h))
  have B0 : Hid (Below (w.heap.size + 1) (w.alloc (.cells #[.bool k0, .bool k1, .bool k2] 28)) (w.alloc (.cells #[.bool k0, .bool k1, .bool k2] 28))) := hid_of (Below.refl _ _)
  have UP : Hid (∀ wx, Below (w.heap.size + 1) (w.alloc (.cells #[.bool k0, .bool k1, .bool k2] 28)) wx → Below w.heap.size w wx) := hid_of (fun wx h => (bel_alloc w _).trans (h.mono (by omega)))
  obtain ⟨W0, hW0⟩ : ∃ W0, W0 = w.alloc (.cells #[.bool k0, .bool k1, .bool k2] 28) := ⟨_, rfl⟩
  rw [← hW0] at B0 UP
  have HW0 := hid_of hW0
  have HSZ : Hid (w.heap.size + 1 ≤ W0.heap.size) := hid_of (by rw [hW0]; simp)
  have KC : Hid (∀ wx, Below (w.heap.size + 1) W0 wx → wx.cell? ⟨w.heap.size, 0, none⟩ = some (.bool k0) ∧ wx.cell? ⟨w.heap.size, 1, none⟩ = some (.bool k1) ∧ wx.cell? ⟨w.heap.size, 2, none⟩ = some (.bool k2)) := hid_of (fun wx h => by
    rw [hW0] at h; exact ⟨keep_cell h rfl, keep_cell h rfl, keep_cell h rfl⟩)
  clear RX Ra Rb hs h1 h2 hX9 ha9 hb9 hnx hna hnb
  go_enter Try.func16, Try.ntmps16
  go_wp2
  rw [← hW0]
  clear hW0
  go_loopw [9] (fun iv wr => ∃ i p : Nat, p + 1 = i ∧ (i ≤ nx ∨ i = 1) ∧ iv = .int .i64 i ∧ Hid (Below (w.heap.size + 1) W0 wr)) (fun iv _ => nx - (intOf iv).toNat)
  case atStart => exact ⟨1, 0, rfl, .inr rfl, rfl, B0⟩
  case round =>
    obtain ⟨i, p, hpi, hi, rfl, hb⟩ := hrel
    by_cases hlt : i < nx
    · have hd : decide (i < nx) = true := by simp; omega
      have hd' : decide ((i : Int) < (nx : Int)) = true := by simp; omega
      have hkl : Hid (i < X.length) := hid_of (by have := HNX.out; omega)
      have hpl : Hid (p < X.length) := hid_of (by have := HNX.out; omega)
      obtain ⟨q0, q1, q2, q3⟩ := rds_open HRX.out
      obtain ⟨g, o, rfl, hg, hc⟩ := q3.resolve_left (fun e => by have := hkl.out; rw [e] at this; simp at this)
      obtain ⟨bk, hbk⟩ : ∃ b, b = ba (X[i]'hkl.out) := ⟨_, rfl⟩
      obtain ⟨bp, hbp⟩ : ∃ b, b = ba (X[p]'hpl.out) := ⟨_, rfl⟩
      have c1 := ((UP.out _ hb.out).cell (p := ⟨g, o + i, none⟩) hg).trans (hc i _ (List.getElem?_eq_getElem hkl.out))
      have c2 := ((UP.out _ hb.out).cell (p := ⟨g, o + p, none⟩) hg).trans (hc p _ (List.getElem?_eq_getElem hpl.out))
      rw [← hbk] at c1
      rw [← hbp] at c2
      have s1 : IntKind.i64.wrap ((i : Int) - 1) = (p : Int) := by rw [IntWalk.i64_in _ (by omega)]; omega
      have b1 : (i : Int) < (nx : Int) := by omega
      have b2 : (p : Int) < (nx : Int) := by omega
      have b3 : (0 : Int) ≤ (i : Int) := by omega
      have b4 : (0 : Int) ≤ (p : Int) := by omega
      have t1 := lt_t hbp hbk (by have := ss_get HSS.out (show p < i by omega) hkl.out; rwa [getD_of hpl.out, getD_of hkl.out] at this)
      clear hbp hbk hpi hi q0 q1 q2 q3 hc
      go_wp2
      go_quiet (fail)
      clear s1
      go_wp2
      go_roundw
      case rel => exact ⟨i + 1, i, rfl, .inl (by omega), by go_num, hid_of (bel_drewN hb.out _)⟩
      case measure => simp [intOf]; omega
    · have hd : decide (i < nx) = false := by simp; omega
      have hd' : decide ((i : Int) < (nx : Int)) = false := by simp; omega
      clear hpi hi hlt
      go_wp2
      go_loopw [10] (fun iv wr => ∃ i : Nat, i ≤ nx ∧ iv = .int .i64 i ∧ Hid (Below (w.heap.size + 1) W0 wr)) (fun iv _ => nx - (intOf iv).toNat)
      case atStart => exact ⟨0, Nat.zero_le _, rfl, hb⟩
      case round =>
        clear hb hd hd'
        obtain ⟨k, hk, rfl, hb⟩ := hrel
        by_cases hlt : k < nx
        · have hd2 : decide (k < nx) = true := by simp; omega
          have hkl : Hid (k < X.length) := hid_of (by have := HNX.out; omega)
          obtain ⟨q0, q1, q2, q3⟩ := rds_open HRX.out
          obtain ⟨g, o, rfl, hg, hc⟩ := q3.resolve_left (fun e => by have := hkl.out; rw [e] at this; simp at this)
          obtain ⟨bk, hbk⟩ : ∃ b, b = ba (X[k]'hkl.out) := ⟨_, rfl⟩
          have c1 := ((UP.out _ hb.out).cell (p := ⟨g, o + k, none⟩) hg).trans (hc k _ (List.getElem?_eq_getElem hkl.out))
          rw [← hbk] at c1
          obtain ⟨e0, e1, e2⟩ := KC.out _ hb.out
          have WK : Hid (∀ wx, Below w.heap.size w wx → Calls Try.prog 40 #[.slice ao n cap, .slice bo m cap2, .string bk, .agg #[.bool k0, .bool k1, .bool k2]] wx fun e w' => e = .returned (.bool true) ∧ Below wx.heap.size wx w') := hid_of (fun wx h => by
            have := WA.out wx _ bk hbk h; rw [H1.out _ (List.getElem_mem hkl.out)] at this; exact this)
          have b1 : (k : Int) < (nx : Int) := by omega
          have b3 : (0 : Int) ≤ (k : Int) := by omega
          clear hbk q0 q1 q2 q3 hc
          go_wp2
          go_region_with (go_at_call 40; ((with_reducible refine (WK.out _ ((UP.out _ hb.out).drew)).mono ?_); (rintro ee w5 ⟨rfl, h5⟩; have B5 := hid_of (hb.out.drew.trans (h5.mono (Nat.le_trans HSZ.out hb.out.size))); clear h5)))
          all_goals
            go_wp2
            go_roundw
            case rel => exact ⟨k + 1, by omega, by go_num, B5⟩
            case measure => simp [intOf]; omega
        · have hd2 : decide (k < nx) = false := by simp; omega
          have HWR : Hid (w.heap.size + 1 ≤ wr.heap.size) := hid_of (Nat.le_trans HSZ.out hb.out.size)
          have RA := hid_of (HRA.out.at (UP.out _ hb.out))
          have RB := hid_of (HRB.out.at (UP.out _ hb.out))
          have HAB : Hid (a.length ≤ 1000 ∧ b.length ≤ 1000) := hid_of ⟨HL.out.2.1, HL.out.2.2⟩
          clear hlt hk
          go_wp2_with (at_builtin; (first
            | ((refine wpList_app strsE rfl _ _ rfl (v := .slice (some ⟨wr.heap.size, 0, none⟩) 0 0) rfl (l := ss []) (ow_empty _ wr) (vx := .slice ao n cap) rfl (m := ss a) (RA.out.at (bel_alloc wr _)) (ss_one _) (by rw [ss_length, ss_length]; have := HAB.out.1; simp; omega) (by rw [ss_length, ss_length]; have := HAB.out.1; simp; omega) ?_); intro xo3 n3 c3 w3 hn3 h3; have hn31 : n3 ≤ 1000 := (by rw [hn3, ss_length, ss_length]; have := HAB.out.1; simp; omega); have X3 : Hid (Ow 9 wr.heap.size wr w3 (.slice xo3 n3 c3) (ss a)) := hid_of h3; clear h3 hn3)
            | ((refine wpList_app strsE rfl _ _ rfl (v := .slice xo3 n3 c3) rfl (l := ss a) X3.out (vx := .slice bo m cap2) rfl (m := ss b) (RB.out.at X3.out.bel) (ss_one _) (by rw [ss_length, ss_length]; have := HAB.out; omega) (by rw [ss_length, ss_length]; have := HAB.out; omega) ?_); intro xo4 n4 c4 w4 hn4 h4; have X4 : Hid (n4 = (a ++ b).length ∧ Ow 9 wr.heap.size wr w4 (.slice xo4 n4 c4) (ss (a ++ b))) := hid_of ⟨(by rw [hn4, ss_length, ss_length, List.length_append]), (by rw [ss_append]; exact h4)⟩; have hn49 : n4 ≤ 2000 := (by rw [hn4, ss_length, ss_length]; have := HAB.out; omega); clear h4 hn4)))
          have B4 : Hid (Below (w.heap.size + 1) W0 w4) := hid_of (hb.out.trans (X4.out.2.bel.mono HWR.out))
          have RALL := hid_of (X4.out.2.rd (by rw [ss_length, List.length_append]; have := HAB.out; omega))
          have HW4 : Hid (w.heap.size + 1 ≤ w4.heap.size) := hid_of (by have := X4.out.2.size; have := HWR.out; omega)
          have B4s : Hid (Below w4.heap.size w4 w4) := hid_of (Below.refl _ _)
          go_loopw [12] (fun iv wx => ∃ i : Nat, i ≤ n4 ∧ iv = .int .i64 i ∧ Hid (Below w4.heap.size w4 wx)) (fun iv _ => n4 - (intOf iv).toNat)
          case atStart => exact ⟨0, Nat.zero_le _, rfl, B4s⟩
          case round =>
            obtain ⟨k, hk, rfl, hbx⟩ := hrel
            by_cases hlt : k < n4
            · have hd3 : decide (k < n4) = true := by simp; omega
              have hkl : Hid (k < (a ++ b).length) := hid_of (by rw [← X4.out.1]; exact hlt)
              obtain ⟨q0, q1, q2, q3⟩ := rds_open RALL.out
              obtain ⟨g, o, rfl, hg, hc⟩ := q3.resolve_left (fun e => by have := hkl.out; rw [e] at this; simp at this)
              obtain ⟨bk, hbk⟩ : ∃ t, t = ba ((a ++ b)[k]'hkl.out) := ⟨_, rfl⟩
              have c1 := (hbx.out.cell (p := ⟨g, o + k, none⟩) hg).trans (hc k _ (List.getElem?_eq_getElem hkl.out))
              rw [← hbk] at c1
              have BX : Hid (Below (w.heap.size + 1) W0 _) := hid_of (B4.out.trans (hbx.out.mono HW4.out))
              obtain ⟨e0, e1, e2⟩ := KC.out _ BX.out
              have b1 : (k : Int) < (n4 : Int) := by omega
              have b3 : (0 : Int) ≤ (k : Int) := by omega
              have HBK := hid_of hbk
              obtain ⟨q, hq⟩ : ∃ q, q = wn a b k0 k1 k2 ((a ++ b)[k]'hkl.out) := ⟨_, rfl⟩
              have WK : Hid (∀ wx, Below w.heap.size w wx → Calls Try.prog 40 #[.slice ao n cap, .slice bo m cap2, .string bk, .agg #[.bool k0, .bool k1, .bool k2]] wx fun e w' => e = .returned (.bool q) ∧ Below wx.heap.size wx w') := hid_of (fun wx h => by
                rw [hq]; exact WA.out wx _ bk hbk h)
              have HQ := hid_of hq
              clear hbk q0 q1 q2 q3 hc hq
              cases q
              · go_wp2
                first
                  | (go_region_with ((go_at_call 40; ((with_reducible refine (WK.out _ ((UP.out _ BX.out).drew)).mono ?_); (rintro ee w5 ⟨rfl, h5⟩; have B5 := hid_of (hbx.out.drew.trans (h5.mono hbx.out.size)); have c5 := (B5.out.cell (p := ⟨g, o + k, none⟩) hg).trans ((hbx.out.cell (p := ⟨g, o + k, none⟩) hg).symm.trans c1); obtain ⟨e50, e51, e52⟩ := KC.out _ (BX.out.drew.trans (h5.mono (Nat.le_trans HSZ.out BX.out.size))); clear h5)))))
                  | skip
                all_goals
                  go_wp2
                  go_roundw
                  case rel => exact ⟨k + 1, by omega, by go_num, B5⟩
                  case measure => simp [intOf]; omega
              · have HK : Hid (∀ wx, Below w.heap.size w wx → Calls Try.prog 22 #[.slice xo nx xc, .string bk] wx fun e w' => e = .returned (.bool true) ∧ wx = w') := hid_of (fun wx h => by
                  have := HA.out wx _ bk HBK.out h
                  rw [decide_eq_true (H2.out _ (List.getElem_mem hkl.out) HQ.out.symm)] at this; exact this)
                go_wp2
                go_region_held_law (fun W => W.cell? ⟨g, o + k, none⟩ = some (.string bk) ∧ W.cell? ⟨w.heap.size, 0, none⟩ = some (.bool k0) ∧ W.cell? ⟨w.heap.size, 1, none⟩ = some (.bool k1) ∧ W.cell? ⟨w.heap.size, 2, none⟩ = some (.bool k2)) (first | exact ⟨c5, e50, e51, e52⟩ | go_keep) (first
                  | (go_at_call 40; ((with_reducible refine (WK.out _ ((UP.out _ BX.out).drew)).mono ?_); (rintro ee w5 ⟨rfl, h5⟩; have B5 := hid_of (hbx.out.drew.trans (h5.mono hbx.out.size)); have c5 := (B5.out.cell (p := ⟨g, o + k, none⟩) hg).trans ((hbx.out.cell (p := ⟨g, o + k, none⟩) hg).symm.trans c1); obtain ⟨e50, e51, e52⟩ := KC.out _ (BX.out.drew.trans (h5.mono (Nat.le_trans HSZ.out BX.out.size))); have U5 := hid_of ((UP.out _ BX.out).drew.trans (h5.mono (Nat.le_trans (Nat.le_succ _) (Nat.le_trans HSZ.out BX.out.size)))); clear h5)))
                  | (go_at_call 22; ((with_reducible refine (HK.out _ U5.out).mono ?_); (rintro ee w' ⟨rfl, rfl⟩))))
                all_goals
                  go_wp2
                  go_roundw
                  case rel => exact ⟨k + 1, by omega, by go_num, B5⟩
                  case measure => simp [intOf]; omega
            · have hd3 : decide (k < n4) = false := by simp; omega
              go_wp2
              go_ret
              exact ⟨rfl, (UP.out _ B4.out).trans (hbx.out.mono (by have := HW4.out; omega))⟩
end Go.Proofs.Ytkpblmmgaglhoaa
