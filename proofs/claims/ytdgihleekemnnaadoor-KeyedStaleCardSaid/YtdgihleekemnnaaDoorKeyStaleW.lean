/- KeyedStale. -/
import Derived.Test.YtdgihleekemnnaaDoorKeyTagW
namespace Go.Proofs.YtdgihleekemnnaaDoor
open Go.RowKit

/-- A slice of integers that came in. -/
def Ints (w : World) (a : Option Addr) (len : Nat) (l : List Int) : Prop :=
  l.length = len ∧ (0 < len → ∃ g o, a = some ⟨g, o, none⟩ ∧ g < w.heap.size ∧ ∀ j y, l[j]? = some y → w.cell? ⟨g, o + j, none⟩ = some (.int .i64 y))
theorem IsRow.ints {w : World} {a : Option Addr} {len cap : Nat} {zs : List Int} (h : IsRow .i64 w a len cap zs) : (∃ l, Ints w a len l) ∧ len ≤ 9223372036854775807 := by
  rcases h with ⟨rfl, rfl, rfl, rfl⟩ | ⟨x, rfl, h1, h2, h3, h4, h5⟩
  · exact ⟨⟨[], rfl, fun h => by omega⟩, by omega⟩
  · unfold maxLen at h2
    refine ⟨⟨zs.take len, by rw [List.length_take]; omega, fun h0 => ?_⟩, by omega⟩
    have h6 := h4 0 (by omega)
    rw [show x.add 0 = x by rfl] at h6
    have hx := spot_none h6
    refine ⟨x.block, x.off, by rw [← hx], World.block_lt_of_cell? w _ h6, fun j y hy => ?_⟩
    have hj : j < len := by have := (List.getElem?_eq_some_iff.1 hy).1; rw [List.length_take] at this; omega
    have h7 := h4 j (by omega)
    rw [hx, Addr.add_mid] at h7
    rw [h7]
    rw [List.getElem?_take, if_pos hj] at hy
    simp [List.getD, hy]
theorem len_cap {w : World} {g n c : Nat} {l : List Int} (h : Lies w (.slice (some ⟨g, 0, none⟩) n c) l) : n ≤ c ∧ c ≤ 9223372036854775807 := by
  obtain ⟨_, _, q, q1, q2, _⟩ := h
  simp only [Value.slice.injEq] at q
  omega

set_option maxRecDepth 100000 in
set_option maxHeartbeats 6400000 in
theorem keyedStale_law (a0 : Option Addr) (n0 c0 : Nat) (z0 : List Int) (p h : Int) (a3 : Option Addr) (n3 c3 : Nat) (z3 : List Int) (a4 : Option Addr) (n4 c4 : Nat) (z4 : List Int) (w : World) (hG : Glob w) (w0 : IsRow .u8 w a0 n0 c0 z0) (w3 : IsRow .i64 w a3 n3 c3 z3) (w4 : IsRow .u8 w a4 n4 c4 z4) (hp : R64 p) (hh : R64 h) :
    Calls Tryd.prog 7 #[.slice a0 n0 c0, .int .i64 p, .int .i64 h, .slice a3 n3 c3, .slice a4 n4 c4] w fun e w' => e = .returned (.bool true) ∧ Below w.heap.size w w' := by
  obtain ⟨k, hk, kr, hK⟩ := w0.lies
  obtain ⟨m, hm, mr, hM⟩ := w4.lies
  obtain ⟨⟨xs, hx⟩, hx63⟩ := w3.ints
  have HG := hid_of hG
  have H2 : Hid (2 ≤ w.heap.size) := hid_of hG.two
  obtain ⟨r, hr⟩ : ∃ r, r = (decide (n0 ≤ 2000) && decide (n4 ≤ 2000)) := ⟨_, rfl⟩
  have SH := hid_of (fun w => short_any a0 a4 n0 c0 n4 c4 r w hr)
  have AWK := hid_of (awake_any w hG)
  by_cases hlen : 12 < n3
  · have d : decide ((n3 : Int) > 12) = true := by simp; omega
    clear hG w0 w3 w4 hk kr hK hm mr hM hx hr hp hh hlen
    go_enter Tryd.func7, Tryd.ntmps7
    go_wp2_with (go_at_call 10; ((with_reducible refine AWK.out.mono ?_); (rintro e w1 ⟨rfl, h1⟩; have HB1 := hid_of h1; clear h1)))
    go_ret
    exact ⟨rfl, HB1.out⟩
  have d : decide ((n3 : Int) > 12) = false := by simp; omega
  cases r
  · clear hG w0 w3 w4 hk kr hK hm mr hM hx hr hp hh hlen
    go_enter Tryd.func7, Tryd.ntmps7
    go_wp2_with (first
      | (go_at_call 10; ((with_reducible refine AWK.out.mono ?_); (rintro e w1 ⟨rfl, h1⟩; have HB1 := hid_of h1; clear h1)))
      | (go_at_call 11; ((with_reducible refine (SH.out w1).mono ?_); (rintro e w' ⟨rfl, rfl⟩))))
    go_ret
    exact ⟨rfl, HB1.out⟩
  have hn : n0 ≤ 2000 ∧ n4 ≤ 2000 := by simpa using hr.symm
  have hkl : k.length ≤ 2000 := by omega
  have hml : m.length ≤ 2000 := by omega
  have NEW : Hid (∀ W, Below w.heap.size w W → Calls Tryd.prog 16 #[.slice a0 n0 c0, .int .i64 p] W fun e w' => ∃ b, e = .returned (.pointer (some ⟨b, 0, none⟩)) ∧ Mst w.heap.size w' b k p 0 ∧ Below w.heap.size w w') := hid_of (fun W hb => (new_module _ k p W (hK.later hb (Nat.le_refl _)) (by omega)).mono fun e w' ⟨b, h1, h2, h3, h4⟩ => ⟨b, h1, by
      obtain ⟨q1, g, n, q2, q3, q4, q5, q6⟩ := h3
      have := hb.size
      exact ⟨by omega, g, n, q2, q3, q4, by omega, q6⟩, hb.trans (h4.mono hb.size)⟩)
  have SNEG : Hid (∀ (W : World) (b : Nat) (q : Int), h < 0 → Mst w.heap.size W b k p q → Calls Tryd.prog 20 #[.pointer (some ⟨b, 0, none⟩), .int .i64 h, .slice a4 n4 c4] W fun e w' => e = .returned (.tuple #[.slice none 0 0, .int .i64 1]) ∧ W = w') := hid_of (fun W b q hneg hm => sign_neg b p q h _ k W hm hneg)
  have SSTA : Hid (∀ (W : World) (b : Nat) (q : Int), ¬ h < 0 → h < q → Mst w.heap.size W b k p q → Calls Tryd.prog 20 #[.pointer (some ⟨b, 0, none⟩), .int .i64 h, .slice a4 n4 c4] W fun e w' => e = .returned (.tuple #[.slice none 0 0, .int .i64 11]) ∧ W = w') := hid_of (fun W b q h0 h1 hm => sign_stale b p q h _ k W hm h0 h1)
  have SOK : Hid (∀ (W : World) (b : Nat) (q : Int), ¬ h < 0 → ¬ h < q → Below w.heap.size w W → Mst w.heap.size W b k p q → Calls Tryd.prog 20 #[.pointer (some ⟨b, 0, none⟩), .int .i64 h, .slice a4 n4 c4] W fun e w' => ∃ g cap, e = .returned (.tuple #[.slice (some ⟨g, 0, none⟩) 32 cap, .int .i64 0]) ∧ Lies w' (.slice (some ⟨g, 0, none⟩) 32 cap) (hmac (derive k p h) m) ∧ Below W.heap.size W w') := hid_of (fun W b q h0 h1 hb hms => (sign_ok b k m p q h _ W hms h0 h1 kr (hM.later hb (Nat.le_refl _)) mr hp hh (hG.bel hb hG.two) (by omega) (by omega)).mono fun e w' ⟨g, cap, e1, _, e2, e3⟩ => ⟨g, cap, e1, e2, e3⟩)
  have VER : Hid (∀ (W : World) (b : Nat) (q : Int) (g cap : Nat), Below w.heap.size w W → Mst w.heap.size W b k p q → Lies W (.slice (some ⟨g, 0, none⟩) 32 cap) (hmac (derive k p h) m) → Calls Tryd.prog 22 #[.pointer (some ⟨b, 0, none⟩), .int .i64 p, .int .i64 h, .slice a4 n4 c4, .slice (some ⟨g, 0, none⟩) 32 cap] W fun e w' => e = .returned (.bool true) ∧ Below W.heap.size W w') := hid_of (fun W b q g cap hb hms hl => by
    have := verify_any b k m (hmac (derive k p h) m) p q p h (.slice a4 n4 c4) _ W hms kr (hM.later hb (Nat.le_refl _)) mr hl (hmac_rng _ _) hp hh (hG.bel hb hG.two) (by omega) (by omega)
    rw [decide_eq_true rfl] at this
    exact this)
  have HX := hid_of hx
  clear hG w0 w3 w4 hk kr hK hm mr hM hx hr hp hh hn hkl hml hlen
  go_enter Tryd.func7, Tryd.ntmps7
  go_wp2_with (first
    | (go_at_call 10; ((with_reducible refine AWK.out.mono ?_); (rintro e w1 ⟨rfl, h1⟩; have HB1 := hid_of h1; clear h1)))
    | (go_at_call 11; ((with_reducible refine (SH.out w1).mono ?_); (rintro e w' ⟨rfl, rfl⟩)))
    | (go_at_call 16; ((with_reducible refine (NEW.out w1 HB1.out).mono ?_); (rintro e w2 ⟨b, rfl, h1, h2⟩; have HM2 := hid_of h1; have HB2 := hid_of h2; clear h1 h2))))
  go_loopw [12, 13] (fun mv iv wr => ∃ (i : Nat) (q : Int), i ≤ n3 ∧ iv = .int .i64 i ∧ mv = .int .i64 q ∧ 0 ≤ q ∧ Hid (Mst w.heap.size wr b k p q) ∧ Hid (Below w.heap.size w wr)) (fun _ iv _ => n3 - (intOf iv).toNat)
  case atStart => exact ⟨0, 0, Nat.zero_le _, rfl, rfl, by omega, HM2, HB2⟩
  case round =>
    obtain ⟨i, q, hi, rfl, rfl, hq0, hms, hb⟩ := hrel
    have HM := hid_of hms.out
    have HB := hid_of hb.out
    clear hms hb
    by_cases hlt : i < n3
    · obtain ⟨g3, o3, rfl, hg3, hc3⟩ := HX.out.2 (by omega)
      obtain ⟨x, hx⟩ : ∃ x, xs[i]? = some x := ⟨_, List.getElem?_eq_getElem (by have := HX.out.1; omega)⟩
      have c1 := (HB.out.cell (p := ⟨g3, o3 + i, none⟩) hg3).trans (hc3 i x hx)
      have C1 := hid_of (fun (W : World) (hb : Below w.heap.size w W) => (hb.cell (p := ⟨g3, o3 + i, none⟩) hg3).trans (hc3 i x hx))
      have b1 : (i : Int) < (n3 : Int) := by omega
      have b0 : (0 : Int) ≤ (i : Int) := by omega
      clear hc3 hx
      obtain ⟨q2, hq2⟩ : ∃ q2, q2 = max q x := ⟨_, rfl⟩
      have RAI : Hid (Calls Tryd.prog 19 #[.pointer (some ⟨b, 0, none⟩), .int .i64 x] wr fun e w' => e = .returned (.tuple #[]) ∧ Mst w.heap.size w' b k p q2 ∧ Below w.heap.size w w') := hid_of (by
        rw [hq2]
        exact (raise_any b k p q x wr HM.out).mono fun e w' ⟨e1, e2, e3⟩ => ⟨e1, e2, HB.out.trans (e3.below HB.out.size (fun j hj => by have := HM.out.1; omega))⟩)
      have hsp : (q2 = q ∧ x < q ∨ q2 = q ∧ x = q ∨ q2 = x ∧ q < x) ∧ (h < 0 ∨ (¬ h < 0 ∧ h < q2) ∨ (¬ h < 0 ∧ ¬ h < q2)) := by omega
      clear hq2
      have hq20 : 0 ≤ q2 := by omega
      obtain ⟨hmx, hcs⟩ := hsp
      have en : (q2 != q2) = false := by simp
      rcases hcs with hc | ⟨hc, hd⟩ | ⟨hc, hd⟩
      · have dge : decide (h ≥ q2) = false := by simp; omega
        have dh : decide (h < 0) = true := by simp; exact hc
        rcases hmx with ⟨rfl, hxq⟩ | ⟨rfl, rfl⟩ | ⟨rfl, hxq⟩
        all_goals (
          go_wp2_with (first
        | (go_at_call 19; ((with_reducible refine RAI.out.mono ?_); (rintro e w3 ⟨rfl, h1, h2⟩; have HM3 := hid_of h1; have HB3 := hid_of h2; have c2 := C1.out w3 HB3.out; clear h1 h2)))
        | (go_at_call 20; ((with_reducible refine (SNEG.out w3 b _ hc HM3.out).mono ?_); (rintro e w' ⟨rfl, rfl⟩)))
        | (go_at_call 18; ((with_reducible refine (height_any b k p _ w3 HM3.out).mono ?_); (rintro e w' ⟨rfl, rfl⟩))))
          go_roundw
          case rel => exact ⟨i + 1, _, by omega, by go_num, rfl, hq20, HM3, HB3⟩
          case measure => simp [intOf]; omega)
      · have dge : decide (h ≥ q2) = false := by simp; omega
        rcases hmx with ⟨rfl, hxq⟩ | ⟨rfl, rfl⟩ | ⟨rfl, hxq⟩
        all_goals (
          go_wp2_with (first
        | (go_at_call 19; ((with_reducible refine RAI.out.mono ?_); (rintro e w3 ⟨rfl, h1, h2⟩; have HM3 := hid_of h1; have HB3 := hid_of h2; have c2 := C1.out w3 HB3.out; clear h1 h2)))
        | (go_at_call 20; ((with_reducible refine (SSTA.out w3 b _ hc hd HM3.out).mono ?_); (rintro e w' ⟨rfl, rfl⟩)))
        | (go_at_call 18; ((with_reducible refine (height_any b k p _ w3 HM3.out).mono ?_); (rintro e w' ⟨rfl, rfl⟩))))
          go_roundw
          case rel => exact ⟨i + 1, _, by omega, by go_num, rfl, hq20, HM3, HB3⟩
          case measure => simp [intOf]; omega)
      · have dge : decide (h ≥ q2) = true := by simp; omega
        have HC := hid_of hc
        have HD := hid_of hd
        clear hc hd
        rcases hmx with ⟨rfl, hxq⟩ | ⟨rfl, rfl⟩ | ⟨rfl, hxq⟩
        all_goals (
          go_wp2_with (first
        | (go_at_call 19; ((with_reducible refine RAI.out.mono ?_); (rintro e w3 ⟨rfl, h1, h2⟩; have HM3 := hid_of h1; have HB3 := hid_of h2; have c2 := C1.out w3 HB3.out; clear h1 h2)))
        | (go_at_call 20; ((with_reducible refine (SOK.out w3 b _ HC.out HD.out HB3.out HM3.out).mono ?_); (rintro e w4 ⟨g, cap, rfl, h1, h2⟩; have HL4 := hid_of h1; have HM4 := hid_of (HM3.out.later h2 (Nat.le_refl _)); have HB4 := hid_of (HB3.out.trans (h2.mono HB3.out.size)); clear h1 h2)))
        | (go_at_call 18; ((with_reducible refine (height_any b k p _ w4 HM4.out).mono ?_); (rintro e w' ⟨rfl, rfl⟩)))
        | (go_at_call 22; ((with_reducible refine (VER.out w4 b _ g cap HB4.out HM4.out HL4.out).mono ?_); (rintro e w5 ⟨rfl, h2⟩; have HM5 := hid_of (HM4.out.later h2 (Nat.le_refl _)); have HB5 := hid_of (HB4.out.trans (h2.mono HB4.out.size)); clear h2))))
          go_roundw
          case rel => exact ⟨i + 1, _, by omega, by go_num, rfl, hq20, HM5, HB5⟩
          case measure => simp [intOf]; omega)
    · obtain rfl : i = n3 := by omega
      go_wp2
      go_ret
      exact ⟨rfl, HB.out⟩
end Go.Proofs.YtdgihleekemnnaaDoor
