/- The sets of package order: one element, has, least, each, filter. Bounds on sizes alone. -/
import Derived.Test.YtjfjcgbdpjpodaaDoorProg
import Derived.Test.YtjfjcgbdpjpodaaDoorOrdMath
import Derived.Test.YtjfjcgbdpjpodaaDoorRow
import Derived.Laws.BitsAllLaws
import Derived.Laws.Bits64b
import Derived.Laws.Shifts
import Derived.Shelf.Spec.TrailingZeros
import Derived.Shelf.Abstract
import Derived.Deep.RegionWith
import Derived.Deep.RegionHeldLaw
namespace Go.Proofs.YtjfjcgbdpjpodaaDoor
open Go.RowKit

theorem i64_nat {n : Nat} (h : n ≤ 9223372036854775807) : IntKind.i64.wrap (n : Int) = n := IntWalk.i64_in _ (by omega)
theorem sg_val (e : Nat) : IntKind.u64.wrap (2 ^ e) = ((sg e : Nat) : Int) := by
  rw [IntKind.wrap_u64]
  show (2 ^ e : Int) % 18446744073709551616 = ((2 ^ e % 18446744073709551616 : Nat) : Int)
  rw [Int.natCast_emod, Int.natCast_pow]
  rfl
theorem min64 {e : Nat} (h : e ≤ 64) : min e IntKind.u64.bits = e := by show min e 64 = e; omega

set_option maxRecDepth 100000 in
theorem single_any (e : Nat) (he : e ≤ 64) (w : World) : Calls Tryd.prog 45 #[.int .i64 e] w fun x w' => x = .returned (.int .u64 (sg e : Nat)) ∧ w = w' := by
  have h1 := sg_val e
  have h2 := min64 he
  have h0 : (0 : Int) ≤ (e : Int) := by omega
  go_enter Tryd.func45, Tryd.ntmps45
  go_wp2
  go_ret
  exact ⟨by first | rfl | simp | simp [h2, h1], rfl⟩

set_option maxRecDepth 100000 in
theorem has_any (s e : Nat) (hs : s < M64) (he : e < 64) (w : World) : Calls Tryd.prog 67 #[.int .u64 s, .int .i64 e] w fun x w' => x = .returned (.bool (s.testBit e)) ∧ w = w' := by
  have h1 := u64_and_nat s (sg e) hs (sg_lt e)
  have h2 := has_iff (s := s) he
  obtain ⟨q, hq⟩ : ∃ q, q = s &&& sg e := ⟨_, rfl⟩
  rw [← hq] at h1 h2
  have HQ : Hid (decide (q ≠ 0) = s.testBit e) := hid_of (by
    cases hb : s.testBit e
    · rw [hb] at h2; simp at h2; simp [h2]
    · rw [hb] at h2; simp at h2; simp [h2])
  have HE := hid_of he
  clear hq h2 hs he
  go_enter Tryd.func67, Tryd.ntmps67
  go_wp2_with (go_at_call 45; ((with_reducible refine (single_any e (Nat.le_of_lt HE.out) w).mono ?_); (rintro ee w' ⟨rfl, rfl⟩)))
  go_ret
  exact ⟨by rw [← HQ.out, show ((q : Int) != 0) = decide (q ≠ 0) by rw [Bool.eq_iff_iff]; simp]; rfl, rfl⟩

/-- The table of the library's count of zeros, as its initialiser lays it. -/
def Tb (w : World) : Prop := TabAt 0 Lib.deBruijn64tab w
theorem tab_len : Lib.deBruijn64tab.length = 64 := by decide
theorem Tb.later {w w' : World} {B : Nat} (h : Tb w) (hb : Below B w w') (hB : 0 < B) : Tb w' := fun j hj =>
  (hb.cell (p := ⟨0, j, none⟩) (by show _ < B; omega)).trans (h j hj)
theorem Tb.pos {w : World} (h : Tb w) : 0 < w.heap.size := World.block_lt_of_cell? w _ (h 0 (by rw [tab_len]; omega))
theorem Tb.at {w w' : World} (h : Tb w) (hb : Below w.heap.size w w') : Tb w' := h.later hb h.pos

set_option maxRecDepth 100000 in
theorem tz_core (x k idx : Nat) (w : World) (hx0 : ((x : Int) == 0) = false)
    (key : IntKind.u64.wrap (bits BinOp.and IntKind.u64 (x : Int) (IntKind.u64.wrap (-(x : Int))) * 285870213051353865) / 288230376151711744 = (idx : Int))
    (hi : idx < 64) (hk : k < 64) (hcell : w.cell? ⟨0, idx, none⟩ = some (.int .u8 k)) :
    Calls Tryd.prog 71 #[.int .u64 x] w fun e w' => e = .returned (.int .i64 k) ∧ w = w' := by
  go_enter Tryd.func71, Tryd.ntmps71
  go_wp2_with (simp only [key])
  go_ret
  exact ⟨rfl, rfl⟩
set_option maxRecDepth 100000 in
theorem tz_zero (w : World) : Calls Tryd.prog 71 #[.int .u64 0] w fun e w' => e = .returned (.int .i64 64) ∧ w = w' := by
  go_enter Tryd.func71, Tryd.ntmps71
  go_wp2
  go_ret
  exact ⟨rfl, rfl⟩
theorem tz_any (x : Nat) (hx : x < M64) (w : World) (hT : Tb w) : Calls Tryd.prog 71 #[.int .u64 x] w fun e w' => e = .returned (.int .i64 (low x)) ∧ w = w' := by
  unfold low
  by_cases hx0 : x = 0
  · subst hx0
    exact tz_zero w
  · obtain ⟨hlow, hk⟩ := Lib.lowest_bit 64 x hx0 hx
    obtain ⟨hi, htab⟩ := Lib.deBruijn64_at _ hk
    have hcell := hT _ hi
    rw [htab] at hcell
    exact tz_core x _ _ w (by simp; omega) (tz64_key x _ hx hx0 hlow) hi hk hcell

set_option maxRecDepth 100000 in
theorem least_any (s : Nat) (hs : s < M64) (w : World) (hT : Tb w) : Calls Tryd.prog 44 #[.int .u64 s] w fun x w' => x = .returned (.int .i64 (low s)) ∧ w = w' := by
  have HS := hid_of hs
  have HT := hid_of hT
  clear hs hT
  go_enter Tryd.func44, Tryd.ntmps44
  go_wp2_with (go_at_call 71; ((with_reducible refine (tz_any s HS.out w HT.out).mono ?_); (rintro ee w' ⟨rfl, rfl⟩)))
  go_ret
  exact ⟨rfl, rfl⟩

set_option maxRecDepth 100000 in
/-- each: what the visits keep. -/
theorem each_any (g : Nat) (lb : Array Value) (eg : ∀ args w, (callFunc g args).run Tryd.prog w = .ok (.enter g args) w) (I : List Nat → World → Prop) (s : Nat) (hs : s < M64) (w : World) (h0 : I [] w) (hT : ∀ l wx, I l wx → Tb wx)
    (hI : ∀ l e wx, (∃ r, els s = l ++ e :: r) → I l wx → Calls Tryd.prog g (#[.int .i64 (e : Nat)] ++ lb) wx fun x w' => x = .returned (.tuple #[]) ∧ I (l ++ [e]) w') :
    Calls Tryd.prog 54 #[.int .u64 s, .func (.func g) #[] lb] w fun x w' => x = .returned (.tuple #[]) ∧ I (els s) w' := by
  have HS := hid_of hs
  have H0 := hid_of h0
  have HT := hid_of hT
  have HI := hid_of hI
  clear hs h0 hT hI
  go_enter Tryd.func54, Tryd.ntmps54
  go_wp2
  go_loopw [0] (fun sv wx => ∃ (t : Nat) (l : List Nat), sv = .int .u64 t ∧ t < M64 ∧ Hid (els s = l ++ els t ∧ I l wx)) (fun sv _ => (intOf sv).toNat)
  case atStart => exact ⟨s, [], rfl, HS.out, hid_of ⟨rfl, H0.out⟩⟩
  case round =>
    obtain ⟨t, l, rfl, ht, hl⟩ := hrel
    by_cases htz : t = 0
    · subst htz
      go_wp2
      first | go_ret | go_end0
      exact ⟨rfl, by have := hl.out; rw [els_zero, List.append_nil] at this; rw [this.1]; exact this.2⟩
    · have hd : ((t : Int) != 0) = true := by simp; omega
      have ht9 : t < 18446744073709551616 := ht
      have e1 : IntKind.u64.wrap ((t : Int) - 1) = ((t - 1 : Nat) : Int) := by rw [IntKind.wrap_u64]; omega
      have e2 := u64_and_nat t (t - 1) ht9 (by omega)
      have HR : Hid (els s = l ++ low t :: els (t &&& (t - 1))) := hid_of (by rw [hl.out.1, els_cons htz ht])
      have HL : Hid (t &&& (t - 1) < t) := hid_of (and_pred_lt htz)
      obtain ⟨q, hq⟩ : ∃ q, q = t &&& (t - 1) := ⟨_, rfl⟩
      obtain ⟨k, hk⟩ : ∃ k, k = t - 1 := ⟨_, rfl⟩
      obtain ⟨e, he⟩ : ∃ e, e = low t := ⟨_, rfl⟩
      rw [← hq] at HR HL
      rw [← hk] at e1 e2 hq
      rw [← hq] at e2
      rw [← he] at HR
      have HTL : Hid (Calls Tryd.prog 44 #[.int .u64 t] wr fun x w' => x = .returned (.int .i64 (e : Nat)) ∧ wr = w') := hid_of (by rw [he]; exact least_any t ht wr (HT.out _ _ hl.out.2))
      have HG : Hid (Calls Tryd.prog g (#[.int .i64 (e : Nat)] ++ lb) wr fun x w' => x = .returned (.tuple #[]) ∧ I (l ++ [e]) w') := hid_of (HI.out l e wr ⟨_, HR.out⟩ hl.out.2)
      have HT9 := hid_of ht9
      clear hq hk he htz ht9
      go_wp2_with (first
        | (go_at_call 44; ((with_reducible refine (HTL.out).mono ?_); (rintro ee w' ⟨rfl, rfl⟩)))
        | (go_at_fn g; refine (HG.out).mono ?_; rintro ee w2 ⟨rfl, h2⟩; have H2 := hid_of h2; clear h2))
      go_roundw
      case rel => exact ⟨q, l ++ [e], rfl, by have := HL.out; have := HT9.out; show q < 18446744073709551616; omega, hid_of ⟨by rw [HR.out]; simp, H2.out⟩⟩
      case measure => simp [intOf]; have := HL.out; omega
end Go.Proofs.YtjfjcgbdpjpodaaDoor
