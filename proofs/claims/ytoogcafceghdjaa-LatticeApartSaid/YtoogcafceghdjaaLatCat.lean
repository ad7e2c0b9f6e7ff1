/- slices.Grow of nil, slices.Concat of two slices of strings. Bounds on sizes alone. -/
import Derived.Lib.AppendZeros
import Derived.Test.YtoogcafceghdjaaLatMps
namespace Go.Proofs.Ytoogcafceghdjaa
open Go.RowKit

theorem ow_zero {w : World} {C c : Nat} {cs : Array Value} (hc : cs.size = C) (hm : C ≤ maxLen) (hC : c = C) :
    Ow 9 w.heap.size w (w.drew.alloc (.cells cs 9)) (.slice (some ⟨w.heap.size, 0, none⟩) 0 c) [] := by
  subst hC
  refine ⟨Nat.le_refl _, (Below.refl _ w).drew.alloc (Nat.le_refl _) _, rfl, .inr ⟨w.heap.size, c, cs, rfl, Nat.le_refl _, ?_, Nat.zero_le _, hm, by omega, by simp⟩⟩
  exact heap_alloc_new w.drew _

set_option maxRecDepth 100000 in
theorem grow_any (n : Nat) (w : World) (hn : n ≤ 8796093022208) :
    Calls Try.prog 89 #[.slice none 0 0, .int .i64 n] w fun e w' => ∃ xo xc, e = .returned (.slice xo 0 xc) ∧ Ow 9 w.heap.size w w' (.slice xo 0 xc) [] := by
  obtain ⟨i0, hi, hz0, hz1, hz2⟩ := info_parts strsE.info
  have d0 : decide ((n : Int) < 0) = false := by simp
  by_cases h0 : n = 0
  · subst h0
    go_enter Try.func89, Try.ntmps89
    go_wp2
    go_ret
    exact ⟨none, 0, rfl, ow_nil _ _⟩
  · have d1 : decide (0 < n) = true := by simp; omega
    have HH := hid_of (Lib.run_append_nil_zeros (P := Try.prog) w 22 3 22 9 i0 (.string ⟨#[]⟩) .i64 .i64 Try.underlying22 Try.underlying3 hi hz0 n (by omega) (by omega) (by omega) (by rw [hz2]; omega))
    have hgc := grownCap_le_maxLen w n 0 9 (by unfold maxLen; omega)
    have hge := grownCap_ge w n 0 9
    obtain ⟨C, hC⟩ : ∃ C, C = grownCap w n 0 9 := ⟨_, rfl⟩
    rw [← hC] at HH hgc hge
    obtain ⟨cs, hcs⟩ : ∃ cs, cs = Builtin.zeroCells (Value.string ⟨#[]⟩).cells n ++ Builtin.zeroCells (Value.string ⟨#[]⟩).cells (C - n) := ⟨_, rfl⟩
    rw [← hcs] at HH
    have HCS : Hid (cs.size = C) := hid_of (by
      rw [hcs, Array.size_append, size_zeroCells, size_zeroCells, show (Value.string ⟨#[]⟩).cells.size = 1 from rfl]; omega)
    have HM := hid_of hgc
    have hC0 : (0 : Int) ≤ (C : Int) := by omega
    have hCm : C ≤ 9223372036854775807 := by unfold maxLen at hgc; exact hgc
    clear hcs hC hgc hge hi hz0 hz1 hz2
    go_enter Try.func89, Try.ntmps89
    go_wp2_with (at_builtin; refine Lib.wpList_append_run _ rfl _ _ _ _ rfl _ _ rfl rfl _ _ HH.out ?_)
    go_ret
    exact ⟨_, C, rfl, ow_zero HCS.out HM.out rfl⟩

/-- What Concat has collected after k slices. -/
def catK (a b : List Str) : Nat → List Str
  | 0 => []
  | 1 => a
  | _ => a ++ b
theorem catK_len (a b : List Str) (k : Nat) : (catK a b k).length ≤ a.length + b.length := by
  match k with
  | 0 => simp [catK]
  | 1 => simp [catK]
  | (k + 2) => simp [catK]

set_option maxRecDepth 100000 in
set_option maxHeartbeats 800000 in
theorem concat_any (g : Nat) (ao : Option Addr) (n cap : Nat) (bo : Option Addr) (m cap2 : Nat) (a b : List Str) (w : World) (Ra : Rd w (.slice ao n cap) (ss a)) (Rb : Rd w (.slice bo m cap2) (ss b)) (hab : a.length + b.length ≤ 8796093022208) (hg : g < w.heap.size)
    (c0 : w.cell? ⟨g, 0, none⟩ = some (.slice ao n cap)) (c1 : w.cell? ⟨g, 1, none⟩ = some (.slice bo m cap2)) :
    Calls Try.prog 82 #[.slice (some ⟨g, 0, none⟩) 2 2] w fun e w' => ∃ xo xc, e = .returned (.slice xo (a ++ b).length xc) ∧ Ow 9 w.heap.size w w' (.slice xo (a ++ b).length xc) (ss (a ++ b)) := by
  have hn := (rds_open Ra).1
  have hm := (rds_open Rb).1
  have HRA := hid_of Ra
  have HRB := hid_of Rb
  have hnm9 : n + m ≤ 8796093022208 := by omega
  have HN := hid_of hn
  have HM := hid_of hm
  have GR := hid_of (fun s w h => grow_any s w h)
  obtain ⟨D, hD⟩ : ∃ D, D = catK a b := ⟨_, rfl⟩
  have HD := hid_of hD
  have HC0 := hid_of c0
  have HC1 := hid_of c1
  have HNM := hid_of hnm9
  clear Ra Rb hab hn hm hD
  go_enter Try.func82, Try.ntmps82
  go_wp2
  go_loop [3, 5, 11] (fun zv fv iv => ∃ (k s : Nat) (v : Value), zv = .int .i64 s ∧ fv = v ∧ iv = .int .i64 k ∧ s ≤ 8796093022208 ∧ ((k = 0 ∧ s = 0) ∨ (k = 1 ∧ s = n) ∨ (k = 2 ∧ s = n + m))) (fun _ _ iv => 2 - (intOf iv).toNat)
  case atStart => exact ⟨0, 0, _, rfl, rfl, rfl, by omega, .inl ⟨rfl, rfl⟩⟩
  case round =>
    obtain ⟨k, s, v, rfl, rfl, rfl, hs9, hks⟩ := hrel
    rcases hks with ⟨rfl, rfl⟩ | ⟨rfl, rfl⟩ | ⟨rfl, hsz⟩
    · go_wp2
      go_round
      case rel => exact ⟨1, n, _, by go_num, rfl, rfl, by omega, .inr (.inl ⟨rfl, rfl⟩)⟩
      case measure => simp [intOf]
    · have d1 : decide (((s + m : Nat) : Int) < 0) = false := by simp; omega
      go_wp2
      go_round
      case rel => exact ⟨2, s + m, _, by go_num, rfl, rfl, by omega, .inr (.inr ⟨rfl, rfl⟩)⟩
      case measure => simp [intOf]
    · clear c0 c1 hsz
      go_wp2_with (go_at_call 89; ((with_reducible refine (GR.out s w hs9).mono ?_); (rintro e w1 ⟨xo1, xc1, rfl, h1⟩; have O1 := hid_of h1; clear h1)))
      go_loopw [6, 8, 27] (fun sv fv iv wr => ∃ (k : Nat) (xo : Option Addr) (xc : Nat) (v : Value), fv = v ∧ iv = .int .i64 k ∧ k ≤ 2 ∧ sv = .slice xo (D k).length xc ∧ Hid (Ow 9 w.heap.size w wr (.slice xo (D k).length xc) (ss (D k)))) (fun _ _ iv _ => 2 - (intOf iv).toNat)
      case atStart => exact ⟨0, xo1, xc1, _, rfl, rfl, by omega, by rw [HD.out]; rfl, hid_of (by rw [HD.out]; exact O1.out)⟩
      case round =>
        obtain ⟨k, xo, xc, v2, rfl, rfl, hk, rfl, how⟩ := hrel
        have HDL : Hid ((D k).length ≤ 8796093022208 ∧ (k = 0 → (D k).length = 0) ∧ (k = 1 → (D k).length = n)) := hid_of ⟨by have := catK_len a b k; rw [HD.out]; have := HN.out; have := HM.out; have := HNM.out; omega, fun h => by rw [HD.out, h]; rfl, fun h => by rw [HD.out, h]; exact HN.out.symm⟩
        have hcase : k = 0 ∨ k = 1 ∨ k = 2 := by omega
        obtain ⟨dk, hdk⟩ : ∃ d, d = D k := ⟨_, rfl⟩
        rw [← hdk] at how HDL ⊢
        have HDK := hid_of hdk
        clear hdk
        rcases hcase with rfl | rfl | rfl
        · have c0 := (how.out.bel.cell (p := ⟨g, 0, none⟩) hg).trans HC0.out
          have STEP : Hid (D 1 = dk ++ a) := hid_of (by rw [HDK.out, HD.out]; rfl)
          have RX := hid_of (HRA.out.at how.out.bel)
          go_wp2_with (at_builtin; ((refine wpList_app strsE rfl _ _ rfl (v := .slice xo dk.length xc) rfl how.out (vx := .slice ao n cap) rfl RX.out (ss_one _) (by rw [ss_length, ss_length]; have := HDL.out.2.1 rfl; have := HN.out; have := HNM.out; omega) (by rw [ss_length, ss_length]; have := HDL.out.2.1 rfl; have := HN.out; have := HNM.out; omega) ?_); intro xo3 n3 c3 w3 hn3 h3; have X3 : Hid (n3 = (dk ++ a).length ∧ Ow 9 w.heap.size w w3 (.slice xo3 n3 c3) (ss (dk ++ a))) := hid_of ⟨by rw [hn3, ss_length, ss_length]; simp, by rw [ss_append]; exact h3⟩; clear h3 hn3))
          go_roundw
          case rel => exact ⟨1, xo3, c3, _, rfl, rfl, by omega, by rw [STEP.out, X3.out.1], hid_of (by rw [STEP.out, ← X3.out.1]; exact X3.out.2)⟩
          case measure => simp [intOf]
        · have c1 := (how.out.bel.cell (p := ⟨g, 1, none⟩) hg).trans HC1.out
          have STEP : Hid (D 2 = dk ++ b) := hid_of (by rw [HDK.out, HD.out]; rfl)
          have RX := hid_of (HRB.out.at how.out.bel)
          go_wp2_with (at_builtin; ((refine wpList_app strsE rfl _ _ rfl (v := .slice xo dk.length xc) rfl how.out (vx := .slice bo m cap2) rfl RX.out (ss_one _) (by rw [ss_length, ss_length]; have := HDL.out.2.2 rfl; have := HM.out; have := HNM.out; omega) (by rw [ss_length, ss_length]; have := HDL.out.2.2 rfl; have := HM.out; have := HNM.out; omega) ?_); intro xo3 n3 c3 w3 hn3 h3; have X3 : Hid (n3 = (dk ++ b).length ∧ Ow 9 w.heap.size w w3 (.slice xo3 n3 c3) (ss (dk ++ b))) := hid_of ⟨by rw [hn3, ss_length, ss_length]; simp, by rw [ss_append]; exact h3⟩; clear h3 hn3))
          go_roundw
          case rel => exact ⟨2, xo3, c3, _, rfl, rfl, by omega, by rw [STEP.out, X3.out.1], hid_of (by rw [STEP.out, ← X3.out.1]; exact X3.out.2)⟩
          case measure => simp [intOf]
        · have HF : Hid (dk = a ++ b) := hid_of (by rw [HDK.out, HD.out]; rfl)
          go_wp2
          go_ret
          exact ⟨xo, xc, by rw [HF.out] <;> rfl, by rw [← HF.out]; exact how.out⟩

end Go.Proofs.Ytoogcafceghdjaa
