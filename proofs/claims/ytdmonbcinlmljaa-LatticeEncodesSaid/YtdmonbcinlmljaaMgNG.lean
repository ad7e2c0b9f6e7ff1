/- Texts in one: LatRe, LatOpn, LatApr, LatLwN. -/
import Derived.Test.YtdmonbcinlmljaaMgNF
import Derived.Deep.RegionHeld3
import Derived.SliceStrings
import Derived.Deep.Strs
import Derived.ProofKit
import Derived.SizedLaws
import Derived.Test.YtdmonbcinlmljaaRows
import Derived.Deep.CutRange
import Derived.Deep.RegionLaw
set_option linter.unusedVariables false
set_option linter.unusedSimpArgs false
/- The reference's Encode. Bounds on sizes alone. -/
namespace Go.Proofs.Ytdmonbcinlmljaa
open Go.RowKit
set_option maxRecDepth 100000
set_option maxHeartbeats 3200000

/-- What the reference's Encode gives. -/
def EQ (t : Lat) (w : World) (e : Ending) (w' : World) : Prop := ∃ x k c, e = .returned (.slice x k c) ∧ EO w w' (.slice x k c) (encL t)
def REP (t : Lat) : Prop := ∀ (k lo hi : Int) (an : Option Addr) (nn cn : Nat) (ap : Option Addr) (np cp : Nat) (ar : Option Addr) (nr cr : Nat) (w : World), LO w k lo hi an nn cn ap np cp ar nr cr t → (encL t).length ≤ 60000000000000 → Calls Try.prog 12 #[.agg #[.int .i64 k, .int .i64 lo, .int .i64 hi, .slice an nn cn, .slice ap np cp, .slice ar nr cr]] w (EQ t w)
theorem eo_of_alloc {w W : World} {ob : Obj} {v : Value} {L : List Int} (h : EO (w.alloc ob) W v L) : EO w W v L := Ow.start h (Nat.le_refl _) (bel_alloc w ob) (bel_alloc w ob).size
theorem EO.drew {wA W : World} {v : Value} {L : List Int} (h : EO wA W v L) : EO wA W.drew v L := Ow.drew h
theorem encLs_snoc (ps : List Lat) (j : Nat) (p : Lat) (h : ps[j]? = some p) : encLs (ps.take (j + 1)) = encLs (ps.take j) ++ encL p := by
  rw [take_snocL h, encLs_map, encLs_map, List.flatMap_append, List.flatMap_singleton]
theorem encLs_pre (ps : List Lat) (j : Nat) : (encLs (ps.take j)).length ≤ (encLs ps).length := by
  rw [encLs_map, encLs_map]
  have := flat_take encL ps j
  omega
theorem shape_0 {t : Lat} (h : shapeB t = true) (hk : t.k ≠ 5 ∧ t.k ≠ 6 ∧ t.k ≠ 7) : t.ps.length = 0 := by
  have hh := h
  unfold shapeB at h
  have := shape_k hh
  rcases kinds t.k with e | e | e | e | e | e | e | e | e | e | hx
  case inr.inr.inr.inr.inr.inr.inr.inr.inr.inr => omega
  all_goals (rw [e] at h hk; simp at h hk; try simp [h])
section
variable (lo hi : Int) (an : Option Addr) (nn cn : Nat) (ap : Option Addr) (np cp : Nat) (ar : Option Addr) (nr cr : Nat) (t : Lat) (w : World)
theorem re_1 (H : LO w 1 lo hi an nn cn ap 0 cp ar nr cr t) (hok : Okay t) (hl : (encL t).length ≤ 60000000000000) (IH : ∀ p ∈ t.ps, REP p) :
    Calls Try.prog 12 #[.agg #[.int .i64 1, .int .i64 lo, .int .i64 hi, .slice an nn cn, .slice ap 0 cp, .slice ar nr cr]] w (EQ t w) := by
  have hk : t.k = 1 := H.hk.symm
  have hN := hok.node
  have HA := hid_of (bel_alloc w (.cells #[.int .i64 1, .int .i64 lo, .int .i64 hi, .slice an nn cn, .slice ap 0 cp, .slice ar nr cr] 26))
  have HBX : Hid (∀ W, Below (w.alloc (.cells #[.int .i64 1, .int .i64 lo, .int .i64 hi, .slice an nn cn, .slice ap 0 cp, .slice ar nr cr] 26)).heap.size (w.alloc (.cells #[.int .i64 1, .int .i64 lo, .int .i64 hi, .slice an nn cn, .slice ap 0 cp, .slice ar nr cr] 26)) W → _) := hid_of (fun W h => box6 1 lo hi an nn cn ap 0 cp ar nr cr h)
  have HE : Hid (encL t = Wr.enc 1 ++ ([] : List Int)) := hid_of (by
    rw [encL_k, hk, if_neg (by decide : ¬((1 : Int) = 2 ∨ (1 : Int) = 3)), if_neg (by decide : ¬((1 : Int) = 4 ∨ (1 : Int) = 8)), if_neg (by decide : ¬((1 : Int) = 5)), if_neg (by decide : ¬((1 : Int) = 6)), if_neg (by decide : ¬((1 : Int) = 7)), if_neg (by decide : ¬((1 : Int) = 10))]
    rfl)
  have HL : Hid ((Wr.enc 1).length + (([] : List Int)).length ≤ 60000000000000) := hid_of (by
    have h1 := hl
    rw [HE.out, List.length_append] at h1
    omega)
  have C0 : Hid (Calls Try.prog 32 #[.slice none 0 0, .int .u64 1] (w.alloc (.cells #[.int .i64 1, .int .i64 lo, .int .i64 hi, .slice an nn cn, .slice ap 0 cp, .slice ar nr cr] 26)) (EP (w.alloc (.cells #[.int .i64 1, .int .i64 lo, .int .i64 hi, .slice an nn cn, .slice ap 0 cp, .slice ar nr cr] 26)) (w.alloc (.cells #[.int .i64 1, .int .i64 lo, .int .i64 hi, .slice an nn cn, .slice ap 0 cp, .slice ar nr cr] 26)) (Wr.enc 1))) := hid_of (by
    have h1 := fuint_eo 1 (eo_nil (w.alloc (.cells #[.int .i64 1, .int .i64 lo, .int .i64 hi, .slice an nn cn, .slice ap 0 cp, .slice ar nr cr] 26))) (by simp) (by omega)
    rwa [List.nil_append] at h1)
  clear H hok hl IH hk hN
  go_enter Try.func12, Try.ntmps12
  go_wp2_with (go_at_call 32; ((with_reducible refine (C0.out).mono ?_); (rintro e w1 ⟨y1, k1, c1, rfl, q1, q2⟩)); have O1 := hid_of q1; obtain ⟨a0, a1, a2, a3, a4, a5⟩ := HBX.out w1 q1.bel; clear q1 q2)
  go_loopw [3, 4] (fun ov iv wr => ∃ oo on oc, ov = .slice oo on oc ∧ iv = .int .i64 0 ∧ Hid (EO (w.alloc (.cells #[.int .i64 1, .int .i64 lo, .int .i64 hi, .slice an nn cn, .slice ap 0 cp, .slice ar nr cr] 26)) wr (.slice oo on oc) (Wr.enc 1))) (fun _ _ _ => 0)
  case atStart => exact ⟨_, _, _, rfl, rfl, O1⟩
  case round =>
    obtain ⟨oo, on, oc, rfl, rfl, hk⟩ := hrel
    obtain ⟨y0, y1, y2, y3, y4, y5⟩ := HBX.out wr hk.out.bel
    have HF : Hid (EO w wr (.slice oo on oc) (encL t)) := hid_of (by
      have h1 := eo_of_alloc hk.out
      rw [HE.out]
      simpa only [List.append_assoc, List.append_nil] using h1)
    go_wp2
    go_ret
    exact ⟨_, _, _, rfl, HF.out⟩
theorem re_9 (H : LO w 9 lo hi an nn cn ap 0 cp ar nr cr t) (hok : Okay t) (hl : (encL t).length ≤ 60000000000000) (IH : ∀ p ∈ t.ps, REP p) :
    Calls Try.prog 12 #[.agg #[.int .i64 9, .int .i64 lo, .int .i64 hi, .slice an nn cn, .slice ap 0 cp, .slice ar nr cr]] w (EQ t w) := by
  have hk : t.k = 9 := H.hk.symm
  have hN := hok.node
  have HA := hid_of (bel_alloc w (.cells #[.int .i64 9, .int .i64 lo, .int .i64 hi, .slice an nn cn, .slice ap 0 cp, .slice ar nr cr] 26))
  have HBX : Hid (∀ W, Below (w.alloc (.cells #[.int .i64 9, .int .i64 lo, .int .i64 hi, .slice an nn cn, .slice ap 0 cp, .slice ar nr cr] 26)).heap.size (w.alloc (.cells #[.int .i64 9, .int .i64 lo, .int .i64 hi, .slice an nn cn, .slice ap 0 cp, .slice ar nr cr] 26)) W → _) := hid_of (fun W h => box6 9 lo hi an nn cn ap 0 cp ar nr cr h)
  have HE : Hid (encL t = Wr.enc 9 ++ ([] : List Int)) := hid_of (by
    rw [encL_k, hk, if_neg (by decide : ¬((9 : Int) = 2 ∨ (9 : Int) = 3)), if_neg (by decide : ¬((9 : Int) = 4 ∨ (9 : Int) = 8)), if_neg (by decide : ¬((9 : Int) = 5)), if_neg (by decide : ¬((9 : Int) = 6)), if_neg (by decide : ¬((9 : Int) = 7)), if_neg (by decide : ¬((9 : Int) = 10))]
    rfl)
  have HL : Hid ((Wr.enc 9).length + (([] : List Int)).length ≤ 60000000000000) := hid_of (by
    have h1 := hl
    rw [HE.out, List.length_append] at h1
    omega)
  have C0 : Hid (Calls Try.prog 32 #[.slice none 0 0, .int .u64 9] (w.alloc (.cells #[.int .i64 9, .int .i64 lo, .int .i64 hi, .slice an nn cn, .slice ap 0 cp, .slice ar nr cr] 26)) (EP (w.alloc (.cells #[.int .i64 9, .int .i64 lo, .int .i64 hi, .slice an nn cn, .slice ap 0 cp, .slice ar nr cr] 26)) (w.alloc (.cells #[.int .i64 9, .int .i64 lo, .int .i64 hi, .slice an nn cn, .slice ap 0 cp, .slice ar nr cr] 26)) (Wr.enc 9))) := hid_of (by
    have h1 := fuint_eo 9 (eo_nil (w.alloc (.cells #[.int .i64 9, .int .i64 lo, .int .i64 hi, .slice an nn cn, .slice ap 0 cp, .slice ar nr cr] 26))) (by simp) (by omega)
    rwa [List.nil_append] at h1)
  clear H hok hl IH hk hN
  go_enter Try.func12, Try.ntmps12
  go_wp2_with (go_at_call 32; ((with_reducible refine (C0.out).mono ?_); (rintro e w1 ⟨y1, k1, c1, rfl, q1, q2⟩)); have O1 := hid_of q1; obtain ⟨a0, a1, a2, a3, a4, a5⟩ := HBX.out w1 q1.bel; clear q1 q2)
  go_loopw [3, 4] (fun ov iv wr => ∃ oo on oc, ov = .slice oo on oc ∧ iv = .int .i64 0 ∧ Hid (EO (w.alloc (.cells #[.int .i64 9, .int .i64 lo, .int .i64 hi, .slice an nn cn, .slice ap 0 cp, .slice ar nr cr] 26)) wr (.slice oo on oc) (Wr.enc 9))) (fun _ _ _ => 0)
  case atStart => exact ⟨_, _, _, rfl, rfl, O1⟩
  case round =>
    obtain ⟨oo, on, oc, rfl, rfl, hk⟩ := hrel
    obtain ⟨y0, y1, y2, y3, y4, y5⟩ := HBX.out wr hk.out.bel
    have HF : Hid (EO w wr (.slice oo on oc) (encL t)) := hid_of (by
      have h1 := eo_of_alloc hk.out
      rw [HE.out]
      simpa only [List.append_assoc, List.append_nil] using h1)
    go_wp2
    go_ret
    exact ⟨_, _, _, rfl, HF.out⟩
theorem re_2 (H : LO w 2 lo hi an nn cn ap 0 cp ar nr cr t) (hok : Okay t) (hl : (encL t).length ≤ 60000000000000) (IH : ∀ p ∈ t.ps, REP p) :
    Calls Try.prog 12 #[.agg #[.int .i64 2, .int .i64 lo, .int .i64 hi, .slice an nn cn, .slice ap 0 cp, .slice ar nr cr]] w (EQ t w) := by
  have hk : t.k = 2 := H.hk.symm
  have hN := hok.node
  have HA := hid_of (bel_alloc w (.cells #[.int .i64 2, .int .i64 lo, .int .i64 hi, .slice an nn cn, .slice ap 0 cp, .slice ar nr cr] 26))
  have HBX : Hid (∀ W, Below (w.alloc (.cells #[.int .i64 2, .int .i64 lo, .int .i64 hi, .slice an nn cn, .slice ap 0 cp, .slice ar nr cr] 26)).heap.size (w.alloc (.cells #[.int .i64 2, .int .i64 lo, .int .i64 hi, .slice an nn cn, .slice ap 0 cp, .slice ar nr cr] 26)) W → _) := hid_of (fun W h => box6 2 lo hi an nn cn ap 0 cp ar nr cr h)
  have HE : Hid (encL t = Wr.enc 2 ++ (Wr.enc (Wr.zig lo) ++ Wr.enc (Wr.zig hi))) := hid_of (by
    rw [encL_k, hk, if_pos (by decide : (2 : Int) = 2 ∨ (2 : Int) = 3), H.hlo, H.hhi]
    rfl)
  have HL : Hid ((Wr.enc 2).length + ((Wr.enc (Wr.zig lo) ++ Wr.enc (Wr.zig hi))).length ≤ 60000000000000) := hid_of (by
    have h1 := hl
    rw [HE.out, List.length_append] at h1
    omega)
  have C0 : Hid (Calls Try.prog 32 #[.slice none 0 0, .int .u64 2] (w.alloc (.cells #[.int .i64 2, .int .i64 lo, .int .i64 hi, .slice an nn cn, .slice ap 0 cp, .slice ar nr cr] 26)) (EP (w.alloc (.cells #[.int .i64 2, .int .i64 lo, .int .i64 hi, .slice an nn cn, .slice ap 0 cp, .slice ar nr cr] 26)) (w.alloc (.cells #[.int .i64 2, .int .i64 lo, .int .i64 hi, .slice an nn cn, .slice ap 0 cp, .slice ar nr cr] 26)) (Wr.enc 2))) := hid_of (by
    have h1 := fuint_eo 2 (eo_nil (w.alloc (.cells #[.int .i64 2, .int .i64 lo, .int .i64 hi, .slice an nn cn, .slice ap 0 cp, .slice ar nr cr] 26))) (by simp) (by omega)
    rwa [List.nil_append] at h1)
  have HR := hid_of (And.intro H.rlo H.rhi)
  have HKS : Hid (∀ X, Below (w.alloc (.cells #[.int .i64 2, .int .i64 lo, .int .i64 hi, .slice an nn cn, .slice ap 0 cp, .slice ar nr cr] 26)).heap.size (w.alloc (.cells #[.int .i64 2, .int .i64 lo, .int .i64 hi, .slice an nn cn, .slice ap 0 cp, .slice ar nr cr] 26)) X → X.cell? ⟨w.heap.size, 0, none⟩ = some (.int .i64 2) ∧ X.cell? ⟨w.heap.size, 1, none⟩ = some (.int .i64 lo) ∧ X.cell? ⟨w.heap.size, 2, none⟩ = some (.int .i64 hi) ∧ X.cell? ⟨w.heap.size, 3, none⟩ = some (.slice an nn cn) ∧ X.cell? ⟨w.heap.size, 4, none⟩ = some (.slice ap 0 cp) ∧ X.cell? ⟨w.heap.size, 5, none⟩ = some (.slice ar nr cr)) := HBX
  clear H hok hl IH hk hN
  go_enter Try.func12, Try.ntmps12
  go_wp2_with (go_at_call 32; ((with_reducible refine (C0.out).mono ?_); (rintro e w1 ⟨y1, k1, c1, rfl, q1, q2⟩)); have O1 := hid_of q1; obtain ⟨a0, a1, a2, a3, a4, a5⟩ := HBX.out w1 q1.bel; clear q1 q2)
  have D1 := hid_of O1.out.drew
  have K1 : Hid (Below (w.alloc (.cells #[.int .i64 2, .int .i64 lo, .int .i64 hi, .slice an nn cn, .slice ap 0 cp, .slice ar nr cr] 26)).heap.size (w.alloc (.cells #[.int .i64 2, .int .i64 lo, .int .i64 hi, .slice an nn cn, .slice ap 0 cp, .slice ar nr cr] 26)) w1.drew) := hid_of O1.out.bel.drew
  have CI1 := hid_of (fint_eo lo D1.out (by have := HL.out; omega) HR.out.1)
  have CI2 : Hid (∀ w2 y k c, EO (w.alloc (.cells #[.int .i64 2, .int .i64 lo, .int .i64 hi, .slice an nn cn, .slice ap 0 cp, .slice ar nr cr] 26)) w2 (.slice y k c) (Wr.enc 2 ++ Wr.enc (Wr.zig lo)) → _) := hid_of (fun w2 y k c h => fint_eo hi h (by have := HL.out; (try simp only [List.length_append] at this ⊢); omega) HR.out.2)
  go_region_held3 (fun X => X.cell? ⟨w.heap.size, 0, none⟩ = some (.int .i64 2) ∧ X.cell? ⟨w.heap.size, 1, none⟩ = some (.int .i64 lo) ∧ X.cell? ⟨w.heap.size, 2, none⟩ = some (.int .i64 hi) ∧ X.cell? ⟨w.heap.size, 3, none⟩ = some (.slice an nn cn) ∧ X.cell? ⟨w.heap.size, 4, none⟩ = some (.slice ap 0 cp) ∧ X.cell? ⟨w.heap.size, 5, none⟩ = some (.slice ar nr cr)) (exact HKS.out _ (Hid.out (by with_reducible assumption))) (first
    | (go_at_call 33; ((with_reducible refine (CI1.out).mono ?_); (rintro e w2 ⟨y2, k2, c2, rfl, q1, q2⟩)); have O2 := hid_of q1; have K2 := hid_of q1.bel; clear q1 q2)
    | (go_at_call 33; ((with_reducible refine (CI2.out w2 _ _ _ O2.out).mono ?_); (rintro e w3 ⟨y3, k3, c3, rfl, q1, q2⟩)); have O3 := hid_of q1; have K3 := hid_of q1.bel; obtain ⟨b0, b1, b2, b3, b4, b5⟩ := HBX.out w3 q1.bel; clear q1 q2))
  go_wp2
  go_loopw [3, 4] (fun ov iv wr => ∃ oo on oc, ov = .slice oo on oc ∧ iv = .int .i64 0 ∧ Hid (EO (w.alloc (.cells #[.int .i64 2, .int .i64 lo, .int .i64 hi, .slice an nn cn, .slice ap 0 cp, .slice ar nr cr] 26)) wr (.slice oo on oc) (Wr.enc 2 ++ Wr.enc (Wr.zig lo) ++ Wr.enc (Wr.zig hi)))) (fun _ _ _ => 0)
  case atStart => exact ⟨_, _, _, rfl, rfl, O3⟩
  case round =>
    obtain ⟨oo, on, oc, rfl, rfl, hk⟩ := hrel
    obtain ⟨y0, y1, y2, y3, y4, y5⟩ := HBX.out wr hk.out.bel
    have HF : Hid (EO w wr (.slice oo on oc) (encL t)) := hid_of (by
      have h1 := eo_of_alloc hk.out
      rw [HE.out]
      simpa only [List.append_assoc, List.append_nil] using h1)
    go_wp2
    go_ret
    exact ⟨_, _, _, rfl, HF.out⟩
theorem re_3 (H : LO w 3 lo hi an nn cn ap 0 cp ar nr cr t) (hok : Okay t) (hl : (encL t).length ≤ 60000000000000) (IH : ∀ p ∈ t.ps, REP p) :
    Calls Try.prog 12 #[.agg #[.int .i64 3, .int .i64 lo, .int .i64 hi, .slice an nn cn, .slice ap 0 cp, .slice ar nr cr]] w (EQ t w) := by
  have hk : t.k = 3 := H.hk.symm
  have hN := hok.node
  have HA := hid_of (bel_alloc w (.cells #[.int .i64 3, .int .i64 lo, .int .i64 hi, .slice an nn cn, .slice ap 0 cp, .slice ar nr cr] 26))
  have HBX : Hid (∀ W, Below (w.alloc (.cells #[.int .i64 3, .int .i64 lo, .int .i64 hi, .slice an nn cn, .slice ap 0 cp, .slice ar nr cr] 26)).heap.size (w.alloc (.cells #[.int .i64 3, .int .i64 lo, .int .i64 hi, .slice an nn cn, .slice ap 0 cp, .slice ar nr cr] 26)) W → _) := hid_of (fun W h => box6 3 lo hi an nn cn ap 0 cp ar nr cr h)
  have HE : Hid (encL t = Wr.enc 3 ++ (Wr.enc (Wr.zig lo) ++ Wr.enc (Wr.zig hi))) := hid_of (by
    rw [encL_k, hk, if_pos (by decide : (3 : Int) = 2 ∨ (3 : Int) = 3), H.hlo, H.hhi]
    rfl)
  have HL : Hid ((Wr.enc 3).length + ((Wr.enc (Wr.zig lo) ++ Wr.enc (Wr.zig hi))).length ≤ 60000000000000) := hid_of (by
    have h1 := hl
    rw [HE.out, List.length_append] at h1
    omega)
  have C0 : Hid (Calls Try.prog 32 #[.slice none 0 0, .int .u64 3] (w.alloc (.cells #[.int .i64 3, .int .i64 lo, .int .i64 hi, .slice an nn cn, .slice ap 0 cp, .slice ar nr cr] 26)) (EP (w.alloc (.cells #[.int .i64 3, .int .i64 lo, .int .i64 hi, .slice an nn cn, .slice ap 0 cp, .slice ar nr cr] 26)) (w.alloc (.cells #[.int .i64 3, .int .i64 lo, .int .i64 hi, .slice an nn cn, .slice ap 0 cp, .slice ar nr cr] 26)) (Wr.enc 3))) := hid_of (by
    have h1 := fuint_eo 3 (eo_nil (w.alloc (.cells #[.int .i64 3, .int .i64 lo, .int .i64 hi, .slice an nn cn, .slice ap 0 cp, .slice ar nr cr] 26))) (by simp) (by omega)
    rwa [List.nil_append] at h1)
  have HR := hid_of (And.intro H.rlo H.rhi)
  have HKS : Hid (∀ X, Below (w.alloc (.cells #[.int .i64 3, .int .i64 lo, .int .i64 hi, .slice an nn cn, .slice ap 0 cp, .slice ar nr cr] 26)).heap.size (w.alloc (.cells #[.int .i64 3, .int .i64 lo, .int .i64 hi, .slice an nn cn, .slice ap 0 cp, .slice ar nr cr] 26)) X → X.cell? ⟨w.heap.size, 0, none⟩ = some (.int .i64 3) ∧ X.cell? ⟨w.heap.size, 1, none⟩ = some (.int .i64 lo) ∧ X.cell? ⟨w.heap.size, 2, none⟩ = some (.int .i64 hi) ∧ X.cell? ⟨w.heap.size, 3, none⟩ = some (.slice an nn cn) ∧ X.cell? ⟨w.heap.size, 4, none⟩ = some (.slice ap 0 cp) ∧ X.cell? ⟨w.heap.size, 5, none⟩ = some (.slice ar nr cr)) := HBX
  clear H hok hl IH hk hN
  go_enter Try.func12, Try.ntmps12
  go_wp2_with (go_at_call 32; ((with_reducible refine (C0.out).mono ?_); (rintro e w1 ⟨y1, k1, c1, rfl, q1, q2⟩)); have O1 := hid_of q1; obtain ⟨a0, a1, a2, a3, a4, a5⟩ := HBX.out w1 q1.bel; clear q1 q2)
  have D1 := hid_of O1.out.drew
  have K1 : Hid (Below (w.alloc (.cells #[.int .i64 3, .int .i64 lo, .int .i64 hi, .slice an nn cn, .slice ap 0 cp, .slice ar nr cr] 26)).heap.size (w.alloc (.cells #[.int .i64 3, .int .i64 lo, .int .i64 hi, .slice an nn cn, .slice ap 0 cp, .slice ar nr cr] 26)) w1.drew) := hid_of O1.out.bel.drew
  have CI1 := hid_of (fint_eo lo D1.out (by have := HL.out; omega) HR.out.1)
  have CI2 : Hid (∀ w2 y k c, EO (w.alloc (.cells #[.int .i64 3, .int .i64 lo, .int .i64 hi, .slice an nn cn, .slice ap 0 cp, .slice ar nr cr] 26)) w2 (.slice y k c) (Wr.enc 3 ++ Wr.enc (Wr.zig lo)) → _) := hid_of (fun w2 y k c h => fint_eo hi h (by have := HL.out; (try simp only [List.length_append] at this ⊢); omega) HR.out.2)
  go_region_held3 (fun X => X.cell? ⟨w.heap.size, 0, none⟩ = some (.int .i64 3) ∧ X.cell? ⟨w.heap.size, 1, none⟩ = some (.int .i64 lo) ∧ X.cell? ⟨w.heap.size, 2, none⟩ = some (.int .i64 hi) ∧ X.cell? ⟨w.heap.size, 3, none⟩ = some (.slice an nn cn) ∧ X.cell? ⟨w.heap.size, 4, none⟩ = some (.slice ap 0 cp) ∧ X.cell? ⟨w.heap.size, 5, none⟩ = some (.slice ar nr cr)) (exact HKS.out _ (Hid.out (by with_reducible assumption))) (first
    | (go_at_call 33; ((with_reducible refine (CI1.out).mono ?_); (rintro e w2 ⟨y2, k2, c2, rfl, q1, q2⟩)); have O2 := hid_of q1; have K2 := hid_of q1.bel; clear q1 q2)
    | (go_at_call 33; ((with_reducible refine (CI2.out w2 _ _ _ O2.out).mono ?_); (rintro e w3 ⟨y3, k3, c3, rfl, q1, q2⟩)); have O3 := hid_of q1; have K3 := hid_of q1.bel; obtain ⟨b0, b1, b2, b3, b4, b5⟩ := HBX.out w3 q1.bel; clear q1 q2))
  go_wp2
  go_loopw [3, 4] (fun ov iv wr => ∃ oo on oc, ov = .slice oo on oc ∧ iv = .int .i64 0 ∧ Hid (EO (w.alloc (.cells #[.int .i64 3, .int .i64 lo, .int .i64 hi, .slice an nn cn, .slice ap 0 cp, .slice ar nr cr] 26)) wr (.slice oo on oc) (Wr.enc 3 ++ Wr.enc (Wr.zig lo) ++ Wr.enc (Wr.zig hi)))) (fun _ _ _ => 0)
  case atStart => exact ⟨_, _, _, rfl, rfl, O3⟩
  case round =>
    obtain ⟨oo, on, oc, rfl, rfl, hk⟩ := hrel
    obtain ⟨y0, y1, y2, y3, y4, y5⟩ := HBX.out wr hk.out.bel
    have HF : Hid (EO w wr (.slice oo on oc) (encL t)) := hid_of (by
      have h1 := eo_of_alloc hk.out
      rw [HE.out]
      simpa only [List.append_assoc, List.append_nil] using h1)
    go_wp2
    go_ret
    exact ⟨_, _, _, rfl, HF.out⟩
theorem re_4 (H : LO w 4 lo hi an nn cn ap 0 cp ar nr cr t) (hok : Okay t) (hl : (encL t).length ≤ 60000000000000) (IH : ∀ p ∈ t.ps, REP p) :
    Calls Try.prog 12 #[.agg #[.int .i64 4, .int .i64 lo, .int .i64 hi, .slice an nn cn, .slice ap 0 cp, .slice ar nr cr]] w (EQ t w) := by
  have hk : t.k = 4 := H.hk.symm
  have hN := hok.node
  have HA := hid_of (bel_alloc w (.cells #[.int .i64 4, .int .i64 lo, .int .i64 hi, .slice an nn cn, .slice ap 0 cp, .slice ar nr cr] 26))
  have HBX : Hid (∀ W, Below (w.alloc (.cells #[.int .i64 4, .int .i64 lo, .int .i64 hi, .slice an nn cn, .slice ap 0 cp, .slice ar nr cr] 26)).heap.size (w.alloc (.cells #[.int .i64 4, .int .i64 lo, .int .i64 hi, .slice an nn cn, .slice ap 0 cp, .slice ar nr cr] 26)) W → _) := hid_of (fun W h => box6 4 lo hi an nn cn ap 0 cp ar nr cr h)
  have HE : Hid (encL t = Wr.enc 4 ++ nsE t.ns) := hid_of (by
    rw [encL_k, hk, if_neg (by decide : ¬((4 : Int) = 2 ∨ (4 : Int) = 3)), if_pos (by decide : (4 : Int) = 4 ∨ (4 : Int) = 8)]
    rfl)
  have HL : Hid ((Wr.enc 4).length + (nsE t.ns).length ≤ 60000000000000) := hid_of (by
    have h1 := hl
    rw [HE.out, List.length_append] at h1
    omega)
  have C0 : Hid (Calls Try.prog 32 #[.slice none 0 0, .int .u64 4] (w.alloc (.cells #[.int .i64 4, .int .i64 lo, .int .i64 hi, .slice an nn cn, .slice ap 0 cp, .slice ar nr cr] 26)) (EP (w.alloc (.cells #[.int .i64 4, .int .i64 lo, .int .i64 hi, .slice an nn cn, .slice ap 0 cp, .slice ar nr cr] 26)) (w.alloc (.cells #[.int .i64 4, .int .i64 lo, .int .i64 hi, .slice an nn cn, .slice ap 0 cp, .slice ar nr cr] 26)) (Wr.enc 4))) := hid_of (by
    have h1 := fuint_eo 4 (eo_nil (w.alloc (.cells #[.int .i64 4, .int .i64 lo, .int .i64 hi, .slice an nn cn, .slice ap 0 cp, .slice ar nr cr] 26))) (by simp) (by omega)
    rwa [List.nil_append] at h1)
  have CN : Hid (∀ w1 y k c, EO (w.alloc (.cells #[.int .i64 4, .int .i64 lo, .int .i64 hi, .slice an nn cn, .slice ap 0 cp, .slice ar nr cr] 26)) w1 (.slice y k c) (Wr.enc 4) → Calls Try.prog 34 #[.slice y k c, .slice an nn cn] w1 (EP (w.alloc (.cells #[.int .i64 4, .int .i64 lo, .int .i64 hi, .slice an nn cn, .slice ap 0 cp, .slice ar nr cr] 26)) w1 (Wr.enc 4 ++ nsE t.ns))) := hid_of (fun w1 y k c h => texts_eo t.ns h (H.n.at (HA.out.trans (h.bel.mono HA.out.size))) hN.nm (by have := hN.nl; omega) (by have := HL.out; (try simp only [List.length_append] at this ⊢); omega))
  clear H hok hl IH hk hN
  go_enter Try.func12, Try.ntmps12
  go_wp2_with (first
    | (go_at_call 32; ((with_reducible refine (C0.out).mono ?_); (rintro e w1 ⟨y1, k1, c1, rfl, q1, q2⟩)); have O1 := hid_of q1; obtain ⟨a0, a1, a2, a3, a4, a5⟩ := HBX.out w1 q1.bel; clear q1 q2)
    | (go_at_call 34; ((with_reducible refine (CN.out w1 _ _ _ O1.out).mono ?_); (rintro e w2 ⟨y2, k2, c2, rfl, q1, q2⟩)); have O2 := hid_of q1; obtain ⟨b0, b1, b2, b3, b4, b5⟩ := HBX.out w2 q1.bel; clear q1 q2))
  go_loopw [3, 4] (fun ov iv wr => ∃ oo on oc, ov = .slice oo on oc ∧ iv = .int .i64 0 ∧ Hid (EO (w.alloc (.cells #[.int .i64 4, .int .i64 lo, .int .i64 hi, .slice an nn cn, .slice ap 0 cp, .slice ar nr cr] 26)) wr (.slice oo on oc) (Wr.enc 4 ++ nsE t.ns))) (fun _ _ _ => 0)
  case atStart => exact ⟨_, _, _, rfl, rfl, O2⟩
  case round =>
    obtain ⟨oo, on, oc, rfl, rfl, hk⟩ := hrel
    obtain ⟨y0, y1, y2, y3, y4, y5⟩ := HBX.out wr hk.out.bel
    have HF : Hid (EO w wr (.slice oo on oc) (encL t)) := hid_of (by
      have h1 := eo_of_alloc hk.out
      rw [HE.out]
      simpa only [List.append_assoc, List.append_nil] using h1)
    go_wp2
    go_ret
    exact ⟨_, _, _, rfl, HF.out⟩
theorem re_8 (H : LO w 8 lo hi an nn cn ap 0 cp ar nr cr t) (hok : Okay t) (hl : (encL t).length ≤ 60000000000000) (IH : ∀ p ∈ t.ps, REP p) :
    Calls Try.prog 12 #[.agg #[.int .i64 8, .int .i64 lo, .int .i64 hi, .slice an nn cn, .slice ap 0 cp, .slice ar nr cr]] w (EQ t w) := by
  have hk : t.k = 8 := H.hk.symm
  have hN := hok.node
  have HA := hid_of (bel_alloc w (.cells #[.int .i64 8, .int .i64 lo, .int .i64 hi, .slice an nn cn, .slice ap 0 cp, .slice ar nr cr] 26))
  have HBX : Hid (∀ W, Below (w.alloc (.cells #[.int .i64 8, .int .i64 lo, .int .i64 hi, .slice an nn cn, .slice ap 0 cp, .slice ar nr cr] 26)).heap.size (w.alloc (.cells #[.int .i64 8, .int .i64 lo, .int .i64 hi, .slice an nn cn, .slice ap 0 cp, .slice ar nr cr] 26)) W → _) := hid_of (fun W h => box6 8 lo hi an nn cn ap 0 cp ar nr cr h)
  have HE : Hid (encL t = Wr.enc 8 ++ nsE t.ns) := hid_of (by
    rw [encL_k, hk, if_neg (by decide : ¬((8 : Int) = 2 ∨ (8 : Int) = 3)), if_pos (by decide : (8 : Int) = 4 ∨ (8 : Int) = 8)]
    rfl)
  have HL : Hid ((Wr.enc 8).length + (nsE t.ns).length ≤ 60000000000000) := hid_of (by
    have h1 := hl
    rw [HE.out, List.length_append] at h1
    omega)
  have C0 : Hid (Calls Try.prog 32 #[.slice none 0 0, .int .u64 8] (w.alloc (.cells #[.int .i64 8, .int .i64 lo, .int .i64 hi, .slice an nn cn, .slice ap 0 cp, .slice ar nr cr] 26)) (EP (w.alloc (.cells #[.int .i64 8, .int .i64 lo, .int .i64 hi, .slice an nn cn, .slice ap 0 cp, .slice ar nr cr] 26)) (w.alloc (.cells #[.int .i64 8, .int .i64 lo, .int .i64 hi, .slice an nn cn, .slice ap 0 cp, .slice ar nr cr] 26)) (Wr.enc 8))) := hid_of (by
    have h1 := fuint_eo 8 (eo_nil (w.alloc (.cells #[.int .i64 8, .int .i64 lo, .int .i64 hi, .slice an nn cn, .slice ap 0 cp, .slice ar nr cr] 26))) (by simp) (by omega)
    rwa [List.nil_append] at h1)
  have CN : Hid (∀ w1 y k c, EO (w.alloc (.cells #[.int .i64 8, .int .i64 lo, .int .i64 hi, .slice an nn cn, .slice ap 0 cp, .slice ar nr cr] 26)) w1 (.slice y k c) (Wr.enc 8) → Calls Try.prog 34 #[.slice y k c, .slice an nn cn] w1 (EP (w.alloc (.cells #[.int .i64 8, .int .i64 lo, .int .i64 hi, .slice an nn cn, .slice ap 0 cp, .slice ar nr cr] 26)) w1 (Wr.enc 8 ++ nsE t.ns))) := hid_of (fun w1 y k c h => texts_eo t.ns h (H.n.at (HA.out.trans (h.bel.mono HA.out.size))) hN.nm (by have := hN.nl; omega) (by have := HL.out; (try simp only [List.length_append] at this ⊢); omega))
  clear H hok hl IH hk hN
  go_enter Try.func12, Try.ntmps12
  go_wp2_with (first
    | (go_at_call 32; ((with_reducible refine (C0.out).mono ?_); (rintro e w1 ⟨y1, k1, c1, rfl, q1, q2⟩)); have O1 := hid_of q1; obtain ⟨a0, a1, a2, a3, a4, a5⟩ := HBX.out w1 q1.bel; clear q1 q2)
    | (go_at_call 34; ((with_reducible refine (CN.out w1 _ _ _ O1.out).mono ?_); (rintro e w2 ⟨y2, k2, c2, rfl, q1, q2⟩)); have O2 := hid_of q1; obtain ⟨b0, b1, b2, b3, b4, b5⟩ := HBX.out w2 q1.bel; clear q1 q2))
  go_loopw [3, 4] (fun ov iv wr => ∃ oo on oc, ov = .slice oo on oc ∧ iv = .int .i64 0 ∧ Hid (EO (w.alloc (.cells #[.int .i64 8, .int .i64 lo, .int .i64 hi, .slice an nn cn, .slice ap 0 cp, .slice ar nr cr] 26)) wr (.slice oo on oc) (Wr.enc 8 ++ nsE t.ns))) (fun _ _ _ => 0)
  case atStart => exact ⟨_, _, _, rfl, rfl, O2⟩
  case round =>
    obtain ⟨oo, on, oc, rfl, rfl, hk⟩ := hrel
    obtain ⟨y0, y1, y2, y3, y4, y5⟩ := HBX.out wr hk.out.bel
    have HF : Hid (EO w wr (.slice oo on oc) (encL t)) := hid_of (by
      have h1 := eo_of_alloc hk.out
      rw [HE.out]
      simpa only [List.append_assoc, List.append_nil] using h1)
    go_wp2
    go_ret
    exact ⟨_, _, _, rfl, HF.out⟩
theorem re_5 (H : LO w 5 lo hi an nn cn ap np cp ar nr cr t) (hok : Okay t) (hl : (encL t).length ≤ 60000000000000) (IH : ∀ p ∈ t.ps, REP p) :
    Calls Try.prog 12 #[.agg #[.int .i64 5, .int .i64 lo, .int .i64 hi, .slice an nn cn, .slice ap np cp, .slice ar nr cr]] w (EQ t w) := by
  have hk : t.k = 5 := H.hk.symm
  have hN := hok.node
  have HA := hid_of (bel_alloc w (.cells #[.int .i64 5, .int .i64 lo, .int .i64 hi, .slice an nn cn, .slice ap np cp, .slice ar nr cr] 26))
  have HBX : Hid (∀ W, Below (w.alloc (.cells #[.int .i64 5, .int .i64 lo, .int .i64 hi, .slice an nn cn, .slice ap np cp, .slice ar nr cr] 26)).heap.size (w.alloc (.cells #[.int .i64 5, .int .i64 lo, .int .i64 hi, .slice an nn cn, .slice ap np cp, .slice ar nr cr] 26)) W → _) := hid_of (fun W h => box6 5 lo hi an nn cn ap np cp ar nr cr h)
  have HE : Hid (encL t = Wr.enc 5 ++ (nsE t.ns ++ encLs t.ps)) := hid_of (by
    rw [encL_k, hk, if_neg (by decide : ¬((5 : Int) = 2 ∨ (5 : Int) = 3)), if_neg (by decide : ¬((5 : Int) = 4 ∨ (5 : Int) = 8)), if_pos (by decide : (5 : Int) = 5)]
    rfl)
  have HL : Hid ((Wr.enc 5).length + ((nsE t.ns ++ encLs t.ps)).length ≤ 60000000000000) := hid_of (by
    have h1 := hl
    rw [HE.out, List.length_append] at h1
    omega)
  have C0 : Hid (Calls Try.prog 32 #[.slice none 0 0, .int .u64 5] (w.alloc (.cells #[.int .i64 5, .int .i64 lo, .int .i64 hi, .slice an nn cn, .slice ap np cp, .slice ar nr cr] 26)) (EP (w.alloc (.cells #[.int .i64 5, .int .i64 lo, .int .i64 hi, .slice an nn cn, .slice ap np cp, .slice ar nr cr] 26)) (w.alloc (.cells #[.int .i64 5, .int .i64 lo, .int .i64 hi, .slice an nn cn, .slice ap np cp, .slice ar nr cr] 26)) (Wr.enc 5))) := hid_of (by
    have h1 := fuint_eo 5 (eo_nil (w.alloc (.cells #[.int .i64 5, .int .i64 lo, .int .i64 hi, .slice an nn cn, .slice ap np cp, .slice ar nr cr] 26))) (by simp) (by omega)
    rwa [List.nil_append] at h1)
  have CN : Hid (∀ w1 y k c, EO (w.alloc (.cells #[.int .i64 5, .int .i64 lo, .int .i64 hi, .slice an nn cn, .slice ap np cp, .slice ar nr cr] 26)) w1 (.slice y k c) (Wr.enc 5) → Calls Try.prog 34 #[.slice y k c, .slice an nn cn] w1 (EP (w.alloc (.cells #[.int .i64 5, .int .i64 lo, .int .i64 hi, .slice an nn cn, .slice ap np cp, .slice ar nr cr] 26)) w1 (Wr.enc 5 ++ nsE t.ns))) := hid_of (fun w1 y k c h => texts_eo t.ns h (H.n.at (HA.out.trans (h.bel.mono HA.out.size))) hN.nm (by have := hN.nl; omega) (by have := HL.out; (try simp only [List.length_append] at this ⊢); omega))
  have hnp2 : np ≤ 2 := by have := H.lp; have := shape_5 hN.shape hk; omega
  have HPT : Hid (∀ j, j < np → ∃ g o pk plo phi pan pnn pcn pap pnp pcp par pnr pcr p, ap = some ⟨g, o, none⟩ ∧ (t.ps[j]? = some p ∧ (encL p).length ≤ 60000000000000 ∧ encLs (t.ps.take j) ++ encL p = encLs (t.ps.take (j + 1)) ∧ (encLs (t.ps.take j)).length + (encL p).length ≤ (encLs t.ps).length) ∧ LO w pk plo phi pan pnn pcn pap pnp pcp par pnr pcr p ∧ REP p ∧ np ≤ cp ∧ cp ≤ 9223372036854775807 ∧
      Hid (∀ w', Below w.heap.size w w' → w'.cell? ⟨g, o + j * 6, none⟩ = some (.int .i64 pk) ∧ w'.cell? ⟨g, o + j * 6 + 1, none⟩ = some (.int .i64 plo) ∧ w'.cell? ⟨g, o + j * 6 + 2, none⟩ = some (.int .i64 phi) ∧ w'.cell? ⟨g, o + j * 6 + 3, none⟩ = some (.slice pan pnn pcn) ∧ w'.cell? ⟨g, o + j * 6 + 4, none⟩ = some (.slice pap pnp pcp) ∧ w'.cell? ⟨g, o + j * 6 + 5, none⟩ = some (.slice par pnr pcr))) := hid_of (fun j hj => by
    have hlp := H.lp
    obtain ⟨p, hp⟩ : ∃ p, t.ps[j]? = some p := ⟨_, List.getElem?_eq_getElem (by omega)⟩
    obtain ⟨g, o, pk, plo, phi, pan, pnn, pcn, pap, pnp, pcp, par, pnr, pcr, e1, PO, PC⟩ := H.p.get hp
    have e9 := encLs_snoc t.ps j p hp
    have e8 := encLs_pre t.ps (j + 1)
    rw [e9] at e8
    simp only [List.length_append] at e8
    have e7 := HL.out
    (try simp only [List.length_append] at e7)
    refine ⟨g, o, pk, plo, phi, pan, pnn, pcn, pap, pnp, pcp, par, pnr, pcr, p, e1, ⟨hp, by omega, e9.symm, by omega⟩, PO, IH p (List.mem_of_getElem? hp), (LDs.len H.p).2.1, (LDs.len H.p).2.2, hid_of fun w' hw => PC w' hw⟩)
  have HNP := hid_of H.lp
  clear H hok hl IH hk hN
  go_enter Try.func12, Try.ntmps12
  go_wp2_with (first
    | (go_at_call 32; ((with_reducible refine (C0.out).mono ?_); (rintro e w1 ⟨y1, k1, c1, rfl, q1, q2⟩)); have O1 := hid_of q1; obtain ⟨a0, a1, a2, a3, a4, a5⟩ := HBX.out w1 q1.bel; clear q1 q2)
    | (go_at_call 34; ((with_reducible refine (CN.out w1 _ _ _ O1.out).mono ?_); (rintro e w2 ⟨y2, k2, c2, rfl, q1, q2⟩)); have O2 := hid_of q1; obtain ⟨b0, b1, b2, b3, b4, b5⟩ := HBX.out w2 q1.bel; clear q1 q2))
  go_loopw [3, 4] (fun ov iv wr => ∃ (j : Nat) (oo : Option Addr) (on oc : Nat), ov = .slice oo on oc ∧ j ≤ np ∧ iv = .int .i64 j ∧ Hid (EO (w.alloc (.cells #[.int .i64 5, .int .i64 lo, .int .i64 hi, .slice an nn cn, .slice ap np cp, .slice ar nr cr] 26)) wr (.slice oo on oc) (Wr.enc 5 ++ nsE t.ns ++ encLs (t.ps.take j)))) (fun _ iv _ => np - (intOf iv).toNat)
  case atStart => exact ⟨0, _, _, _, rfl, Nat.zero_le _, rfl, hid_of (by rw [List.take_zero, encLs_nil, List.append_nil]; exact O2.out)⟩
  case round =>
    obtain ⟨j, oo, on2, oc, rfl, hj, rfl, hk⟩ := hrel
    by_cases hlt : j < np
    · have hd : decide (j < np) = true := by simp; omega
      have b0 : (0 : Int) ≤ (j : Int) := by omega
      have b1 : (j : Int) < (np : Int) := by omega
      obtain ⟨g, o, pk, plo, phi, pan, pnn, pcn, pap, pnp, pcp, par, pnr, pcr, p, rfl, hpp, PO, IHp, hcp, hcp9, HC⟩ := HPT.out j hlt
      have HPP := hid_of hpp

      have HLB : Hid ((Wr.enc 5 ++ nsE t.ns ++ encLs (t.ps.take j)).length + (encL p).length ≤ 60000000000000) := hid_of (by
        have h1 := HL.out
        have h2 := HPP.out.2.2.2
        (try simp only [List.length_append] at h1 h2 ⊢)
        omega)
      have CE : Hid (∀ W, Below w.heap.size w W → Calls Try.prog 12 #[.agg #[.int .i64 pk, .int .i64 plo, .int .i64 phi, .slice pan pnn pcn, .slice pap pnp pcp, .slice par pnr pcr]] W (EQ p W)) := hid_of (fun W hW => IHp pk plo phi pan pnn pcn pap pnp pcp par pnr pcr W (PO.at hW) HPP.out.2.1)
      have HBW : Hid (Below w.heap.size w wr) := hid_of (HA.out.trans (hk.out.bel.mono HA.out.size))
      obtain ⟨y0, y1, y2, y3, y4, y5⟩ := HBX.out wr hk.out.bel
      obtain ⟨z0, z1, z2, z3, z4, z5⟩ := HC.out wr HBW.out
      clear hpp
      go_wp2_with (first
        | (go_at_call 12; ((with_reducible refine (CE.out wr HBW.out).mono ?_); (rintro e w4 ⟨y4, k4, c4, rfl, q1⟩)); have O4 := hid_of (hk.out.later q1.bel); have R4 := hid_of (q1.rdd (by have := HLB.out; omega)); clear q1)
        | (at_builtin; (refine wpList_app u8E rfl (.tmp 56) (.tmp 62) rfl (v := .slice oo on2 oc) (l := Wr.bs (Wr.enc 5 ++ nsE t.ns ++ encLs (t.ps.take j))) rfl O4.out (vx := .slice y4 k4 c4) (m := Wr.bs (encL p)) rfl R4.out (bs_cells _) (by have := HLB.out; rw [bs_len, bs_len]; omega) (by have := HLB.out; rw [bs_len, bs_len]; omega) ?_); intro ao5 n5 cap5 w5 hn5 h5; have HN5 := hid_of hn5; have O5 := hid_of h5; clear h5 hn5))
      go_roundw
      case rel => exact ⟨j + 1, _, _, _, rfl, by omega, by go_num, hid_of (by
        have h5 := O5.out
        rw [← bs_app] at h5
        rw [← HPP.out.2.2.1]
        unfold EO
        simpa only [List.append_assoc] using h5)⟩
      case measure => simp [intOf]; omega
    · have hd : decide (j < np) = false := by simp; omega
      have HF : Hid (EO w wr (.slice oo on2 oc) (encL t)) := hid_of (by
        have h1 := eo_of_alloc hk.out
        rw [List.take_of_length_le (by have := HNP.out; omega)] at h1
        rw [HE.out]
        simpa only [List.append_assoc] using h1)
      obtain ⟨y0, y1, y2, y3, y4, y5⟩ := HBX.out wr hk.out.bel
      go_wp2
      go_ret
      exact ⟨_, _, _, rfl, HF.out⟩
theorem re_6 (H : LO w 6 lo hi an nn cn ap np cp ar nr cr t) (hok : Okay t) (hl : (encL t).length ≤ 60000000000000) (IH : ∀ p ∈ t.ps, REP p) :
    Calls Try.prog 12 #[.agg #[.int .i64 6, .int .i64 lo, .int .i64 hi, .slice an nn cn, .slice ap np cp, .slice ar nr cr]] w (EQ t w) := by
  have hk : t.k = 6 := H.hk.symm
  have hN := hok.node
  have HA := hid_of (bel_alloc w (.cells #[.int .i64 6, .int .i64 lo, .int .i64 hi, .slice an nn cn, .slice ap np cp, .slice ar nr cr] 26))
  have HBX : Hid (∀ W, Below (w.alloc (.cells #[.int .i64 6, .int .i64 lo, .int .i64 hi, .slice an nn cn, .slice ap np cp, .slice ar nr cr] 26)).heap.size (w.alloc (.cells #[.int .i64 6, .int .i64 lo, .int .i64 hi, .slice an nn cn, .slice ap np cp, .slice ar nr cr] 26)) W → _) := hid_of (fun W h => box6 6 lo hi an nn cn ap np cp ar nr cr h)
  have HE : Hid (encL t = Wr.enc 6 ++ (Wr.enc nn ++ encPs t.ns t.ps)) := hid_of (by
    rw [encL_k, hk, if_neg (by decide : ¬((6 : Int) = 2 ∨ (6 : Int) = 3)), if_neg (by decide : ¬((6 : Int) = 4 ∨ (6 : Int) = 8)), if_neg (by decide : ¬((6 : Int) = 5)), if_pos (by decide : (6 : Int) = 6), ← H.ln]
    rfl)
  have HL : Hid ((Wr.enc 6).length + ((Wr.enc nn ++ encPs t.ns t.ps)).length ≤ 60000000000000) := hid_of (by
    have h1 := hl
    rw [HE.out, List.length_append] at h1
    omega)
  have C0 : Hid (Calls Try.prog 32 #[.slice none 0 0, .int .u64 6] (w.alloc (.cells #[.int .i64 6, .int .i64 lo, .int .i64 hi, .slice an nn cn, .slice ap np cp, .slice ar nr cr] 26)) (EP (w.alloc (.cells #[.int .i64 6, .int .i64 lo, .int .i64 hi, .slice an nn cn, .slice ap np cp, .slice ar nr cr] 26)) (w.alloc (.cells #[.int .i64 6, .int .i64 lo, .int .i64 hi, .slice an nn cn, .slice ap np cp, .slice ar nr cr] 26)) (Wr.enc 6))) := hid_of (by
    have h1 := fuint_eo 6 (eo_nil (w.alloc (.cells #[.int .i64 6, .int .i64 lo, .int .i64 hi, .slice an nn cn, .slice ap np cp, .slice ar nr cr] 26))) (by simp) (by omega)
    rwa [List.nil_append] at h1)
  have hps := shape_6 hN.shape hk
  have hnn8 : nn ≤ 8 := by have := hN.pl hk; have := H.ln; omega
  have hnpn : np = nn := by have := H.lp; have := H.ln; omega
  have CU : Hid (∀ w1 y k c, EO (w.alloc (.cells #[.int .i64 6, .int .i64 lo, .int .i64 hi, .slice an nn cn, .slice ap np cp, .slice ar nr cr] 26)) w1 (.slice y k c) (Wr.enc 6) → Calls Try.prog 32 #[.slice y k c, .int .u64 nn] w1 (EP (w.alloc (.cells #[.int .i64 6, .int .i64 lo, .int .i64 hi, .slice an nn cn, .slice ap np cp, .slice ar nr cr] 26)) w1 (Wr.enc 6 ++ Wr.enc nn))) := hid_of (fun w1 y k c h => fuint_eo nn h (by have := HL.out; (try simp only [List.length_append] at this ⊢); omega) (by omega))
  have HPT : Hid (∀ j, j < np → ∃ gn on x bx g o pk plo phi pan pnn pcn pap pnp pcp par pnr pcr p, an = some ⟨gn, on, none⟩ ∧ (t.ns[j]? = some x ∧ x.length ≤ 16 ∧ bx = ba x) ∧ nn ≤ cn ∧ ap = some ⟨g, o, none⟩ ∧ (t.ps[j]? = some p ∧ (encL p).length ≤ 60000000000000 ∧ encPs (t.ns.take j) (t.ps.take j) ++ (txE x ++ encL p) = encPs (t.ns.take (j + 1)) (t.ps.take (j + 1)) ∧ (encPs (t.ns.take j) (t.ps.take j)).length + ((txE x).length + (encL p).length) ≤ (encPs t.ns t.ps).length) ∧ LO w pk plo phi pan pnn pcn pap pnp pcp par pnr pcr p ∧ REP p ∧ np ≤ cp ∧ cp ≤ 9223372036854775807 ∧
      Hid (∀ w', Below w.heap.size w w' → w'.cell? ⟨gn, on + j, none⟩ = some (.string bx) ∧ w'.cell? ⟨g, o + j * 6, none⟩ = some (.int .i64 pk) ∧ w'.cell? ⟨g, o + j * 6 + 1, none⟩ = some (.int .i64 plo) ∧ w'.cell? ⟨g, o + j * 6 + 2, none⟩ = some (.int .i64 phi) ∧ w'.cell? ⟨g, o + j * 6 + 3, none⟩ = some (.slice pan pnn pcn) ∧ w'.cell? ⟨g, o + j * 6 + 4, none⟩ = some (.slice pap pnp pcp) ∧ w'.cell? ⟨g, o + j * 6 + 5, none⟩ = some (.slice par pnr pcr))) := hid_of (fun j hj => by
    have hlp := H.lp
    have hln := H.ln
    obtain ⟨x, hx⟩ : ∃ x, t.ns[j]? = some x := ⟨_, List.getElem?_eq_getElem (by omega)⟩
    obtain ⟨p, hp⟩ : ∃ p, t.ps[j]? = some p := ⟨_, List.getElem?_eq_getElem (by omega)⟩
    obtain ⟨g, o, pk, plo, phi, pan, pnn, pcn, pap, pnp, pcp, par, pnr, pcr, e1, PO, PC⟩ := H.p.get hp
    obtain ⟨_, q1, q2, q3⟩ := rds_open H.n
    obtain ⟨gn, on, e2, hg, hc⟩ := q3.resolve_left (fun e => by rw [e] at hx; simp at hx)
    have e9 := encPs_snoc t.ns t.ps j x p hx hp
    have e8 := encPs_pre t.ns t.ps (j + 1) (by omega) (by omega)
    rw [e9] at e8
    simp only [List.length_append] at e8
    have e7 := HL.out
    simp only [List.length_append] at e7
    refine ⟨gn, on, x, _, g, o, pk, plo, phi, pan, pnn, pcn, pap, pnp, pcp, par, pnr, pcr, p, e2, ⟨hx, hN.nm x (List.mem_of_getElem? hx), rfl⟩, q1, e1, ⟨hp, by omega, e9.symm, by omega⟩, PO, IH p (List.mem_of_getElem? hp), (LDs.len H.p).2.1, (LDs.len H.p).2.2, hid_of fun w' hw => ⟨(hw.cell (p := ⟨gn, on + j, none⟩) hg).trans (hc j x hx), PC w' hw⟩⟩)
  have HNP := hid_of H.lp
  have HNN := hid_of H.ln
  subst hnpn
  clear H hok hl IH hk hN hps
  go_enter Try.func12, Try.ntmps12
  go_wp2_with (first
    | (go_at_call 32; ((with_reducible refine (C0.out).mono ?_); (rintro e w1 ⟨y1, k1, c1, rfl, q1, q2⟩)); have O1 := hid_of q1; obtain ⟨a0, a1, a2, a3, a4, a5⟩ := HBX.out w1 q1.bel; clear q1 q2)
    | (go_at_call 32; ((with_reducible refine (CU.out w1 _ _ _ O1.out).mono ?_); (rintro e w2 ⟨y2, k2, c2, rfl, q1, q2⟩)); have O2 := hid_of q1; obtain ⟨b0, b1, b2, b3, b4, b5⟩ := HBX.out w2 q1.bel; clear q1 q2))
  go_loopw [3, 4] (fun ov iv wr => ∃ (j : Nat) (oo : Option Addr) (on oc : Nat), ov = .slice oo on oc ∧ j ≤ np ∧ iv = .int .i64 j ∧ Hid (EO (w.alloc (.cells #[.int .i64 6, .int .i64 lo, .int .i64 hi, .slice an np cn, .slice ap np cp, .slice ar nr cr] 26)) wr (.slice oo on oc) (Wr.enc 6 ++ Wr.enc np ++ encPs (t.ns.take j) (t.ps.take j)))) (fun _ iv _ => np - (intOf iv).toNat)
  case atStart => exact ⟨0, _, _, _, rfl, Nat.zero_le _, rfl, hid_of (by rw [List.take_zero, List.take_zero, encPs_nil, List.append_nil]; exact O2.out)⟩
  case round =>
    obtain ⟨j, oo, on2, oc, rfl, hj, rfl, hk⟩ := hrel
    by_cases hlt : j < np
    · have hd : decide (j < np) = true := by simp; omega
      have b0 : (0 : Int) ≤ (j : Int) := by omega
      have b1 : (j : Int) < (np : Int) := by omega
      obtain ⟨gn, on, x, bx, g, o, pk, plo, phi, pan, pnn, pcn, pap, pnp, pcp, par, pnr, pcr, p, rfl, hxp, hcn, rfl, hpp, PO, IHp, hcp, hcp9, HC⟩ := HPT.out j hlt
      have HPP := hid_of hpp
      have HXP := hid_of hxp
      have HLB : Hid ((Wr.enc 6 ++ Wr.enc np ++ encPs (t.ns.take j) (t.ps.take j) ++ txE x).length + (encL p).length ≤ 60000000000000) := hid_of (by
        have h1 := HL.out
        have h2 := HPP.out.2.2.2
        (try simp only [List.length_append] at h1 h2 ⊢)
        omega)
      have CE : Hid (∀ W, Below w.heap.size w W → Calls Try.prog 12 #[.agg #[.int .i64 pk, .int .i64 plo, .int .i64 phi, .slice pan pnn pcn, .slice pap pnp pcp, .slice par pnr pcr]] W (EQ p W)) := hid_of (fun W hW => IHp pk plo phi pan pnn pcn pap pnp pcp par pnr pcr W (PO.at hW) HPP.out.2.1)
      have HBW : Hid (Below w.heap.size w wr) := hid_of (HA.out.trans (hk.out.bel.mono HA.out.size))
      obtain ⟨y0, y1, y2, y3, y4, y5⟩ := HBX.out wr hk.out.bel
      obtain ⟨z6, z0, z1, z2, z3, z4, z5⟩ := HC.out wr HBW.out
      have CT := hid_of (ftext_eo x bx HXP.out.2.2 hk.out (by have := HLB.out; simp only [List.length_append] at this ⊢; omega) HXP.out.2.1)
      clear hxp hpp
      go_wp2_with (first
        | (go_at_call 35; ((with_reducible refine (CT.out).mono ?_); (rintro e w3 ⟨y3, k3, c3, rfl, q1, q2⟩)); have O3 := hid_of q1; obtain ⟨d0, d1, d2, d3, d4, d5⟩ := HBX.out w3 q1.bel; have HB3 : Hid (Below w.heap.size w w3) := hid_of (HA.out.trans (q1.bel.mono HA.out.size)); obtain ⟨u6, u0, u1, u2, u3, u4, u5⟩ := HC.out w3 HB3.out; clear q1 q2)
        | (go_at_call 12; ((with_reducible refine (CE.out w3 HB3.out).mono ?_); (rintro e w4 ⟨y4, k4, c4, rfl, q1⟩)); have O4 := hid_of (O3.out.later q1.bel); have R4 := hid_of (q1.rdd (by have := HLB.out; omega)); clear q1)
        | (at_builtin; (refine wpList_app u8E rfl (.tmp 56) (.tmp 62) rfl (v := .slice y3 k3 c3) (l := Wr.bs (Wr.enc 6 ++ Wr.enc np ++ encPs (t.ns.take j) (t.ps.take j) ++ txE x)) rfl O4.out (vx := .slice y4 k4 c4) (m := Wr.bs (encL p)) rfl R4.out (bs_cells _) (by have := HLB.out; rw [bs_len, bs_len]; omega) (by have := HLB.out; rw [bs_len, bs_len]; omega) ?_); intro ao5 n5 cap5 w5 hn5 h5; have HN5 := hid_of hn5; have O5 := hid_of h5; clear h5 hn5))
      go_roundw
      case rel => exact ⟨j + 1, _, _, _, rfl, by omega, by go_num, hid_of (by
        have h5 := O5.out
        rw [← bs_app] at h5
        rw [← HPP.out.2.2.1]
        unfold EO
        simpa only [List.append_assoc] using h5)⟩
      case measure => simp [intOf]; omega
    · have hd : decide (j < np) = false := by simp; omega
      have HF : Hid (EO w wr (.slice oo on2 oc) (encL t)) := hid_of (by
        have h1 := eo_of_alloc hk.out
        rw [List.take_of_length_le (by have := HNN.out; omega), List.take_of_length_le (by have := HNP.out; omega)] at h1
        rw [HE.out]
        simpa only [List.append_assoc] using h1)
      obtain ⟨y0, y1, y2, y3, y4, y5⟩ := HBX.out wr hk.out.bel
      go_wp2
      go_ret
      exact ⟨_, _, _, rfl, HF.out⟩
theorem re_7 (H : LO w 7 lo hi an nn cn ap np cp ar nr cr t) (hok : Okay t) (hl : (encL t).length ≤ 60000000000000) (IH : ∀ p ∈ t.ps, REP p) :
    Calls Try.prog 12 #[.agg #[.int .i64 7, .int .i64 lo, .int .i64 hi, .slice an nn cn, .slice ap np cp, .slice ar nr cr]] w (EQ t w) := by
  have hk : t.k = 7 := H.hk.symm
  have hN := hok.node
  have HA := hid_of (bel_alloc w (.cells #[.int .i64 7, .int .i64 lo, .int .i64 hi, .slice an nn cn, .slice ap np cp, .slice ar nr cr] 26))
  have HBX : Hid (∀ W, Below (w.alloc (.cells #[.int .i64 7, .int .i64 lo, .int .i64 hi, .slice an nn cn, .slice ap np cp, .slice ar nr cr] 26)).heap.size (w.alloc (.cells #[.int .i64 7, .int .i64 lo, .int .i64 hi, .slice an nn cn, .slice ap np cp, .slice ar nr cr] 26)) W → _) := hid_of (fun W h => box6 7 lo hi an nn cn ap np cp ar nr cr h)
  have HE : Hid (encL t = Wr.enc 7 ++ encLs t.ps) := hid_of (by
    rw [encL_k, hk, if_neg (by decide : ¬((7 : Int) = 2 ∨ (7 : Int) = 3)), if_neg (by decide : ¬((7 : Int) = 4 ∨ (7 : Int) = 8)), if_neg (by decide : ¬((7 : Int) = 5)), if_neg (by decide : ¬((7 : Int) = 6)), if_pos (by decide : (7 : Int) = 7)]
    rfl)
  have HL : Hid ((Wr.enc 7).length + (encLs t.ps).length ≤ 60000000000000) := hid_of (by
    have h1 := hl
    rw [HE.out, List.length_append] at h1
    omega)
  have C0 : Hid (Calls Try.prog 32 #[.slice none 0 0, .int .u64 7] (w.alloc (.cells #[.int .i64 7, .int .i64 lo, .int .i64 hi, .slice an nn cn, .slice ap np cp, .slice ar nr cr] 26)) (EP (w.alloc (.cells #[.int .i64 7, .int .i64 lo, .int .i64 hi, .slice an nn cn, .slice ap np cp, .slice ar nr cr] 26)) (w.alloc (.cells #[.int .i64 7, .int .i64 lo, .int .i64 hi, .slice an nn cn, .slice ap np cp, .slice ar nr cr] 26)) (Wr.enc 7))) := hid_of (by
    have h1 := fuint_eo 7 (eo_nil (w.alloc (.cells #[.int .i64 7, .int .i64 lo, .int .i64 hi, .slice an nn cn, .slice ap np cp, .slice ar nr cr] 26))) (by simp) (by omega)
    rwa [List.nil_append] at h1)
  have hnp2 : np ≤ 2 := by have := H.lp; have := shape_7 hN.shape hk; omega
  have HPT : Hid (∀ j, j < np → ∃ g o pk plo phi pan pnn pcn pap pnp pcp par pnr pcr p, ap = some ⟨g, o, none⟩ ∧ (t.ps[j]? = some p ∧ (encL p).length ≤ 60000000000000 ∧ encLs (t.ps.take j) ++ encL p = encLs (t.ps.take (j + 1)) ∧ (encLs (t.ps.take j)).length + (encL p).length ≤ (encLs t.ps).length) ∧ LO w pk plo phi pan pnn pcn pap pnp pcp par pnr pcr p ∧ REP p ∧ np ≤ cp ∧ cp ≤ 9223372036854775807 ∧
      Hid (∀ w', Below w.heap.size w w' → w'.cell? ⟨g, o + j * 6, none⟩ = some (.int .i64 pk) ∧ w'.cell? ⟨g, o + j * 6 + 1, none⟩ = some (.int .i64 plo) ∧ w'.cell? ⟨g, o + j * 6 + 2, none⟩ = some (.int .i64 phi) ∧ w'.cell? ⟨g, o + j * 6 + 3, none⟩ = some (.slice pan pnn pcn) ∧ w'.cell? ⟨g, o + j * 6 + 4, none⟩ = some (.slice pap pnp pcp) ∧ w'.cell? ⟨g, o + j * 6 + 5, none⟩ = some (.slice par pnr pcr))) := hid_of (fun j hj => by
    have hlp := H.lp
    obtain ⟨p, hp⟩ : ∃ p, t.ps[j]? = some p := ⟨_, List.getElem?_eq_getElem (by omega)⟩
    obtain ⟨g, o, pk, plo, phi, pan, pnn, pcn, pap, pnp, pcp, par, pnr, pcr, e1, PO, PC⟩ := H.p.get hp
    have e9 := encLs_snoc t.ps j p hp
    have e8 := encLs_pre t.ps (j + 1)
    rw [e9] at e8
    simp only [List.length_append] at e8
    have e7 := HL.out
    (try simp only [List.length_append] at e7)
    refine ⟨g, o, pk, plo, phi, pan, pnn, pcn, pap, pnp, pcp, par, pnr, pcr, p, e1, ⟨hp, by omega, e9.symm, by omega⟩, PO, IH p (List.mem_of_getElem? hp), (LDs.len H.p).2.1, (LDs.len H.p).2.2, hid_of fun w' hw => PC w' hw⟩)
  have HNP := hid_of H.lp
  clear H hok hl IH hk hN
  go_enter Try.func12, Try.ntmps12
  go_wp2_with (first
    | (go_at_call 32; ((with_reducible refine (C0.out).mono ?_); (rintro e w1 ⟨y1, k1, c1, rfl, q1, q2⟩)); have O1 := hid_of q1; obtain ⟨a0, a1, a2, a3, a4, a5⟩ := HBX.out w1 q1.bel; clear q1 q2))
  go_loopw [3, 4] (fun ov iv wr => ∃ (j : Nat) (oo : Option Addr) (on oc : Nat), ov = .slice oo on oc ∧ j ≤ np ∧ iv = .int .i64 j ∧ Hid (EO (w.alloc (.cells #[.int .i64 7, .int .i64 lo, .int .i64 hi, .slice an nn cn, .slice ap np cp, .slice ar nr cr] 26)) wr (.slice oo on oc) (Wr.enc 7 ++ encLs (t.ps.take j)))) (fun _ iv _ => np - (intOf iv).toNat)
  case atStart => exact ⟨0, _, _, _, rfl, Nat.zero_le _, rfl, hid_of (by rw [List.take_zero, encLs_nil, List.append_nil]; exact O1.out)⟩
  case round =>
    obtain ⟨j, oo, on2, oc, rfl, hj, rfl, hk⟩ := hrel
    by_cases hlt : j < np
    · have hd : decide (j < np) = true := by simp; omega
      have b0 : (0 : Int) ≤ (j : Int) := by omega
      have b1 : (j : Int) < (np : Int) := by omega
      obtain ⟨g, o, pk, plo, phi, pan, pnn, pcn, pap, pnp, pcp, par, pnr, pcr, p, rfl, hpp, PO, IHp, hcp, hcp9, HC⟩ := HPT.out j hlt
      have HPP := hid_of hpp

      have HLB : Hid ((Wr.enc 7 ++ encLs (t.ps.take j)).length + (encL p).length ≤ 60000000000000) := hid_of (by
        have h1 := HL.out
        have h2 := HPP.out.2.2.2
        (try simp only [List.length_append] at h1 h2 ⊢)
        omega)
      have CE : Hid (∀ W, Below w.heap.size w W → Calls Try.prog 12 #[.agg #[.int .i64 pk, .int .i64 plo, .int .i64 phi, .slice pan pnn pcn, .slice pap pnp pcp, .slice par pnr pcr]] W (EQ p W)) := hid_of (fun W hW => IHp pk plo phi pan pnn pcn pap pnp pcp par pnr pcr W (PO.at hW) HPP.out.2.1)
      have HBW : Hid (Below w.heap.size w wr) := hid_of (HA.out.trans (hk.out.bel.mono HA.out.size))
      obtain ⟨y0, y1, y2, y3, y4, y5⟩ := HBX.out wr hk.out.bel
      obtain ⟨z0, z1, z2, z3, z4, z5⟩ := HC.out wr HBW.out
      clear hpp
      go_wp2_with (first
        | (go_at_call 12; ((with_reducible refine (CE.out wr HBW.out).mono ?_); (rintro e w4 ⟨y4, k4, c4, rfl, q1⟩)); have O4 := hid_of (hk.out.later q1.bel); have R4 := hid_of (q1.rdd (by have := HLB.out; omega)); clear q1)
        | (at_builtin; (refine wpList_app u8E rfl (.tmp 56) (.tmp 62) rfl (v := .slice oo on2 oc) (l := Wr.bs (Wr.enc 7 ++ encLs (t.ps.take j))) rfl O4.out (vx := .slice y4 k4 c4) (m := Wr.bs (encL p)) rfl R4.out (bs_cells _) (by have := HLB.out; rw [bs_len, bs_len]; omega) (by have := HLB.out; rw [bs_len, bs_len]; omega) ?_); intro ao5 n5 cap5 w5 hn5 h5; have HN5 := hid_of hn5; have O5 := hid_of h5; clear h5 hn5))
      go_roundw
      case rel => exact ⟨j + 1, _, _, _, rfl, by omega, by go_num, hid_of (by
        have h5 := O5.out
        rw [← bs_app] at h5
        rw [← HPP.out.2.2.1]
        unfold EO
        simpa only [List.append_assoc] using h5)⟩
      case measure => simp [intOf]; omega
    · have hd : decide (j < np) = false := by simp; omega
      have HF : Hid (EO w wr (.slice oo on2 oc) (encL t)) := hid_of (by
        have h1 := eo_of_alloc hk.out
        rw [List.take_of_length_le (by have := HNP.out; omega)] at h1
        rw [HE.out]
        simpa only [List.append_assoc] using h1)
      obtain ⟨y0, y1, y2, y3, y4, y5⟩ := HBX.out wr hk.out.bel
      go_wp2
      go_ret
      exact ⟨_, _, _, rfl, HF.out⟩
theorem re_10 (H : LO w 10 lo hi an nn cn ap 0 cp ar nr cr t) (hok : Okay t) (hl : (encL t).length ≤ 60000000000000) (IH : ∀ p ∈ t.ps, REP p) :
    Calls Try.prog 12 #[.agg #[.int .i64 10, .int .i64 lo, .int .i64 hi, .slice an nn cn, .slice ap 0 cp, .slice ar nr cr]] w (EQ t w) := by
  have HRT : Hid (∀ j, j < nr → ∃ gr og a n c bx r, ar = some ⟨gr, og, none⟩ ∧ (t.rs[j]? = some r ∧ bx = ba r.2 ∧ SmR r ∧ Rd w (.slice a n c) (ss r.1)) ∧ nr ≤ cr ∧ cr ≤ 9223372036854775807 ∧ Hid (∀ w', Below w.heap.size w w' → w'.cell? ⟨gr, og + j * 2, none⟩ = some (.slice a n c) ∧ w'.cell? ⟨gr, og + j * 2 + 1, none⟩ = some (.string bx))) := hid_of (fun j hj => by
    have hlr := H.lr
    obtain ⟨rl, q1, q2, q3⟩ := H.r
    obtain ⟨c1, c2, c3⟩ := q1.cut
    obtain ⟨y, hy⟩ : ∃ y, rl[j]? = some y := ⟨_, List.getElem?_eq_getElem (by omega)⟩
    obtain ⟨r, hr⟩ : ∃ r, t.rs[j]? = some r := ⟨_, List.getElem?_eq_getElem (by omega)⟩
    obtain ⟨k1, k2⟩ := q3 j y r hy hr
    obtain ⟨gr, og, e, d0, d1⟩ := q1.get hy
    obtain ⟨y1, y2⟩ := y
    simp only at k1 k2 d0 d1
    subst k2
    have k1' := k1
    obtain ⟨a, c, rfl, _⟩ := k1
    refine ⟨gr, og, a, _, c, _, r, e, ⟨hr, rfl, hok.node.ru r (List.mem_of_getElem? hr), k1'⟩, c2, c3, hid_of fun w' hw => ⟨(hw.cell (p := ⟨gr, og + j * 2, none⟩) (World.block_lt_of_cell? _ _ d0)).trans d0, (hw.cell (p := ⟨gr, og + j * 2 + 1, none⟩) (World.block_lt_of_cell? _ _ d1)).trans d1⟩⟩)
  have HNR := hid_of H.lr
  have hnr32 : nr ≤ 32 := by have := hok.node.rl; have := H.lr; omega
  have hk : t.k = 10 := H.hk.symm
  have hN := hok.node
  have HA := hid_of (bel_alloc w (.cells #[.int .i64 10, .int .i64 lo, .int .i64 hi, .slice an nn cn, .slice ap 0 cp, .slice ar nr cr] 26))
  have HBX : Hid (∀ W, Below (w.alloc (.cells #[.int .i64 10, .int .i64 lo, .int .i64 hi, .slice an nn cn, .slice ap 0 cp, .slice ar nr cr] 26)).heap.size (w.alloc (.cells #[.int .i64 10, .int .i64 lo, .int .i64 hi, .slice an nn cn, .slice ap 0 cp, .slice ar nr cr] 26)) W → _) := hid_of (fun W h => box6 10 lo hi an nn cn ap 0 cp ar nr cr h)
  have HE : Hid (encL t = Wr.enc 10 ++ (nsE t.ns ++ (Wr.enc nr ++ t.rs.flatMap ruE1))) := hid_of (by
    rw [encL_k, hk, if_neg (by decide : ¬((10 : Int) = 2 ∨ (10 : Int) = 3)), if_neg (by decide : ¬((10 : Int) = 4 ∨ (10 : Int) = 8)), if_neg (by decide : ¬((10 : Int) = 5)), if_neg (by decide : ¬((10 : Int) = 6)), if_neg (by decide : ¬((10 : Int) = 7)), if_pos (by decide : (10 : Int) = 10)]
    rw [show rsE t.rs = Wr.enc nr ++ t.rs.flatMap ruE1 by rw [H.lr]; rfl]
    rfl)
  have HL : Hid ((Wr.enc 10).length + ((nsE t.ns ++ (Wr.enc nr ++ t.rs.flatMap ruE1))).length ≤ 60000000000000) := hid_of (by
    have h1 := hl
    rw [HE.out, List.length_append] at h1
    omega)
  have C0 : Hid (Calls Try.prog 32 #[.slice none 0 0, .int .u64 10] (w.alloc (.cells #[.int .i64 10, .int .i64 lo, .int .i64 hi, .slice an nn cn, .slice ap 0 cp, .slice ar nr cr] 26)) (EP (w.alloc (.cells #[.int .i64 10, .int .i64 lo, .int .i64 hi, .slice an nn cn, .slice ap 0 cp, .slice ar nr cr] 26)) (w.alloc (.cells #[.int .i64 10, .int .i64 lo, .int .i64 hi, .slice an nn cn, .slice ap 0 cp, .slice ar nr cr] 26)) (Wr.enc 10))) := hid_of (by
    have h1 := fuint_eo 10 (eo_nil (w.alloc (.cells #[.int .i64 10, .int .i64 lo, .int .i64 hi, .slice an nn cn, .slice ap 0 cp, .slice ar nr cr] 26))) (by simp) (by omega)
    rwa [List.nil_append] at h1)
  have CN : Hid (∀ w1 y k c, EO (w.alloc (.cells #[.int .i64 10, .int .i64 lo, .int .i64 hi, .slice an nn cn, .slice ap 0 cp, .slice ar nr cr] 26)) w1 (.slice y k c) (Wr.enc 10) → Calls Try.prog 34 #[.slice y k c, .slice an nn cn] w1 (EP (w.alloc (.cells #[.int .i64 10, .int .i64 lo, .int .i64 hi, .slice an nn cn, .slice ap 0 cp, .slice ar nr cr] 26)) w1 (Wr.enc 10 ++ nsE t.ns))) := hid_of (fun w1 y k c h => texts_eo t.ns h (H.n.at (HA.out.trans (h.bel.mono HA.out.size))) hN.nm (by have := hN.nl; omega) (by have := HL.out; (try simp only [List.length_append] at this ⊢); omega))
  have CU : Hid (∀ w1 y k c, EO (w.alloc (.cells #[.int .i64 10, .int .i64 lo, .int .i64 hi, .slice an nn cn, .slice ap 0 cp, .slice ar nr cr] 26)) w1 (.slice y k c) (Wr.enc 10 ++ nsE t.ns) → Calls Try.prog 32 #[.slice y k c, .int .u64 nr] w1 (EP (w.alloc (.cells #[.int .i64 10, .int .i64 lo, .int .i64 hi, .slice an nn cn, .slice ap 0 cp, .slice ar nr cr] 26)) w1 (Wr.enc 10 ++ nsE t.ns ++ Wr.enc nr))) := hid_of (fun w1 y k c h => fuint_eo nr h (by have := HL.out; (try simp only [List.length_append] at this ⊢); omega) (by omega))
  clear H hok hl IH hk hN
  go_enter Try.func12, Try.ntmps12
  go_wp2_with (first
    | (go_at_call 32; ((with_reducible refine (C0.out).mono ?_); (rintro e w1 ⟨y1, k1, c1, rfl, q1, q2⟩)); have O1 := hid_of q1; obtain ⟨a0, a1, a2, a3, a4, a5⟩ := HBX.out w1 q1.bel; clear q1 q2)
    | (go_at_call 34; ((with_reducible refine (CN.out w1 _ _ _ O1.out).mono ?_); (rintro e w2 ⟨y2, k2, c2, rfl, q1, q2⟩)); have O2 := hid_of q1; obtain ⟨b0, b1, b2, b3, b4, b5⟩ := HBX.out w2 q1.bel; clear q1 q2))
  go_loopw [3, 4] (fun ov iv wr => ∃ oo on oc, ov = .slice oo on oc ∧ iv = .int .i64 0 ∧ Hid (EO (w.alloc (.cells #[.int .i64 10, .int .i64 lo, .int .i64 hi, .slice an nn cn, .slice ap 0 cp, .slice ar nr cr] 26)) wr (.slice oo on oc) (Wr.enc 10 ++ nsE t.ns))) (fun _ _ _ => 0)
  case atStart => exact ⟨_, _, _, rfl, rfl, O2⟩
  case round =>
    obtain ⟨oo, on, oc, rfl, rfl, hk⟩ := hrel
    obtain ⟨y0, y1, y2, y3, y4, y5⟩ := HBX.out wr hk.out.bel
    go_wp2_with (go_at_call 32; ((with_reducible refine (CU.out wr _ _ _ hk.out).mono ?_); (rintro e w3 ⟨y3, k3, c3, rfl, q1, q2⟩)); have O3 := hid_of q1; obtain ⟨d0, d1, d2, d3, d4, d5⟩ := HBX.out w3 q1.bel; clear q1 q2)
    go_loopw [3, 5] (fun ov iv wr => ∃ (j : Nat) (oo : Option Addr) (on oc : Nat), ov = .slice oo on oc ∧ j ≤ nr ∧ iv = .int .i64 j ∧ Hid (EO (w.alloc (.cells #[.int .i64 10, .int .i64 lo, .int .i64 hi, .slice an nn cn, .slice ap 0 cp, .slice ar nr cr] 26)) wr (.slice oo on oc) (Wr.enc 10 ++ nsE t.ns ++ Wr.enc nr ++ (t.rs.take j).flatMap ruE1))) (fun _ iv _ => nr - (intOf iv).toNat)
    case atStart => exact ⟨0, _, _, _, rfl, Nat.zero_le _, rfl, hid_of (by rw [List.take_zero]; simpa using O3.out)⟩
    case round =>
      obtain ⟨j, oo2, on2, oc2, rfl, hj, rfl, hk2⟩ := hrel
      by_cases hlt : j < nr
      · have hd : decide (j < nr) = true := by simp; omega
        have b0 : (0 : Int) ≤ (j : Int) := by omega
        have b1 : (j : Int) < (nr : Int) := by omega
        obtain ⟨gr, og, a, n, c, bx, r, rfl, hxr, hcr, hcr9, HC⟩ := HRT.out j hlt
        have HXR := hid_of hxr
        have HBW : Hid (Below w.heap.size w wr) := hid_of (HA.out.trans (hk2.out.bel.mono HA.out.size))
        have HBL : Hid (((Wr.enc 10).length + (nsE t.ns).length + (Wr.enc nr).length + ((t.rs.take j).flatMap ruE1).length) + ((nsE r.1).length + (txE r.2).length) ≤ 60000000000000) := hid_of (by
          have h1 := HL.out
          have h2 := flat_take ruE1 t.rs (j + 1)
          rw [take_snocL HXR.out.1, List.flatMap_append, List.flatMap_singleton, List.length_append, show ruE1 r = nsE r.1 ++ txE r.2 from rfl, List.length_append] at h2
          simp only [List.length_append] at h1 h2 ⊢
          omega)
        have HNX : Hid (Wr.enc 10 ++ nsE t.ns ++ Wr.enc nr ++ (t.rs.take j).flatMap ruE1 ++ nsE r.1 ++ txE r.2 = Wr.enc 10 ++ nsE t.ns ++ Wr.enc nr ++ (t.rs.take (j + 1)).flatMap ruE1) := hid_of (by rw [take_snocL HXR.out.1, List.flatMap_append, List.flatMap_singleton, ruE1]; simp only [List.append_assoc])
        have D2 := hid_of hk2.out.drew
        have HR1 : Hid (Rd wr.drew (.slice a n c) (ss r.1)) := hid_of (HXR.out.2.2.2.at HBW.out.drew)
        have CN2 := hid_of (texts_eo r.1 D2.out HR1.out HXR.out.2.2.1.1.2 (by have := HXR.out.2.2.1.1.1; omega) (by have := HBL.out; simp only [List.length_append]; omega))
        have CT : Hid (∀ w5 y k c', EO (w.alloc (.cells #[.int .i64 10, .int .i64 lo, .int .i64 hi, .slice an nn cn, .slice ap 0 cp, .slice (some ⟨gr, og, none⟩) nr cr] 26)) w5 (.slice y k c') (Wr.enc 10 ++ nsE t.ns ++ Wr.enc nr ++ (t.rs.take j).flatMap ruE1 ++ nsE r.1) → _) := hid_of (fun w5 y k c' h => ftext_eo r.2 bx HXR.out.2.1 h (by have := HBL.out; simp only [List.length_append]; omega) HXR.out.2.2.1.2)
        have HKS : Hid (∀ X, Below (w.alloc (.cells #[.int .i64 10, .int .i64 lo, .int .i64 hi, .slice an nn cn, .slice ap 0 cp, .slice (some ⟨gr, og, none⟩) nr cr] 26)).heap.size (w.alloc (.cells #[.int .i64 10, .int .i64 lo, .int .i64 hi, .slice an nn cn, .slice ap 0 cp, .slice (some ⟨gr, og, none⟩) nr cr] 26)) X → X.cell? ⟨w.heap.size, 5, none⟩ = some (.slice (some ⟨gr, og, none⟩) nr cr) ∧ X.cell? ⟨gr, og + j * 2, none⟩ = some (.slice a n c) ∧ X.cell? ⟨gr, og + j * 2 + 1, none⟩ = some (.string bx)) := hid_of (fun X hX => ⟨(HBX.out X hX).2.2.2.2.2, (HC.out X (HA.out.trans (hX.mono HA.out.size))).1, (HC.out X (HA.out.trans (hX.mono HA.out.size))).2⟩)
        have K0 : Hid (Below (w.alloc (.cells #[.int .i64 10, .int .i64 lo, .int .i64 hi, .slice an nn cn, .slice ap 0 cp, .slice (some ⟨gr, og, none⟩) nr cr] 26)).heap.size (w.alloc (.cells #[.int .i64 10, .int .i64 lo, .int .i64 hi, .slice an nn cn, .slice ap 0 cp, .slice (some ⟨gr, og, none⟩) nr cr] 26)) wr) := hid_of hk2.out.bel
        have K1 : Hid (Below (w.alloc (.cells #[.int .i64 10, .int .i64 lo, .int .i64 hi, .slice an nn cn, .slice ap 0 cp, .slice (some ⟨gr, og, none⟩) nr cr] 26)).heap.size (w.alloc (.cells #[.int .i64 10, .int .i64 lo, .int .i64 hi, .slice an nn cn, .slice ap 0 cp, .slice (some ⟨gr, og, none⟩) nr cr] 26)) wr.drew) := hid_of hk2.out.bel.drew
        obtain ⟨y0, y1, y2, y3', y4, y5⟩ := HBX.out wr hk2.out.bel
        clear hxr
        go_wp2
        go_region_held3 (fun X => X.cell? ⟨w.heap.size, 5, none⟩ = some (.slice (some ⟨gr, og, none⟩) nr cr) ∧ X.cell? ⟨gr, og + j * 2, none⟩ = some (.slice a n c) ∧ X.cell? ⟨gr, og + j * 2 + 1, none⟩ = some (.string bx)) (exact HKS.out _ (Hid.out (by with_reducible assumption))) (first
          | (go_at_call 34; ((with_reducible refine (CN2.out).mono ?_); (rintro e w5 ⟨y5', k5, c5, rfl, q1, q2⟩)); have O5 := hid_of q1; have K5 := hid_of q1.bel; clear q1 q2)
          | (go_at_call 35; ((with_reducible refine (CT.out w5 _ _ _ O5.out).mono ?_); (rintro e w6 ⟨y6, k6, c6, rfl, q1, q2⟩)); have O6 := hid_of q1; have K6 := hid_of q1.bel; clear q1 q2))
        all_goals go_wp2
        all_goals go_roundw
        case rel => exact ⟨j + 1, _, _, _, rfl, by omega, by go_num, hid_of (by rw [← HNX.out]; exact O6.out)⟩
        case measure => simp [intOf]; omega
      · have hd : decide (j < nr) = false := by simp; omega
        have HF : Hid (EO w wr (.slice oo2 on2 oc2) (encL t)) := hid_of (by
          have h1 := eo_of_alloc hk2.out
          rw [List.take_of_length_le (by have := HNR.out; omega)] at h1
          rw [HE.out]
          simpa only [List.append_assoc] using h1)
        obtain ⟨y0, y1, y2, y3', y4, y5⟩ := HBX.out wr hk2.out.bel
        go_wp2
        go_ret
        exact ⟨_, _, _, rfl, HF.out⟩
end
theorem rencode_any : ∀ t, Okay t → REP t := by
  refine lat_ind ?_
  intro k lo hi ns ps rs ih hok
  have IH : ∀ p ∈ (Lat.mk k lo hi ns ps rs).ps, REP p := fun p hp => ih p hp (hok.part p hp)
  intro k' lo' hi' an nn cn ap np cp ar nr cr w H hl
  have hk := hok.node.kk
  have e := H.hk
  have hs := hok.node.shape
  have hlp := H.lp
  have hk2 : 1 ≤ k' ∧ k' ≤ 10 := by rw [e]; exact hk
  have z0 : (k' ≠ 5 ∧ k' ≠ 6 ∧ k' ≠ 7) → np = 0 := fun h => by rw [hlp]; exact shape_0 hs (by rw [← e]; exact h)
  rcases kinds k' with rfl | rfl | rfl | rfl | rfl | rfl | rfl | rfl | rfl | rfl | hx
  case inr.inr.inr.inr.inr.inr.inr.inr.inr.inr => omega
  · have := z0 (by omega); subst this; exact re_1 lo' hi' an nn cn ap cp ar nr cr _ w H hok hl IH
  · have := z0 (by omega); subst this; exact re_2 lo' hi' an nn cn ap cp ar nr cr _ w H hok hl IH
  · have := z0 (by omega); subst this; exact re_3 lo' hi' an nn cn ap cp ar nr cr _ w H hok hl IH
  · have := z0 (by omega); subst this; exact re_4 lo' hi' an nn cn ap cp ar nr cr _ w H hok hl IH
  · exact re_5 lo' hi' an nn cn ap np cp ar nr cr _ w H hok hl IH
  · exact re_6 lo' hi' an nn cn ap np cp ar nr cr _ w H hok hl IH
  · exact re_7 lo' hi' an nn cn ap np cp ar nr cr _ w H hok hl IH
  · have := z0 (by omega); subst this; exact re_8 lo' hi' an nn cn ap cp ar nr cr _ w H hok hl IH
  · have := z0 (by omega); subst this; exact re_9 lo' hi' an nn cn ap cp ar nr cr _ w H hok hl IH
  · have := z0 (by omega); subst this; exact re_10 lo' hi' an nn cn ap cp ar nr cr _ w H hok hl IH
end Go.Proofs.Ytdmonbcinlmljaa

/- Descriptions that came in, opened. What a row may take is asked of the form's own reach. -/
namespace Go.Proofs.Ytdmonbcinlmljaa
open Go.RowKit Go.ChangeShapes Go.WideShapes

theorem wf_r64 {n : Int} (h : (Lit.int .i64 n).wf = true) : R64 n := by
  have h1 : IntKind.i64.min = -9223372036854775808 := by rfl
  have h2 : IntKind.i64.max = 9223372036854775807 := by rfl
  have : (decide (IntKind.i64.min ≤ n) && decide (n ≤ IntKind.i64.max)) = true := h
  rw [h1, h2] at this
  simpa using this
section
variable {H : Type} {enc : TypeId × Value → H} {P : Program} {w : World} {base : Nat} {spare : TypeId → Bool} {held : Bool}
/-- Every weight is within the form's reach. -/
def Fits (P : Program) (t : TypeId) (d : DataW H) : Prop := ∀ n ∈ d.weights P t, n ≤ reachBytes
theorem fits_each : ∀ {ts : List TypeId} {ds : List (DataW H)}, (∀ n ∈ DataW.weightsEach P ts ds, n ≤ reachBytes) → ∀ (i : Nat) (t : TypeId) (d : DataW H), ts[i]? = some t → ds[i]? = some d → Fits P t d :=
  fun h _ _ _ ht hd n hn => h n (DataW.weights_mem_each ht hd n hn)
theorem fits_all : ∀ {e : TypeId} {ds : List (DataW H)}, (∀ n ∈ DataW.weightsAll P e ds, n ≤ reachBytes) → ∀ d ∈ ds, Fits P e d
  | _, [], _, d, hd => by cases hd
  | e, x :: r, h, d, hd => by
    simp only [DataW.weightsAll, List.mem_append] at h
    rcases List.mem_cons.1 hd with rfl | hd
    · exact fun n hn => h n (.inl hn)
    · exact fits_all (fun n hn => h n (.inr hn)) d hd
end
theorem Try.cellsLat : Try.prog.cellsOf 26 = 6 := by kernel_rfl
theorem Try.cellsRule : Try.prog.cellsOf 47 = 2 := by kernel_rfl
theorem Try.cellsStrs : Try.prog.cellsOf 22 = 1 := by kernel_rfl
theorem Try.cellsLats : Try.prog.cellsOf 23 = 1 := by kernel_rfl
theorem Try.cellsRules : Try.prog.cellsOf 24 = 1 := by kernel_rfl
theorem Try.cellsStr : Try.prog.cellsOf 9 = 1 := by kernel_rfl
theorem Try.cellsInt : Try.prog.cellsOf 3 = 1 := by kernel_rfl
theorem Try.cellsI64 : Try.prog.cellsOf 2 = 1 := by kernel_rfl
theorem Try.bytesStr : Try.prog.bytesOf 9 = 16 := by kernel_rfl
theorem plain_add (a o j : Nat) : (⟨a, o, none⟩ : Addr).add j = ⟨a, o + j, none⟩ := by unfold Addr.add; split <;> simp_all
/-- A slice that came in: nil, or a row of elements, each read with less fuel. -/
theorem open_row {H : Type} {enc : TypeId × Value → H} {w : World} {fuel : Nat} {S e : TypeId} {v : Value} {y : DataW H × List MemPlace} (ht : Try.prog.underlying S = some (.slice e)) (h : DataW.trod enc Try.prog w 0 (fun _ => true) true fuel S [v] = some y) :
    (v = .slice none 0 0 ∧ y.1 = .nil) ∨ ∃ (ad : Addr) (len cap n : Nat) (elems spare : List (DataW H)), v = .slice (some ad) len cap ∧ fuel = n + 1 ∧ y.1 = .slice elems spare ∧ elems.length = len ∧ elems.length + spare.length = cap ∧ len ≤ cap ∧ cap ≤ maxLen ∧
      ∀ i, i < len → ∃ cs' z, w.cells? 0 (ad.add (i * Try.prog.cellsOf e)) (Try.prog.cellsOf e) = some cs' ∧ DataW.trod enc Try.prog w 0 (fun _ => true) true n e cs' = some z ∧ elems[i]? = some z.1 := by
  rcases DataW.trod_slice ht h with ⟨e1, e2⟩ | ⟨a, len, cap, elems, rest, n, hf, e1, e2, _, hl, hm, hlen, hel, hsp, _⟩
  · simp only [List.cons.injEq, and_true] at e1
    exact .inl ⟨e1, by rw [e2]⟩
  · simp only [List.cons.injEq, and_true] at e1
    refine .inr ⟨a, len, cap, n, elems.map (·.1), rest.map (·.1), e1, hf, by rw [e2], by simp [hlen], by have := (hsp rfl).1; simp [hlen, this]; omega, hl, hm, fun i hi => ?_⟩
    have := hel i hi
    rw [List.getElem?_eq_getElem (by omega)] at this
    rw [Option.bind_eq_some_iff] at this
    obtain ⟨cs', h1, h2⟩ := this
    exact ⟨cs', elems[i]'(by omega), h1, h2, by rw [List.getElem?_map, List.getElem?_eq_getElem (by omega)]; rfl⟩
set_option maxRecDepth 100000 in
/-- A slice of strings. -/
theorem open_sl {H : Type} {enc : TypeId × Value → H} {w : World} {fuel : Nat} {v : Value} {x : DataW H × List MemPlace} (h : DataW.trod enc Try.prog w 0 (fun _ => true) true fuel 22 [v] = some x) :
    ∃ l : List Str, Rd w v (ss l) ∧ Ok l ∧ (Fits Try.prog 22 x.1 → l.length * 16 ≤ reachBytes) := by
  rcases open_row Try.underlying22 h with ⟨rfl, _⟩ | ⟨ad, len, cap, n, elems, sp, rfl, _, hd, hlen, hcap, hlc, hcm, hel⟩
  · exact ⟨[], ⟨none, 0, rfl, Nat.le_refl _, by omega, fun h => by simp [ss] at h⟩, (fun y hy => by cases hy), fun _ => by simp⟩
  unfold maxLen at hcm
  have hex : ∀ i, i < len → ∃ s : ByteArray, w.cell? (ad.add i) = some (.string s) ∧ s.size ≤ maxLen := by
    intro i hi
    obtain ⟨cs', z, h1, h2, _⟩ := hel i hi
    rw [Try.cellsStr, Nat.mul_one] at h1
    obtain ⟨s, e, _, hs⟩ := DataW.trod_string Try.underlying9 h2
    subst e
    obtain ⟨_, _, hc⟩ := World.cells?_some h1
    refine ⟨s, ?_, hs⟩
    have := hc 0 (by omega)
    simpa [Addr.add] using this
  have hfit : Fits Try.prog 22 x.1 → len * 16 ≤ reachBytes := fun hf => by
    rw [hd] at hf
    have := hf ((elems.length + sp.length) * Try.prog.bytesOf 9) (by simp [DataW.weights, Try.underlying22])
    rw [Try.bytesStr] at this
    omega
  haveI : Inhabited ByteArray := ⟨⟨#[]⟩⟩
  obtain ⟨f, hf⟩ := Go.Deep.choose_lt hex
  have hget : ∀ (i : Nat) (q : Nat), (List.range len)[i]? = some q → i < len ∧ q = i := by
    intro i q hr
    obtain ⟨h1, h2⟩ := List.getElem?_eq_some_iff.1 hr
    simp at h1 h2
    exact ⟨h1, h2.symm⟩
  refine ⟨(List.range len).map fun i => (f i).data.toList, ?_, fun y hy => ?_, fun h => by simpa using hfit h⟩
  · refine ⟨some ad, cap, by rw [ss_length]; simp, by rw [ss_length]; simpa using hlc, by omega, fun h0 => ?_⟩
    rw [ss_length, List.length_map, List.length_range] at h0
    have h6 := (hf 0 h0).1
    rw [show ad.add 0 = ad by rfl] at h6
    have hx := spot_none h6
    refine ⟨ad.block, ad.off, by rw [← hx], World.block_lt_of_cell? w _ h6, fun j u hu => ?_⟩
    simp only [ss, List.map_map, List.getElem?_map] at hu
    obtain ⟨q, hq, rfl⟩ := Option.map_eq_some_iff.1 hu
    obtain ⟨h1, rfl⟩ := hget j q hq
    have h7 := (hf q h1).1
    rw [hx, Addr.add_mid] at h7
    rw [h7]
    rfl
  · obtain ⟨q, hq, rfl⟩ := List.mem_map.1 hy
    have := (hf q (by simpa using hq)).2
    unfold maxLen at this
    have e : (f q).data.toList.length = (f q).size := Array.length_toList
    omega
set_option maxRecDepth 100000 in
theorem rule_fields : ∃ f0 f1 : Field, Try.prog.underlying 47 = some (.struct #[f0, f1]) ∧ f0.type = 22 ∧ f1.type = 9 ∧ f0.offset = 0 ∧ f1.offset = 1 :=
  ⟨_, _, Try.underlying47, rfl, rfl, rfl, rfl⟩
set_option maxRecDepth 100000 in
/-- A slice of rules. -/
theorem open_rl {H : Type} {enc : TypeId × Value → H} {w : World} {fuel : Nat} {v : Value} {x : DataW H × List MemPlace} (h : DataW.trod enc Try.prog w 0 (fun _ => true) true fuel 24 [v] = some x) (hfit : Fits Try.prog 24 x.1) :
    ∃ rs : List Gr, RuR w v rs ∧ OkR rs := by
  rcases open_row Try.underlying24 h with ⟨rfl, _⟩ | ⟨ad, len, cap, n, elems, sp, rfl, _, hd, hlen, hcap, hlc, hcm, hel⟩
  · exact ⟨[], rur_nil w, fun r hr => by cases hr⟩
  unfold maxLen at hcm
  have hfe : ∀ d ∈ elems, Fits Try.prog 47 d := by
    rw [hd] at hfit
    refine fits_all fun m hm => hfit m ?_
    simp only [DataW.weights, Try.underlying24, List.mem_cons, List.mem_append]
    exact .inr (.inl hm)
  have hex : ∀ i, i < len → ∃ q : Value × Gr, (w.cell? ((ad.add (i * 2)).add 0) = some q.1 ∧ w.cell? ((ad.add (i * 2)).add 1) = some (.string (ba q.2.2))) ∧ Rd w q.1 (ss q.2.1) ∧ Ok q.2.1 ∧ q.2.2.length ≤ 9223372036854775807 ∧ q.2.1.length ≤ 8796093021952 := by
    intro i hi
    obtain ⟨cs', z, h1, h2, h3⟩ := hel i hi
    rw [Try.cellsRule] at h1
    have hz := hfe z.1 (List.mem_of_getElem? h3)
    obtain ⟨f0, f1, hu, t0, t1, o0, o1⟩ := rule_fields
    obtain ⟨xs, m, _, hzz, hl, hlx, hf⟩ := DataW.trod_struct hu h2
    match xs, hlx with
    | [y0, y1], _ =>
      have g0 := hf 0 f0 rfl
      have g1 := hf 1 f1 rfl
      rw [t0, o0, Try.cellsStrs] at g0
      rw [t1, o1, Try.cellsStr] at g1
      rw [Try.cellsRule] at hl
      match cs', hl with
      | [v0, v1], _ =>
        simp only [List.drop_zero, List.drop_succ_cons, List.take_succ_cons, List.take_zero, List.getElem?_cons_zero, List.getElem?_cons_succ] at g0 g1
        obtain ⟨l, r1, r2, r3⟩ := open_sl g0
        obtain ⟨s, e, _, hs⟩ := DataW.trod_string Try.underlying9 g1
        simp only [List.cons.injEq, and_true] at e
        subst e
        obtain ⟨_, _, hc⟩ := World.cells?_some h1
        refine ⟨(v0, l, s.data.toList), ⟨by simpa using hc 0 (by omega), by simpa [ba_of] using hc 1 (by omega)⟩, r1, r2, ?_, ?_⟩
        · unfold maxLen at hs
          have e : s.data.toList.length = s.size := Array.length_toList
          show s.data.toList.length ≤ _
          omega
        · have hz0 : Fits Try.prog 22 y0.1 := by
            rw [hzz] at hz
            refine fits_each (ts := [22, 9]) (ds := [y0.1, y1.1]) (fun m hm => hz m ?_) 0 _ _ rfl rfl
            simp only [DataW.weights, hu, List.map_cons, List.map_nil, t0, t1]
            exact hm
          have := r3 hz0
          have hr : reachBytes = 140737488351232 := by rfl
          show l.length ≤ _
          omega
  by_cases h0 : len = 0
  · subst h0
    exact ⟨[], ⟨[], ⟨some ad, cap, rfl, hlc, by omega, fun h => by simp at h⟩, rfl, fun i t r ht => by simp at ht⟩, fun r hr => by cases hr⟩
  have hsp : ad.spot = none := by
    obtain ⟨y, hc, _⟩ := hex 0 (by omega)
    have := hc.1
    simpa [Addr.add] using World.cell?_spot (w := w) (a := (ad.add (0 * 2)).add 0) this
  obtain ⟨b, o, sp2⟩ := ad
  simp only at hsp
  subst hsp
  haveI : Inhabited (Value × Gr) := ⟨⟨.slice none 0 0, [], []⟩⟩
  obtain ⟨f, hf⟩ := Go.Deep.choose_lt hex
  have hget : ∀ (i : Nat) (q : Nat), (List.range len)[i]? = some q → i < len ∧ q = i := by
    intro i q hr
    obtain ⟨h1, h2⟩ := List.getElem?_eq_some_iff.1 hr
    simp at h1 h2
    exact ⟨h1, h2.symm⟩
  have c00 := (hf 0 (by omega)).1.1
  rw [plain_add, plain_add] at c00
  refine ⟨(List.range len).map fun i => (f i).2, ⟨(List.range len).map fun i => ((f i).1, .string (ba (f i).2.2)), ⟨_, _, by rw [List.length_map, List.length_range], by simpa using hlc, by omega, fun _ => ⟨b, o, rfl, World.block_lt_of_cell? w _ c00, fun i t ht => ?_⟩⟩, by simp, fun i t r ht hr => ?_⟩, fun r hr => ?_⟩
  · rw [List.getElem?_map] at ht
    obtain ⟨q, hq, rfl⟩ := Option.map_eq_some_iff.1 ht
    obtain ⟨h1, rfl⟩ := hget i q hq
    obtain ⟨⟨a1, a2⟩, _⟩ := hf q h1
    rw [plain_add, plain_add] at a1 a2
    exact ⟨a1, a2⟩
  · rw [List.getElem?_map] at ht hr
    obtain ⟨q, hq, rfl⟩ := Option.map_eq_some_iff.1 ht
    obtain ⟨q', hq', rfl⟩ := Option.map_eq_some_iff.1 hr
    obtain ⟨h1, rfl⟩ := hget i q hq
    obtain ⟨_, rfl⟩ := hget _ q' hq'
    exact ⟨(hf _ h1).2.1, rfl⟩
  · obtain ⟨q, hq, rfl⟩ := List.mem_map.1 hr
    exact (hf q (by simpa using hq)).2.2
set_option maxRecDepth 100000 in
theorem lat_fields : ∃ f0 f1 f2 f3 f4 f5 : Field, Try.prog.underlying 26 = some (.struct #[f0, f1, f2, f3, f4, f5]) ∧ f0.type = 3 ∧ f1.type = 2 ∧ f2.type = 2 ∧ f3.type = 22 ∧ f4.type = 23 ∧ f5.type = 24 ∧ f0.offset = 0 ∧ f1.offset = 1 ∧ f2.offset = 2 ∧ f3.offset = 3 ∧ f4.offset = 4 ∧ f5.offset = 5 :=
  ⟨_, _, _, _, _, _, Try.underlying26, rfl, rfl, rfl, rfl, rfl, rfl, rfl, rfl, rfl, rfl, rfl, rfl⟩
set_option maxRecDepth 100000 in
/-- A description. -/
theorem open_lat {H : Type} {enc : TypeId × Value → H} {w : World} : ∀ (F fuel : Nat), fuel < F → ∀ (cs : List Value) (x : DataW H × List MemPlace), DataW.trod enc Try.prog w 0 (fun _ => true) true fuel 26 cs = some x → Fits Try.prog 26 x.1 → ∃ (y : LX) (t : Lat), cs = y.q.cs ∧ LD w y t := by
  intro F
  induction F with
  | zero => intro fuel h; omega
  | succ F ih =>
    intro fuel hF cs x h hfit
    obtain ⟨f0, f1, f2, f3, f4, f5, hu, t0, t1, t2, t3, t4, t5, o0, o1, o2, o3, o4, o5⟩ := lat_fields
    obtain ⟨xs, m, hm, hxx, hl, hlx, hf⟩ := DataW.trod_struct hu h
    match xs, hlx with
    | [y0, y1, y2, y3, y4, y5], _ =>
      have g0 := hf 0 f0 rfl
      have g1 := hf 1 f1 rfl
      have g2 := hf 2 f2 rfl
      have g3 := hf 3 f3 rfl
      have g4 := hf 4 f4 rfl
      have g5 := hf 5 f5 rfl
      rw [Try.cellsLat] at hl
      match cs, hl with
      | [v0, v1, v2, v3, v4, v5], _ =>
        rw [t0, o0, Try.cellsInt] at g0
        rw [t1, o1, Try.cellsI64] at g1
        rw [t2, o2, Try.cellsI64] at g2
        rw [t3, o3, Try.cellsStrs] at g3
        rw [t4, o4, Try.cellsLats] at g4
        rw [t5, o5, Try.cellsRules] at g5
        simp only [List.drop_zero, List.drop_succ_cons, List.take_succ_cons, List.take_zero, List.getElem?_cons_zero, List.getElem?_cons_succ] at g0 g1 g2 g3 g4 g5
        obtain ⟨k0, e0, _, q0⟩ := DataW.trod_int Try.underlying3 g0
        obtain ⟨k1, e1, _, q1⟩ := DataW.trod_int Try.underlying2 g1
        obtain ⟨k2, e2, _, q2⟩ := DataW.trod_int Try.underlying2 g2
        simp only [List.cons.injEq, and_true] at e0 e1 e2
        subst e0 e1 e2
        have hz : ∀ (i : Nat) (t : TypeId) (d : DataW H), [3, 2, 2, 22, 23, 24][i]? = some t → [y0.1, y1.1, y2.1, y3.1, y4.1, y5.1][i]? = some d → Fits Try.prog t d := by
          refine fits_each (fun n hn => hfit n ?_)
          rw [hxx]
          simp only [DataW.weights, hu, List.map_cons, List.map_nil, t0, t1, t2, t3, t4, t5]
          exact hn
        obtain ⟨ns, n1, n2, _⟩ := open_sl g3
        obtain ⟨rs, r1, r2⟩ := open_rl g5 (hz 5 _ _ rfl rfl)
        have hp : ∃ ts, LDs w v4 ts := by
          rcases open_row Try.underlying23 g4 with ⟨rfl, _⟩ | ⟨ad, len, cap, n, elems, sp, rfl, hfu, hd, hlen, hcap, hlc, hcm, hel⟩
          · exact ⟨[], lds_nil w⟩
          unfold maxLen at hcm
          have hfe : ∀ d ∈ elems, Fits Try.prog 26 d := by
            have hz4 := hz 4 _ _ rfl rfl
            rw [hd] at hz4
            refine fits_all fun m hm => hz4 m ?_
            simp only [DataW.weights, Try.underlying23, List.mem_cons, List.mem_append]
            exact .inr (.inl hm)
          have hex : ∀ i, i < len → ∃ q : LX × Lat, (∀ j, j < 6 → w.cell? ((ad.add (i * 6)).add j) = q.1.q.cs[j]?) ∧ LD w q.1 q.2 := by
            intro i hi
            obtain ⟨cs', z, h1, h2, h3⟩ := hel i hi
            rw [Try.cellsLat] at h1
            obtain ⟨y, t, e, hy⟩ := ih n (by omega) cs' z h2 (hfe z.1 (List.mem_of_getElem? h3))
            obtain ⟨_, _, hc⟩ := World.cells?_some h1
            exact ⟨(y, t), fun j hj => by rw [hc j hj, e], hy⟩
          by_cases h0 : len = 0
          · subst h0
            exact ⟨[], [], ⟨some ad, cap, rfl, hlc, by omega, fun h => by simp at h⟩, rfl, fun i y u hy => by simp at hy⟩
          have hsp : ad.spot = none := by
            obtain ⟨y, hc, _⟩ := hex 0 (by omega)
            have := hc 0 (by omega)
            simpa [Addr.add] using World.cell?_spot (w := w) (a := (ad.add (0 * 6)).add 0) this
          obtain ⟨b, o, sp2⟩ := ad
          simp only at hsp
          subst hsp
          haveI : Inhabited (LX × Lat) := ⟨⟨⟨0, 0, 0, .slice none 0 0, .slice none 0 0, .slice none 0 0⟩, ⟨0, 0, 0, [], [], []⟩⟩⟩
          obtain ⟨f, hf⟩ := Go.Deep.choose_lt hex
          have hget : ∀ (i : Nat) (q : Nat), (List.range len)[i]? = some q → i < len ∧ q = i := by
            intro i q hr
            obtain ⟨h1, h2⟩ := List.getElem?_eq_some_iff.1 hr
            simp at h1 h2
            exact ⟨h1, h2.symm⟩
          have hcell : ∀ i j, i < len → j < 6 → w.cell? ⟨b, o + i * 6 + j, none⟩ = (f i).1.q.cs[j]? := by
            intro i j hi hj
            have := (hf i hi).1 j hj
            rwa [plain_add, plain_add] at this
          refine ⟨(List.range len).map fun i => (f i).2, (List.range len).map fun i => (f i).1, ⟨some ⟨b, o, none⟩, cap, by simp, by simpa using hlc, by omega, fun _ => ⟨b, o, rfl, World.block_lt_of_cell? w _ (hcell 0 0 (by omega) (by omega)), fun i t ht => ?_⟩⟩, by simp, fun i y u hy hu => ?_⟩
          · rw [List.getElem?_map, List.getElem?_map] at ht
            obtain ⟨q, hq, rfl⟩ := Option.map_eq_some_iff.1 ht
            obtain ⟨q', hq', rfl⟩ := Option.map_eq_some_iff.1 hq
            obtain ⟨h1, rfl⟩ := hget i q' hq'
            exact ⟨hcell q' 0 h1 (by omega), hcell q' 1 h1 (by omega), hcell q' 2 h1 (by omega), hcell q' 3 h1 (by omega), hcell q' 4 h1 (by omega), hcell q' 5 h1 (by omega)⟩
          · rw [List.getElem?_map] at hy hu
            obtain ⟨q, hq, rfl⟩ := Option.map_eq_some_iff.1 hy
            obtain ⟨q', hq', rfl⟩ := Option.map_eq_some_iff.1 hu
            obtain ⟨h1, rfl⟩ := hget i q hq
            obtain ⟨_, rfl⟩ := hget _ q' hq'
            exact (hf _ h1).2
        obtain ⟨ts, ps, p1, p2, p3⟩ := hp
        exact ⟨⟨k0, k1, k2, v3, v4, v5⟩, ⟨k0, k1, k2, ns, ts, rs⟩, rfl, .mk ps rfl rfl rfl (wf_r64 q0) (wf_r64 q1) (wf_r64 q2) n1 n2 r1 r2 p1 p2 p3⟩
set_option maxRecDepth 100000 in
/-- A description by value. -/
theorem open_latv {H : Type} {enc : TypeId × Value → H} {w : World} {base : Nat} {v : Value} {d : DataW H} {p : List MemPlace} (hv : Value.okWide Try.prog w .any base 26 v) (h : DataW.Trod enc Try.prog w 0 (fun _ => true) true 26 v d p) (hfit : Fits Try.prog 26 d) :
    ∃ (k lo hi : Int) (an : Option Addr) (nn cn : Nat) (ap : Option Addr) (np cp : Nat) (ar : Option Addr) (nr cr : Nat) (t : Lat), v = .agg #[.int .i64 k, .int .i64 lo, .int .i64 hi, .slice an nn cn, .slice ap np cp, .slice ar nr cr] ∧ LO w k lo hi an nn cn ap np cp ar nr cr t := by
  obtain ⟨cs, rfl, _⟩ := okWide_struct Try.underlying26 hv
  obtain ⟨fuel, hf⟩ := h
  obtain ⟨y, t, e, r⟩ := open_lat _ fuel (Nat.lt_succ_self _) _ _ hf hfit
  obtain ⟨k, lo, hi, an, nn, cn, ap, np, cp, ar, nr, cr, rfl, ho⟩ := r.open
  have e3 : cs = #[.int .i64 k, .int .i64 lo, .int .i64 hi, .slice an nn cn, .slice ap np cp, .slice ar nr cr] := by rw [← Array.toArray_toList (xs := cs), show cs.toList = _ from e]; rfl
  subst e3
  exact ⟨k, lo, hi, an, nn, cn, ap, np, cp, ar, nr, cr, t, rfl, ho⟩
end Go.Proofs.Ytdmonbcinlmljaa

/- Encodings that begin one another; bytes in front of a row. Bounds on sizes alone. -/
namespace Go.Proofs.Ytdmonbcinlmljaa
open Go.RowKit

/-- Two valid descriptions are the same if one's encoding begins the other's. -/
theorem apart_eq {t u : Lat} (ht : chkL t = 0) (hu : chkL u = 0) (n : Nat) (hn : n = min (encL t).length (encL u).length) (h : strU ((encL t).take n) = strU ((encL u).take n)) : t = u := by
  have ot := okay_of t 1 0 ht
  have ou := okay_of u 1 0 hu
  have bt : By ((encL t).take n) := fun y hy => encL_byte t y (List.mem_of_mem_take hy)
  have bu : By ((encL u).take n) := fun y hy => encL_byte u y (List.mem_of_mem_take hy)
  have e := strU_inj bt bu h
  rcases Nat.le_total (encL t).length (encL u).length with h1 | h1
  · have h2 : (encL t).take n = encL t := List.take_of_length_le (by omega)
    rw [h2] at e
    have h3 : encL t ++ (encL u).drop n = encL u ++ [] := by rw [e, List.take_append_drop, List.append_nil]
    exact (encL_cut t ot u ou _ _ h3).1
  · have h2 : (encL u).take n = encL u := List.take_of_length_le (by omega)
    rw [h2] at e
    have h3 : encL t ++ [] = encL u ++ (encL t).drop n := by rw [← e, List.take_append_drop, List.append_nil]
    exact (encL_cut t ot u ou _ _ h3).1
theorem upto_u8 (g o len cap s : Nat) (hs : s ≤ cap) : ∀ wx, (Instr.slice 34 (.slice (some ⟨g, o, none⟩) len cap) none (some (.int .i64 (s : Int))) none).run Try.prog wx = .ok (.slice (some ⟨g, o, none⟩) s cap) wx := fun wx => by
  obtain ⟨i0, hi, hz0, hz1, hz2⟩ := info_parts Wr.Try.infoU8
  have he : Try.prog.elem 34 = 5 := by kernel_rfl
  have ht : Try.prog.underlying 34 = some (.slice (Try.prog.elem 34)) := by rw [he]; exact Try.underlying34
  have hsz : (sizeOf (Try.prog.elem 34)).run Try.prog wx = .ok 1 wx := by
    rw [he]
    simp [sizeOf, typeInfo, hi, hz1]
  rw [run_slice_h (t := 34) (ht := ht) (h0 := by omega) (h2 := by omega), hsz]
  simp [Result.andThen, sliced, Addr.add]
/-- The beginning of a row of bytes, as a string. -/
theorem conv_pre {W : World} {g n : Nat} {M : List Int} (h : W.heap[g]? = some (.cells (Wr.bs M).toArray 5 (0, 0))) (hn : n ≤ M.length) (cap : Nat) : (convert 34 9 (.slice (some ⟨g, 0, none⟩) n cap)).run Try.prog W = .ok (.string (strOfNums (M.take n))) W := by
  have hl : (M.take n).length = n := by rw [List.length_take]; omega
  have := Wr.run_str W 34 9 5 Try.underlying34 Try.underlying5 Try.underlying9 (some ⟨g, 0, none⟩) (M.take n) cap (fun h0 => ⟨_, rfl, fun j v hj => by
    have h1 := Wr.row_src h (by rw [List.length_take] at h0; omega)
    obtain ⟨ad, e, hc⟩ := h1
    cases e
    refine hc j v ?_
    unfold Wr.bs at hj ⊢
    rw [List.getElem?_map, List.getElem?_take] at hj
    split at hj
    · rw [List.getElem?_map]; exact hj
    · simp at hj⟩)
  rw [hl] at this
  exact this
end Go.Proofs.Ytdmonbcinlmljaa

/- The law Encodes. Bounds on sizes alone. -/
namespace Go.Proofs.Ytdmonbcinlmljaa
open Go.RowKit

theorem cs6e {w : World} {b : Nat} {E : TypeId} {m : Nat × Nat} {v0 v1 v2 v3 v4 v5 : Value} (h : w.heap[b]? = some (.cells #[v0, v1, v2, v3, v4, v5] E m)) : w.cell? ⟨b, 0, none⟩ = some v0 ∧ w.cell? ⟨b, 1, none⟩ = some v1 ∧ w.cell? ⟨b, 2, none⟩ = some v2 ∧ w.cell? ⟨b, 3, none⟩ = some v3 ∧ w.cell? ⟨b, 4, none⟩ = some v4 ∧ w.cell? ⟨b, 5, none⟩ = some v5 :=
  ⟨cell_blk (cs := [v0, v1, v2, v3, v4, v5]) h rfl, cell_blk (cs := [v0, v1, v2, v3, v4, v5]) h rfl, cell_blk (cs := [v0, v1, v2, v3, v4, v5]) h rfl, cell_blk (cs := [v0, v1, v2, v3, v4, v5]) h rfl, cell_blk (cs := [v0, v1, v2, v3, v4, v5]) h rfl, cell_blk (cs := [v0, v1, v2, v3, v4, v5]) h rfl⟩
theorem conv_rd {W : World} {a : Option Addr} {n c : Nat} {L : List Int} (h : Rd W (.slice a n c) (Wr.bs L)) : (convert 34 9 (.slice a n c)).run Try.prog W = .ok (.string (strOfNums L)) W := by
  obtain ⟨ao, cap, e, h2, h3, h4⟩ := h
  simp only [Value.slice.injEq] at e
  obtain ⟨rfl, rfl, rfl⟩ := e
  rw [bs_len] at h4 ⊢
  refine Wr.run_str W 34 9 5 Try.underlying34 Try.underlying5 Try.underlying9 a L c fun h0 => ?_
  obtain ⟨g, o, rfl, hg, hc⟩ := h4 h0
  refine ⟨_, rfl, fun j v hv => ?_⟩
  rw [Addr.add_mid]
  exact hc j v hv
set_option maxRecDepth 100000 in
set_option maxHeartbeats 12800000 in
theorem encodes_bad (t : Lat) (k lo hi : Int) (an : Option Addr) (nn cn : Nat) (ap : Option Addr) (np cp : Nat) (ar : Option Addr) (nr cr : Nat) (w : World) (H1 : LO w k lo hi an nn cn ap np cp ar nr cr t) (c1 : chkL t ≠ 0) : Calls Try.prog 4 #[.agg #[.int .i64 k, .int .i64 lo, .int .i64 hi, .slice an nn cn, .slice ap np cp, .slice ar nr cr]] w (BoP true w) := by
  have HBB := hid_of (bel_alloc w (.cells #[.int .i64 k, .int .i64 lo, .int .i64 hi, .slice an nn cn, .slice ap np cp, .slice ar nr cr] 26))
  have HC := hid_of (fun (w' : World) (h : Below (w.alloc (.cells #[.int .i64 k, .int .i64 lo, .int .i64 hi, .slice an nn cn, .slice ap np cp, .slice ar nr cr] 26)).heap.size (w.alloc (.cells #[.int .i64 k, .int .i64 lo, .int .i64 hi, .slice an nn cn, .slice ap np cp, .slice ar nr cr] 26)) w') => box6 k lo hi an nn cn ap np cp ar nr cr h)
  have AW := hid_of (fun w => awake_any w)
  have RH := hid_of (fun (wz : World) (hz : Below (w.alloc (.cells #[.int .i64 k, .int .i64 lo, .int .i64 hi, .slice an nn cn, .slice ap np cp, .slice ar nr cr] 26)).heap.size (w.alloc (.cells #[.int .i64 k, .int .i64 lo, .int .i64 hi, .slice an nn cn, .slice ap np cp, .slice ar nr cr] 26)) wz) => rcheck_any t k lo hi an nn cn ap np cp ar nr cr wz (H1.at (HBB.out.trans (hz.mono HBB.out.size))))
  obtain ⟨r, hr⟩ : ∃ r, r = chkL t := ⟨_, rfl⟩
  rw [← hr] at RH c1
  have e0 : (r == 0) = false := beq_eq_false_iff_ne.2 c1
  have e0' : (r != 0) = true := bne_iff_ne.2 c1
  clear hr H1 c1
  go_enter Try.func4, Try.ntmps4
  go_wp2_with (first
    | (go_at_call 5; ((with_reducible refine (AW.out _).mono ?_); (rintro e w1 ⟨rfl, h1⟩); (have E1 := hid_of (h1)); (obtain ⟨cs10, cs11, cs12, cs13, cs14, cs15⟩ := HC.out w1 E1.out); clear h1))
    | (go_at_call 9; ((with_reducible refine (RH.out w1 E1.out).mono ?_); (rintro e w2 ⟨rfl, h2⟩); (have E2 := hid_of (E1.out.trans (h2.mono E1.out.size))); clear h2)))
  go_ret
  exact ⟨rfl, HBB.out.trans (E2.out.mono HBB.out.size)⟩
theorem dec_good (t : Lat) (c1 : chkL t = 0) (M : List Int) (hM : M = encL t) (g : Nat) (W : World) (h : W.heap[g]? = some (.cells (Wr.bs M).toArray 5 (0, 0))) : Calls Try.prog 11 #[.slice (some ⟨g, 0, none⟩) M.length M.length] W (DcP t W) := by
  subst hM
  exact decode_ok t (okay_of t 1 0 c1) c1 (by have := chkT_depth t 1 0 c1; omega) _ _ W (encL_byte t) (by have := enc_bound c1; omega) fun h0 => ⟨⟨g, 0, none⟩, rfl, fun w' hb j v hv => by
    have e := (hb.block _ (lt_of_block h)).trans h
    rw [Addr.add_mid, Nat.zero_add, cell_blk (cs := Wr.bs (encL t)) e (j := j) (by exact hv)]⟩
set_option maxRecDepth 100000 in
set_option maxHeartbeats 12800000 in
theorem encodes_main (t : Lat) (k lo hi : Int) (an : Option Addr) (nn cn : Nat) (ap : Option Addr) (np cp : Nat) (ar : Option Addr) (nr cr : Nat) (w : World) (H1 : LO w k lo hi an nn cn ap np cp ar nr cr t) (c1 : chkL t = 0) : Calls Try.prog 4 #[.agg #[.int .i64 k, .int .i64 lo, .int .i64 hi, .slice an nn cn, .slice ap np cp, .slice ar nr cr]] w (BoP true w) := by
  have HBB := hid_of (bel_alloc w (.cells #[.int .i64 k, .int .i64 lo, .int .i64 hi, .slice an nn cn, .slice ap np cp, .slice ar nr cr] 26))
  have HC := hid_of (fun (w' : World) (h : Below (w.alloc (.cells #[.int .i64 k, .int .i64 lo, .int .i64 hi, .slice an nn cn, .slice ap np cp, .slice ar nr cr] 26)).heap.size (w.alloc (.cells #[.int .i64 k, .int .i64 lo, .int .i64 hi, .slice an nn cn, .slice ap np cp, .slice ar nr cr] 26)) w') => box6 k lo hi an nn cn ap np cp ar nr cr h)
  have HAT : Hid (∀ wz, Below (w.alloc (.cells #[.int .i64 k, .int .i64 lo, .int .i64 hi, .slice an nn cn, .slice ap np cp, .slice ar nr cr] 26)).heap.size (w.alloc (.cells #[.int .i64 k, .int .i64 lo, .int .i64 hi, .slice an nn cn, .slice ap np cp, .slice ar nr cr] 26)) wz → LO wz k lo hi an nn cn ap np cp ar nr cr t) := hid_of (fun wz hz => H1.at (HBB.out.trans (hz.mono HBB.out.size)))
  have AW := hid_of (fun w => awake_any w)
  have RH := hid_of (fun (wz : World) (hz : Below (w.alloc (.cells #[.int .i64 k, .int .i64 lo, .int .i64 hi, .slice an nn cn, .slice ap np cp, .slice ar nr cr] 26)).heap.size (w.alloc (.cells #[.int .i64 k, .int .i64 lo, .int .i64 hi, .slice an nn cn, .slice ap np cp, .slice ar nr cr] 26)) wz) => rcheck_any t k lo hi an nn cn ap np cp ar nr cr wz (HAT.out wz hz))
  have lt := enc_bound c1
  obtain ⟨M, hM⟩ : ∃ M, M = encL t := ⟨_, rfl⟩
  have EA := hid_of (fun (wz : World) (hz : Below (w.alloc (.cells #[.int .i64 k, .int .i64 lo, .int .i64 hi, .slice an nn cn, .slice ap np cp, .slice ar nr cr] 26)).heap.size (w.alloc (.cells #[.int .i64 k, .int .i64 lo, .int .i64 hi, .slice an nn cn, .slice ap np cp, .slice ar nr cr] 26)) wz) => encode_any t k lo hi an nn cn ap np cp ar nr cr wz (HAT.out wz hz) c1 M hM)
  have DC := hid_of (fun g W h => dec_good t c1 M hM g W h)
  have RE : Hid (∀ wz, Below (w.alloc (.cells #[.int .i64 k, .int .i64 lo, .int .i64 hi, .slice an nn cn, .slice ap np cp, .slice ar nr cr] 26)).heap.size (w.alloc (.cells #[.int .i64 k, .int .i64 lo, .int .i64 hi, .slice an nn cn, .slice ap np cp, .slice ar nr cr] 26)) wz → Calls Try.prog 12 #[.agg #[.int .i64 k, .int .i64 lo, .int .i64 hi, .slice an nn cn, .slice ap np cp, .slice ar nr cr]] wz fun e w' => ∃ x kk c, e = .returned (.slice x kk c) ∧ EO wz w' (.slice x kk c) M) := hid_of (fun wz hz => by rw [hM]; exact rencode_any t (okay_of t 1 0 c1) k lo hi an nn cn ap np cp ar nr cr wz (HAT.out wz hz) (by omega))
  have RQ : Hid (∀ wz xo xc yo yc zo zc, Below (w.alloc (.cells #[.int .i64 k, .int .i64 lo, .int .i64 hi, .slice an nn cn, .slice ap np cp, .slice ar nr cr] 26)).heap.size (w.alloc (.cells #[.int .i64 k, .int .i64 lo, .int .i64 hi, .slice an nn cn, .slice ap np cp, .slice ar nr cr] 26)) wz → LO wz t.k t.lo t.hi xo t.ns.length xc yo t.ps.length yc zo t.rs.length zc t → Calls Try.prog 13 #[.agg #[.int .i64 t.k, .int .i64 t.lo, .int .i64 t.hi, .slice xo t.ns.length xc, .slice yo t.ps.length yc, .slice zo t.rs.length zc], .agg #[.int .i64 k, .int .i64 lo, .int .i64 hi, .slice an nn cn, .slice ap np cp, .slice ar nr cr]] wz (BoP true wz)) := hid_of (fun wz xo xc yo yc zo zc hz hd => by
    have := requal_any t t t.k t.lo t.hi xo t.ns.length xc yo t.ps.length yc zo t.rs.length zc k lo hi an nn cn ap np cp ar nr cr wz hd (HAT.out wz hz)
    simpa using this)
  rw [c1] at RH
  rw [← hM] at lt
  obtain ⟨m, hm⟩ : ∃ m, m = M.length := ⟨_, rfl⟩
  have HM := hid_of hm
  rw [← hm] at lt EA DC
  obtain ⟨s, hs⟩ : ∃ s, s = strOfNums M := ⟨_, rfl⟩
  have HS := hid_of hs
  have hss : (s.toList == s.toList) = true := beq_self_eq_true _
  clear H1 c1 hM hm hs
  go_enter Try.func4, Try.ntmps4
  go_wp2_with (first
    | (go_at_call 5; ((with_reducible refine (AW.out _).mono ?_); (rintro e w1 ⟨rfl, h1⟩); (have E1 := hid_of h1); (obtain ⟨a0, a1, a2, a3, a4, a5⟩ := HC.out w1 E1.out); clear h1))
    | (go_at_call 9; ((with_reducible refine (RH.out w1 E1.out).mono ?_); (rintro e w2 ⟨rfl, h2⟩); (have E2 := hid_of (E1.out.trans (h2.mono E1.out.size))); (obtain ⟨b0, b1, b2, b3, b4, b5⟩ := HC.out w2 E2.out); clear h2))
    | (go_at_call 10; ((with_reducible refine (EA.out w2 E2.out).mono ?_); (rintro e w3 ⟨g, rfl, q0, q1, q2⟩); (have X3 := hid_of q0); (have E3 := hid_of (E2.out.trans (q1.mono E2.out.size))); clear q0 q1 q2))
    | (go_at_call 11; ((with_reducible refine (DC.out g w3 X3.out).mono ?_); (rintro e w4 ⟨xo, xc, yo, yc, zo, zc, rfl, q0, q1⟩); (have L4 := hid_of q0); (have E4 := hid_of (E3.out.trans (q1.mono E3.out.size))); (have X4 := hid_of ((q1.block _ (lt_of_block X3.out)).trans X3.out)); (have Z4 : Hid ((w4.alloc (.cells #[.int .i64 t.k, .int .i64 t.lo, .int .i64 t.hi, .slice xo t.ns.length xc, .slice yo t.ps.length yc, .slice zo t.rs.length zc] 26)).heap[w4.heap.size]? = some (.cells #[.int .i64 t.k, .int .i64 t.lo, .int .i64 t.hi, .slice xo t.ns.length xc, .slice yo t.ps.length yc, .slice zo t.rs.length zc] 26 (0, 0))) := hid_of (heap_alloc_new w4 _)); (have E5 := hid_of (E4.out.trans ((bel_alloc w4 (.cells #[.int .i64 t.k, .int .i64 t.lo, .int .i64 t.hi, .slice xo t.ns.length xc, .slice yo t.ps.length yc, .slice zo t.rs.length zc] 26)).mono E4.out.size))); (have L5 := hid_of (L4.out.at (bel_alloc w4 (.cells #[.int .i64 t.k, .int .i64 t.lo, .int .i64 t.hi, .slice xo t.ns.length xc, .slice yo t.ps.length yc, .slice zo t.rs.length zc] 26)))); (have X5 := hid_of (((bel_alloc w4 (.cells #[.int .i64 t.k, .int .i64 t.lo, .int .i64 t.hi, .slice xo t.ns.length xc, .slice yo t.ps.length yc, .slice zo t.rs.length zc] 26)).block _ (lt_of_block X4.out)).trans X4.out)); clear q0 q1)))
  obtain ⟨wb, hwb⟩ : ∃ wb, wb = w4.alloc (.cells #[.int .i64 t.k, .int .i64 t.lo, .int .i64 t.hi, .slice xo t.ns.length xc, .slice yo t.ps.length yc, .slice zo t.rs.length zc] 26) := ⟨_, rfl⟩
  rw [← hwb] at E5 L5 X5 Z4
  have HWB := hid_of hwb.symm
  clear hwb
  rw [HWB.out]
  have HFC : Hid (∀ X, Below wb.heap.size wb X → (convert 34 9 (.slice (some ⟨g, 0, none⟩) m m)).run Try.prog X = .ok (.string s) X ∧ (X.cell? ⟨w4.heap.size, 0, none⟩ = some (.int .i64 t.k) ∧ X.cell? ⟨w4.heap.size, 1, none⟩ = some (.int .i64 t.lo) ∧ X.cell? ⟨w4.heap.size, 2, none⟩ = some (.int .i64 t.hi) ∧ X.cell? ⟨w4.heap.size, 3, none⟩ = some (.slice xo t.ns.length xc) ∧ X.cell? ⟨w4.heap.size, 4, none⟩ = some (.slice yo t.ps.length yc) ∧ X.cell? ⟨w4.heap.size, 5, none⟩ = some (.slice zo t.rs.length zc)) ∧ Below (w.alloc (.cells #[.int .i64 k, .int .i64 lo, .int .i64 hi, .slice an nn cn, .slice ap np cp, .slice ar nr cr] 26)).heap.size (w.alloc (.cells #[.int .i64 k, .int .i64 lo, .int .i64 hi, .slice an nn cn, .slice ap np cp, .slice ar nr cr] 26)) X ∧ LO X t.k t.lo t.hi xo t.ns.length xc yo t.ps.length yc zo t.rs.length zc t) := hid_of (fun X hX => by
    have ez := (hX.block _ (lt_of_block Z4.out)).trans Z4.out
    refine ⟨?_, cs6e ez, E5.out.trans (hX.mono E5.out.size), L5.out.at hX⟩
    have h1 := conv_pre ((hX.block _ (lt_of_block X5.out)).trans X5.out) (n := m) (by have := HM.out; omega) m
    rw [List.take_of_length_le (by have := HM.out; omega), ← HS.out] at h1
    exact h1)
  have K0 : Hid (Below wb.heap.size wb wb.drew) := hid_of (Below.refl _ _).drew
  obtain ⟨f0, ⟨f1, f2, f3, f4, f5, f6⟩, f7, _⟩ := HFC.out wb.drew K0.out
  obtain ⟨g0, g1, g2, g3, g4, g5⟩ := HC.out wb.drew f7
  obtain ⟨f0', ⟨f1', f2', f3', f4', f5', f6'⟩, f7', _⟩ := HFC.out wb (Below.refl _ _)
  obtain ⟨g0', g1', g2', g3', g4', g5'⟩ := HC.out wb f7'
  clear f7 f7'
  go_region_law (first
    | (go_simp; go_at_call 12; ((with_reducible refine (RE.out wb.drew (HFC.out wb.drew K0.out).2.2.1).mono ?_); (rintro e w5 ⟨y5, k5, c5, rfl, q0⟩)); have cv5 := conv_rd (q0.rdd (by have := HM.out; omega)); rw [← HS.out] at cv5; have K5 : Hid (Below wb.heap.size wb w5) := hid_of (undrew q0.bel); clear q0; obtain ⟨r0, ⟨r1, r2, r3, r4, r5, r6⟩, r7, _⟩ := HFC.out w5 K5.out; obtain ⟨s0, s1, s2, s3, s4, s5⟩ := HC.out w5 r7; clear r7)
    | (go_simp; go_at_call 13; ((with_reducible refine (RQ.out w5 _ _ _ _ _ _ (HFC.out w5 K5.out).2.2.1 (HFC.out w5 K5.out).2.2.2).mono ?_); (rintro e w6 ⟨rfl, q0⟩)); have K6 := hid_of (K5.out.trans (q0.mono K5.out.size)); clear q0))
  all_goals go_wp2
  all_goals go_ret
  all_goals exact ⟨by first | rfl | simp, HBB.out.trans ((E5.out.trans (K6.out.mono E5.out.size)).mono HBB.out.size)⟩
theorem encodes_law (t : Lat) (k lo hi : Int) (an : Option Addr) (nn cn : Nat) (ap : Option Addr) (np cp : Nat) (ar : Option Addr) (nr cr : Nat) (w : World) (H1 : LO w k lo hi an nn cn ap np cp ar nr cr t) : Calls Try.prog 4 #[.agg #[.int .i64 k, .int .i64 lo, .int .i64 hi, .slice an nn cn, .slice ap np cp, .slice ar nr cr]] w (BoP true w) := by
  by_cases c1 : chkL t = 0
  · exact encodes_main t k lo hi an nn cn ap np cp ar nr cr w H1 c1
  · exact encodes_bad t k lo hi an nn cn ap np cp ar nr cr w H1 c1
end Go.Proofs.Ytdmonbcinlmljaa
