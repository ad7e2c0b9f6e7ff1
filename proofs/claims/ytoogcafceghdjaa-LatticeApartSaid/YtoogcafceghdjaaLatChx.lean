/- isChain and Chain of package lattice. Bounds on sizes alone. -/
import Derived.Test.YtoogcafceghdjaaLatChn
namespace Go.Proofs.Ytoogcafceghdjaa
open Go.RowKit Go.Maps

theorem undrew {w w' : World} (h : Below w.drew.heap.size w.drew w') : Below w.heap.size w w' := ⟨h.os, h.tape, h.output, h.size, h.block⟩
theorem kin3 (k : Int) : decide (k ∈ [(1 : Int), 2, 3]) = decide (k = 1 ∨ k = 2 ∨ k = 3) := by simp
set_option maxRecDepth 100000 in
set_option maxHeartbeats 3200000 in
theorem ischain_any : ∀ (t : Lat) (k lo hi : Int) (an : Option Addr) (nn cn : Nat) (ap : Option Addr) (np cp : Nat) (ar : Option Addr) (nr cr : Nat) (b : Nat) (w : World), LO w k lo hi an nn cn ap np cp ar nr cr t → MapI w b 3 [1, 2, 3] → Calls Try.prog 41 #[.agg #[.int .i64 k, .int .i64 lo, .int .i64 hi, .slice an nn cn, .slice ap np cp, .slice ar nr cr], .map (some b)] w (BoP (chainL t) w) := by
  refine lat_ind ?_
  intro k' lo' hi' ns' ps' rs' ih k lo hi an nn cn ap np cp ar nr cr b w H hm
  obtain rfl : k = k' := H.hk
  have HB := hid_of (bel_alloc w (.cells #[.int .i64 k, .int .i64 lo, .int .i64 hi, .slice an nn cn, .slice ap np cp, .slice ar nr cr] 26))
  rw [chainL]
  by_cases h7 : k = 7
  case neg =>
    have hlk := (hm.at HB.out).look k H.rk
    rw [kin3] at hlk
    rw [if_neg h7]
    obtain ⟨q, hq⟩ : ∃ q, q = decide (k = 1 ∨ k = 2 ∨ k = 3) := ⟨_, rfl⟩
    rw [← hq] at hlk ⊢
    have e7 : (k == 7) = false := beq_eq_false_iff_ne.2 h7
    clear hq h7 H hm ih
    go_enter Try.func41, Try.ntmps41
    go_wp2
    go_ret
    exact ⟨rfl, HB.out⟩
  subst h7
  rw [if_pos rfl, chainsL_all]
  have hl := H.p.len
  simp only [Lat.ps] at hl
  by_cases h2 : np = 2
  case neg =>
    have e2 : (np == 2) = false := beq_eq_false_iff_ne.2 h2
    have e3 : ((np : Int) == 2) = false := beq_eq_false_iff_ne.2 (by omega)
    rw [decide_eq_false (by omega), Bool.false_and]
    clear h2 hl H hm ih
    go_enter Try.func41, Try.ntmps41
    go_wp2
    go_ret
    exact ⟨rfl, HB.out⟩
  subst h2
  rw [decide_eq_true hl.1.symm, Bool.true_and]
  obtain ⟨p0, p1, rfl⟩ : ∃ p0 p1, ps' = [p0, p1] := by
    match ps', hl.1 with
    | [a, b], _ => exact ⟨a, b, rfl⟩
  obtain ⟨g, o, kA, loA, hiA, anA, nnA, cnA, apA, npA, cpA, arA, nrA, crA, rfl, LA, hcA⟩ := H.p.get (show [p0, p1][0]? = some p0 from rfl)
  obtain ⟨gB, oB, kB, loB, hiB, anB, nnB, cnB, apB, npB, cpB, arB, nrB, crB, eB, LB, hcB⟩ := H.p.get (show [p0, p1][1]? = some p1 from rfl)
  simp only [Option.some.injEq, Addr.mk.injEq, and_true] at eB
  obtain ⟨rfl, rfl⟩ := eB
  have CA := hid_of (fun (wz : World) (hz : Below w.heap.size w wz) => ih p0 (by simp) kA loA hiA anA nnA cnA apA npA cpA arA nrA crA b wz (LA.at hz) (hm.at hz))
  have CB := hid_of (fun (wz : World) (hz : Below w.heap.size w wz) => ih p1 (by simp) kB loB hiB anB nnB cnB apB npB cpB arB nrB crB b wz (LB.at hz) (hm.at hz))
  simp only [List.all_cons, List.all_nil, Bool.and_true]
  obtain ⟨qa, hqa⟩ : ∃ q, q = chainL p0 := ⟨_, rfl⟩
  obtain ⟨qb, hqb⟩ : ∃ q, q = chainL p1 := ⟨_, rfl⟩
  rw [← hqa] at CA ⊢
  rw [← hqb] at CB ⊢
  obtain ⟨a0, a1, a2, a3, a4, a5⟩ := hcA _ HB.out
  have HC : Hid (∀ w', Below (w.alloc (.cells #[.int .i64 7, .int .i64 lo, .int .i64 hi, .slice an nn cn, .slice (some ⟨g, o, none⟩) 2 cp, .slice ar nr cr] 26)).heap.size (w.alloc (.cells #[.int .i64 7, .int .i64 lo, .int .i64 hi, .slice an nn cn, .slice (some ⟨g, o, none⟩) 2 cp, .slice ar nr cr] 26)) w' → w'.cell? ⟨w.heap.size, 4, none⟩ = some (.slice (some ⟨g, o, none⟩) 2 cp)) := hid_of (fun w' h =>
    blk_kept (cs := [.int .i64 7, .int .i64 lo, .int .i64 hi, .slice an nn cn, .slice (some ⟨g, o, none⟩) 2 cp, .slice ar nr cr]) (heap_alloc_new w _) h rfl)
  have HCB := hid_of hcB
  clear hqa hqb hcA hcB H hm ih hl LA LB
  simp only [Nat.zero_mul, Nat.one_mul, Nat.add_zero] at a0 a1 a2 a3 a4 a5 HCB
  cases qa
  · rw [Bool.false_and]
    go_enter Try.func41, Try.ntmps41
    go_wp2_with (go_at_call 41; ((with_reducible refine (CA.out _ HB.out).mono ?_); (rintro e w2 ⟨rfl, h2⟩)); (have H2 := hid_of (HB.out.trans (h2.mono HB.out.size))); clear h2)
    go_ret
    exact ⟨rfl, H2.out⟩
  · rw [Bool.true_and]
    go_enter Try.func41, Try.ntmps41
    go_wp2_with (first
      | (go_at_call 41; ((with_reducible refine (CA.out _ HB.out).mono ?_); (rintro e w2 ⟨rfl, h2⟩)); (have H2 := hid_of (HB.out.trans (h2.mono HB.out.size))); (have s4 := HC.out w2 h2); (obtain ⟨b0, b1, b2, b3, b4, b5⟩ := HCB.out w2 H2.out); clear h2)
      | (go_at_call 41; ((with_reducible refine (CB.out _ H2.out).mono ?_); (rintro e w3 ⟨rfl, h3⟩)); (have H3 := hid_of (H2.out.trans (h3.mono H2.out.size))); clear h3))
    go_ret
    exact ⟨rfl, H3.out⟩
set_option maxRecDepth 100000 in
set_option maxHeartbeats 3200000 in
theorem chain_any (t : Lat) (k lo hi : Int) (an : Option Addr) (nn cn : Nat) (ap : Option Addr) (np cp : Nat) (ar : Option Addr) (nr cr : Nat) (w : World) (H : LO w k lo hi an nn cn ap np cp ar nr cr t) : Calls Try.prog 16 #[.agg #[.int .i64 k, .int .i64 lo, .int .i64 hi, .slice an nn cn, .slice ap np cp, .slice ar nr cr]] w (BoP (chainL t) w) := by
  have HB := hid_of (bel_alloc w (.cells #[.int .i64 k, .int .i64 lo, .int .i64 hi, .slice an nn cn, .slice ap np cp, .slice ar nr cr] 26))
  have HH := hid_of H
  have HC : Hid (∀ w', Below (w.alloc (.cells #[.int .i64 k, .int .i64 lo, .int .i64 hi, .slice an nn cn, .slice ap np cp, .slice ar nr cr] 26)).heap.size (w.alloc (.cells #[.int .i64 k, .int .i64 lo, .int .i64 hi, .slice an nn cn, .slice ap np cp, .slice ar nr cr] 26)) w' → w'.cell? ⟨w.heap.size, 0, none⟩ = some (.int .i64 k) ∧ w'.cell? ⟨w.heap.size, 1, none⟩ = some (.int .i64 lo) ∧ w'.cell? ⟨w.heap.size, 2, none⟩ = some (.int .i64 hi) ∧ w'.cell? ⟨w.heap.size, 3, none⟩ = some (.slice an nn cn) ∧ w'.cell? ⟨w.heap.size, 4, none⟩ = some (.slice ap np cp) ∧ w'.cell? ⟨w.heap.size, 5, none⟩ = some (.slice ar nr cr)) := hid_of (fun w' h =>
    ⟨blk_kept (cs := [.int .i64 k, .int .i64 lo, .int .i64 hi, .slice an nn cn, .slice ap np cp, .slice ar nr cr]) (heap_alloc_new w _) h rfl, blk_kept (cs := [.int .i64 k, .int .i64 lo, .int .i64 hi, .slice an nn cn, .slice ap np cp, .slice ar nr cr]) (heap_alloc_new w _) h rfl, blk_kept (cs := [.int .i64 k, .int .i64 lo, .int .i64 hi, .slice an nn cn, .slice ap np cp, .slice ar nr cr]) (heap_alloc_new w _) h rfl, blk_kept (cs := [.int .i64 k, .int .i64 lo, .int .i64 hi, .slice an nn cn, .slice ap np cp, .slice ar nr cr]) (heap_alloc_new w _) h rfl, blk_kept (cs := [.int .i64 k, .int .i64 lo, .int .i64 hi, .slice an nn cn, .slice ap np cp, .slice ar nr cr]) (heap_alloc_new w _) h rfl, blk_kept (cs := [.int .i64 k, .int .i64 lo, .int .i64 hi, .slice an nn cn, .slice ap np cp, .slice ar nr cr]) (heap_alloc_new w _) h rfl⟩)
  clear H
  go_enter Try.func16, Try.ntmps16
  go_wp2
  go_region_with (first
    | (go_at_call 42; ((with_reducible refine (kinds_any _).mono ?_); (rintro e w2 ⟨b, rfl, h2, hm⟩)); (have K2 := hid_of (undrew h2)); (have M2 := hid_of hm); (obtain ⟨s0, s1, s2, s3, s4, s5⟩ := HC.out w2 K2.out); clear h2 hm)
    | (go_at_call 41; ((with_reducible refine (ischain_any t k lo hi an nn cn ap np cp ar nr cr b w2 (HH.out.at (HB.out.trans (K2.out.mono HB.out.size))) M2.out).mono ?_); (rintro e w3 ⟨rfl, h3⟩); (have H3 := hid_of h3); clear h3)))
  all_goals go_wp2
  all_goals go_ret
  all_goals exact ⟨rfl, HB.out.trans ((K2.out.trans (H3.out.mono K2.out.size)).mono HB.out.size)⟩
end Go.Proofs.Ytoogcafceghdjaa
