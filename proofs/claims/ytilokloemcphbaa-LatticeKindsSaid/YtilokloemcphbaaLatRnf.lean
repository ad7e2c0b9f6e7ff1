/- The reference's named, of all kinds. Bounds on sizes alone. -/
import Derived.Test.YtilokloemcphbaaLatRnd
namespace Go.Proofs.Ytilokloemcphbaa
open Go.RowKit

theorem rr_bad {t : Lat} {i : Nat} {x : Gr} (h6 : t.k ≠ 6) (hx : t.rs[i]? = some x) (hn : rruleB t.ns x = false) : rnamedB t = false := by
  unfold rnamedB; rw [if_neg h6, all_bad hx hn, Bool.and_false]
theorem rr_ok {ns : List Str} {x : Gr} (h0 : x.1 ≠ []) (h1 : risB x.1 = true) (h2 : x.2 ∈ ns) (h3 : x.1.all (fun s => decide (s ∈ ns)) = true) : rruleB ns x = true := by
  unfold rruleB
  rw [h1, decide_eq_true h2, h3]
  cases hx : x.1 with
  | nil => exact absurd hx h0
  | cons a l => rfl
set_option maxRecDepth 100000 in
set_option maxHeartbeats 6400000 in
theorem rnamed_any (t : Lat) (k lo hi : Int) (an : Option Addr) (nn cn : Nat) (ap : Option Addr) (np cp : Nat) (ar : Option Addr) (nr cr : Nat) (w : World) (H : LO w k lo hi an nn cn ap np cp ar nr cr t) : Calls Try.prog 84 #[.agg #[.int .i64 k, .int .i64 lo, .int .i64 hi, .slice an nn cn, .slice ap np cp, .slice ar nr cr]] w (BoP (rnamedB t) w) := by
  by_cases h6 : k = 6
  · subst h6
    exact rnamed6_any t lo hi an nn cn ap np cp ar nr cr w H
  obtain ⟨r, hr⟩ : ∃ r, r = rnamedB t := ⟨_, rfl⟩
  rw [← hr]
  have HR := hid_of hr
  have HH := hid_of H
  have H6 : Hid (t.k ≠ 6) := hid_of (by rw [← H.hk]; exact h6)
  have e6 : (k == 6) = false := beq_eq_false_iff_ne.2 h6
  have hrl := H.r.len
  have HRL := hid_of hrl.1
  have hcr : nr ≤ 9223372036854775807 := by omega
  have HBW := hid_of (bel_alloc w (.cells #[.int .i64 k, .int .i64 lo, .int .i64 hi, .slice an nn cn, .slice ap np cp, .slice ar nr cr] 26))
  have HX : Hid (∀ wz, Below (w.alloc (.cells #[.int .i64 k, .int .i64 lo, .int .i64 hi, .slice an nn cn, .slice ap np cp, .slice ar nr cr] 26)).heap.size (w.alloc (.cells #[.int .i64 k, .int .i64 lo, .int .i64 hi, .slice an nn cn, .slice ap np cp, .slice ar nr cr] 26)) wz → _) := hid_of (fun wz hz => box6 k lo hi an nn cn ap np cp ar nr cr hz)
  have RC0 := hid_of (rising_any t.ns an nn cn (w.alloc (.cells #[.int .i64 k, .int .i64 lo, .int .i64 hi, .slice an nn cn, .slice ap np cp, .slice ar nr cr] 26)) (H.n.at HBW.out) H.on)
  obtain ⟨WW, hWW⟩ : ∃ WW, WW = (w.alloc (.cells #[.int .i64 k, .int .i64 lo, .int .i64 hi, .slice an nn cn, .slice ap np cp, .slice ar nr cr] 26)) := ⟨_, rfl⟩
  have K0 : Hid (∀ m, Below WW.heap.size WW ((w.alloc (.cells #[.int .i64 k, .int .i64 lo, .int .i64 hi, .slice an nn cn, .slice ap np cp, .slice ar nr cr] 26)).drewN m)) := hid_of (fun m => by rw [← hWW]; exact bel_drewN (Below.refl _ _) m)
  rw [← hWW] at HX HBW
  obtain ⟨q0, hq0⟩ : ∃ q, q = risB t.ns := ⟨_, rfl⟩
  rw [← hq0] at RC0
  have HQ0 := hid_of hq0
  have RC := RC0
  clear hr H hWW h6 hrl hq0
  cases q0
  · have RF : Hid (false = r) := hid_of (by rw [HR.out]; unfold rnamedB; rw [if_neg H6.out, ← HQ0.out]; rfl)
    go_enter Try.func84, Try.ntmps84
    go_wp2_with (go_at_call 96; ((with_reducible refine (RC.out).mono ?_); (rintro e w2 ⟨rfl, m2, rfl⟩)))
    go_ret
    exact ⟨ret_b RF.out, HBW.out.trans ((K0.out m2).mono HBW.out.size)⟩
  go_enter Try.func84, Try.ntmps84
  go_wp2_with (go_at_call 96; ((with_reducible refine (RC.out).mono ?_); (rintro e w2 ⟨rfl, m2, rfl⟩)))
  go_loopw [4] (fun iv wr => ∃ i : Nat, iv = .int .i64 i ∧ i ≤ nr ∧ Hid (∀ j, j < i → ∀ p, t.rs[j]? = some p → rruleB t.ns p = true) ∧ Hid (Below WW.heap.size WW wr)) (fun iv _ => nr - (intOf iv).toNat)
  case atStart => exact ⟨0, rfl, Nat.zero_le _, hid_of (fun j h => absurd h (Nat.not_lt_zero j)), hid_of (K0.out m2)⟩
  case round =>
    clear RC RC0 K0
    obtain ⟨i, rfl, hin, hq, hb⟩ := hrel
    obtain ⟨p0, p1, p2, p3, p4, p5⟩ := HX.out wr hb.out
    have hbw : Below w.heap.size w wr := HBW.out.trans (hb.out.mono HBW.out.size)
    by_cases hlt : i < nr
    · have d1 : decide (i < nr) = true := decide_eq_true hlt
      have hlt' : (i : Int) < (nr : Int) := by omega
      have HLT := hid_of hlt
      have hl : i < t.rs.length := by have := HRL.out; omega
      obtain ⟨x, hx⟩ : ∃ x, t.rs[i]? = some x := ⟨_, List.getElem?_eq_getElem hl⟩
      obtain ⟨g, o, aA, kA, dA, rfl, RA, hcA⟩ := HH.out.r.get hx
      obtain ⟨c0, c1⟩ := hcA _ hbw
      have HXX := hid_of hx
      have HOX := hid_of (HH.out.or x (List.mem_of_getElem? hx))
      obtain ⟨bx, hbx⟩ : ∃ bx, bx = ba x.2 := ⟨_, rfl⟩
      have HBX2 := hid_of hbx
      rw [← hbx] at c1
      have HKA := hid_of (rds_open RA).1
      have HRA := hid_of RA
      have HBWR := hid_of hbw
      have HWB : Hid (Below WW.heap.size WW (wr.alloc (.cells #[.slice aA kA dA, .string bx] 49))) := hid_of (hb.out.alloc hb.out.size _)
      have HWBw : Hid (Below w.heap.size w (wr.alloc (.cells #[.slice aA kA dA, .string bx] 49))) := hid_of (hbw.alloc hbw.size _)
      obtain ⟨o0, o1, o2, o3, o4, o5⟩ := HX.out (wr.alloc (.cells #[.slice aA kA dA, .string bx] 49)) HWB.out
      have HBC : Hid (∀ w', Below (wr.alloc (.cells #[.slice aA kA dA, .string bx] 49)).heap.size (wr.alloc (.cells #[.slice aA kA dA, .string bx] 49)) w' → w'.cell? ⟨wr.heap.size, 0, none⟩ = some (.slice aA kA dA) ∧ w'.cell? ⟨wr.heap.size, 1, none⟩ = some (.string bx)) := hid_of (fun w' h =>
        ⟨blk_kept (cs := [.slice aA kA dA, .string bx]) (heap_alloc_new wr _) h rfl, blk_kept (cs := [.slice aA kA dA, .string bx]) (heap_alloc_new wr _) h rfl⟩)
      clear hlt hl hx hcA hbx RA hbw
      by_cases hk0 : kA = 0
      · subst hk0
        have RF : Hid (false = r) := hid_of (by rw [HR.out, rr_bad H6.out HXX.out (by unfold rruleB; rw [List.eq_nil_of_length_eq_zero HKA.out.symm]; rfl)])
        go_wp2
        go_ret
        exact ⟨ret_b RF.out, HWBw.out⟩
      have ek : (kA == 0) = false := beq_eq_false_iff_ne.2 hk0
      have ek' : ((kA : Int) == 0) = false := beq_eq_false_iff_ne.2 (by omega)
      have HK0 := hid_of hk0
      have RC := hid_of (rising_any x.1 aA kA dA (wr.alloc (.cells #[.slice aA kA dA, .string bx] 49)) (HRA.out.at HWBw.out) HOX.out.1)
      have IC : Hid (∀ m, Calls Try.prog 95 #[.slice an nn cn, .string bx] ((wr.alloc (.cells #[.slice aA kA dA, .string bx] 49)).drewN m) fun ee w' => ee = .returned (.bool (decide (x.2 ∈ t.ns))) ∧ (wr.alloc (.cells #[.slice aA kA dA, .string bx] 49)).drewN m = w') := hid_of (fun m => by
        have h := rin_any t.ns x.2 an nn cn ((wr.alloc (.cells #[.slice aA kA dA, .string bx] 49)).drewN m) (HH.out.n.at (bel_drewN HWBw.out m))
        rw [← HBX2.out] at h
        exact h.mono fun _ _ h => ⟨h.1, h.2.symm⟩)
      obtain ⟨q1, hq1⟩ : ∃ q, q = risB x.1 := ⟨_, rfl⟩
      obtain ⟨q2, hq2⟩ : ∃ q, q = decide (x.2 ∈ t.ns) := ⟨_, rfl⟩
      rw [← hq1] at RC
      rw [← hq2] at IC
      have HQ1 := hid_of hq1
      have HQ2 := hid_of hq2
      clear hk0 hq1 hq2
      cases q1
      · have RF : Hid (false = r) := hid_of (by rw [HR.out, rr_bad H6.out HXX.out (by unfold rruleB; rw [← HQ1.out]; simp)])
        go_wp2_with (go_at_call 96; ((with_reducible refine (RC.out).mono ?_); (rintro e w2 ⟨rfl, m2, rfl⟩)))
        go_ret
        exact ⟨ret_b RF.out, bel_drewN HWBw.out m2⟩
      cases q2
      · have RF : Hid (false = r) := hid_of (by rw [HR.out, rr_bad H6.out HXX.out (by unfold rruleB; rw [← HQ2.out]; simp)])
        go_wp2_with (first | (go_at_call 96; ((with_reducible refine (RC.out).mono ?_); (rintro e w2 ⟨rfl, m2, rfl⟩))) | (go_at_call 95; ((with_reducible refine (IC.out m2).mono ?_); (rintro e w3 ⟨rfl, rfl⟩))))
        go_ret
        exact ⟨ret_b RF.out, bel_drewN HWBw.out m2⟩
      go_wp2_with (first | (go_at_call 96; ((with_reducible refine (RC.out).mono ?_); (rintro e w2 ⟨rfl, m2, rfl⟩))) | (go_at_call 95; ((with_reducible refine (IC.out m2).mono ?_); (rintro e w3 ⟨rfl, rfl⟩))))
      have KS : Hid (Below (wr.alloc (.cells #[.slice aA kA dA, .string bx] 49)).heap.size (wr.alloc (.cells #[.slice aA kA dA, .string bx] 49)) ((wr.alloc (.cells #[.slice aA kA dA, .string bx] 49)).drewN m2)) := hid_of (bel_drewN (Below.refl _ _) m2)
      obtain ⟨BB, hBB⟩ : ∃ BB, BB = (wr.alloc (.cells #[.slice aA kA dA, .string bx] 49)) := ⟨_, rfl⟩
      rw [← hBB] at HBC HWB HWBw
      have KS2 : Hid (Below BB.heap.size BB ((wr.alloc (.cells #[.slice aA kA dA, .string bx] 49)).drewN m2)) := hid_of (by rw [hBB]; exact KS.out)
      clear KS hBB c0 c1 o0 o1 o2 o3 o4 o5 p0 p1 p2 p3 p4 p5
      go_loopw [6] (fun iv wz => ∃ j : Nat, iv = .int .i64 j ∧ j ≤ kA ∧ Hid (∀ jj, jj < j → ∀ s, x.1[jj]? = some s → decide (s ∈ t.ns) = true) ∧ Hid (Below BB.heap.size BB wz)) (fun iv _ => kA - (intOf iv).toNat)
      case atStart => exact ⟨0, rfl, Nat.zero_le _, hid_of (fun j h => absurd h (Nat.not_lt_zero j)), KS2⟩
      case round =>
        clear KS2 RC IC
        obtain ⟨j, rfl, hjn, hjq, hbj⟩ := hrel
        have hbW : Below WW.heap.size WW wr := HWB.out.trans (hbj.out.mono HWB.out.size)
        have hbw : Below w.heap.size w wr := HWBw.out.trans (hbj.out.mono HWBw.out.size)
        have HbW := hid_of hbW
        have Hbw := hid_of hbw
        obtain ⟨p0, p1, p2, p3, p4, p5⟩ := HX.out wr hbW
        obtain ⟨c0, c1⟩ := HBC.out wr hbj.out
        by_cases hjlt : j < kA
        · have d2 : decide (j < kA) = true := decide_eq_true hjlt
          have hjlt' : (j : Int) < (kA : Int) := by omega
          have HJLT := hid_of hjlt
          obtain ⟨s, hs⟩ : ∃ s, x.1[j]? = some s := ⟨_, List.getElem?_eq_getElem (by have := HKA.out; omega)⟩
          obtain ⟨_, _, _, h3⟩ := rds_open (HRA.out.at hbw)
          rcases h3 with h3 | ⟨g5, o5, rfl, _, hc5⟩
          · exfalso; rw [h3] at hs; simp at hs
          have cs := hc5 j s hs
          have IC : Hid (∀ m, Calls Try.prog 95 #[.slice an nn cn, .string (ba s)] (wr.drewN m) fun ee w' => ee = .returned (.bool (decide (s ∈ t.ns))) ∧ w' = wr.drewN m) := hid_of (fun m => rin_any t.ns s an nn cn _ (HH.out.n.at (bel_drewN hbw m)))
          obtain ⟨bs, hbs⟩ : ∃ bs, bs = ba s := ⟨_, rfl⟩
          rw [← hbs] at cs IC
          obtain ⟨q3, hq3⟩ : ∃ q, q = decide (s ∈ t.ns) := ⟨_, rfl⟩
          rw [← hq3] at IC
          have HSX := hid_of hs
          have HQ3 := hid_of hq3
          clear hs hjlt hbs hq3 hc5 hbW hbw
          cases q3
          · have RF : Hid (false = r) := hid_of (by
              rw [HR.out, rr_bad H6.out HXX.out (by unfold rruleB; rw [all_bad (f := fun s => decide (s ∈ t.ns)) HSX.out HQ3.out.symm, Bool.and_false])])
            go_wp2
            go_quiet ((go_at_call 95; exact Calls.quiet_of_same (IC.out _)))
            go_wp2
            go_ret
            exact ⟨ret_b RF.out, bel_drewN Hbw.out nq⟩
          · go_wp2
            go_quiet ((go_at_call 95; exact Calls.quiet_of_same (IC.out _)))
            go_wp2
            go_roundw
            case rel => exact ⟨j + 1, by go_num, HJLT.out, hid_of (fun jj hjj s' hs' => by
              by_cases e : jj = j
              · subst e
                rw [HSX.out] at hs'
                cases hs'
                exact HQ3.out.symm
              · exact hjq.out jj (by omega) s' hs'), hid_of (bel_drewN hbj.out nq)⟩
            case measure => have := HJLT.out; simp [intOf]; omega
        · have d2 : decide (j < kA) = false := decide_eq_false hjlt
          have RO : Hid (rruleB t.ns x = true) := hid_of (rr_ok (fun h => HK0.out (by rw [HKA.out, h]; rfl)) HQ1.out.symm (of_decide_eq_true HQ2.out.symm) (all_end (f := fun s => decide (s ∈ t.ns)) HKA.out (fun jj hjj s hs => hjq.out jj (by omega) s hs)))
          clear hjlt hbW hbw
          go_wp2
          go_roundw
          case rel => exact ⟨i + 1, by go_num, HLT.out, hid_of (fun jj hjj p hp => by
              by_cases e : jj = i
              · subst e
                rw [HXX.out] at hp
                cases hp
                exact RO.out
              · exact hq.out jj (by omega) p hp), HbW⟩
          case measure => have := HLT.out; simp [intOf]; omega
    · have d1 : decide (i < nr) = false := decide_eq_false hlt
      have RT : Hid (true = r) := hid_of (by
        rw [HR.out]; unfold rnamedB
        rw [if_neg H6.out, ← HQ0.out, all_end HRL.out (fun j hj p hp => hq.out j (by omega) p hp)]; rfl)
      clear hlt
      go_wp2
      go_ret
      exact ⟨ret_b RT.out, hbw⟩
end Go.Proofs.Ytilokloemcphbaa
