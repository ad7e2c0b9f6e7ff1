/- areRules of package lattice. Bounds on sizes alone. -/
import Derived.Test.YtoogcafceghdjaaLatNam
import Derived.WalkMore
namespace Go.Proofs.Ytoogcafceghdjaa
open Go.RowKit Go.Maps

theorem all_bad {α : Type} {f : α → Bool} {l : List α} {i : Nat} {p : α} (h : l[i]? = some p) (hf : f p = false) : l.all f = false := by
  rw [Bool.eq_false_iff]
  intro h2
  rw [List.all_eq_true] at h2
  rw [h2 p (List.mem_of_getElem? h)] at hf
  cases hf
theorem all_end {α : Type} {f : α → Bool} {l : List α} {n : Nat} (hn : n = l.length) (h : ∀ i, i < n → ∀ p, l[i]? = some p → f p = true) : l.all f = true := by
  rw [List.all_eq_true]
  intro p hp
  obtain ⟨i, hi⟩ := List.getElem?_of_mem hp
  exact h i (by have := (List.getElem?_eq_some_iff.1 hi).1; omega) p hi
theorem ruleB_empty {ns : List Str} {r : Gr} (h : r.1 = []) : ruleB ns r = false := by unfold ruleB; rw [h]; rfl
theorem ruleB_sorted {ns : List Str} {r : Gr} (h : ssB r.1 = false) : ruleB ns r = false := by unfold ruleB; rw [h, Bool.and_false, Bool.false_and]
theorem ruleB_in {ns : List Str} {r : Gr} {j : Nat} {s : Str} (h : (r.1 ++ [r.2])[j]? = some s) (hs : s ∉ ns) : ruleB ns r = false := by
  unfold ruleB
  rw [all_bad (f := fun s => decide (s ∈ ns)) h (decide_eq_false hs), Bool.and_false]
theorem ruleB_ok {ns : List Str} {r : Gr} {n : Nat} (h0 : r.1 ≠ []) (h1 : ssB r.1 = true) (hn : n = (r.1 ++ [r.2]).length) (h : ∀ j, j < n → ∀ s, (r.1 ++ [r.2])[j]? = some s → s ∈ ns) : ruleB ns r = true := by
  unfold ruleB
  rw [all_end (f := fun s => decide (s ∈ ns)) hn (fun j hj s hs => decide_eq_true (h j hj s hs)), h1]
  cases hr : r.1 with
  | nil => exact absurd hr h0
  | cons a l => rfl
theorem bel_two {w : World} {B : Nat} {w' : World} {o o2 : Obj} (h : Below B w w') (hB : B ≤ w'.heap.size) : Below B w ((w'.alloc o).alloc o2) := (h.alloc hB o).alloc (by simp; omega) o2
set_option maxRecDepth 100000 in
set_option maxHeartbeats 6400000 in
theorem rules_any (ns : List Str) (rs : List Gr) (an : Option Addr) (nn cn : Nat) (ar : Option Addr) (nr cr : Nat) (w : World) (R1 : Rd w (.slice an nn cn) (ss ns)) (R2 : RuR w (.slice ar nr cr) rs) (on : Ok ns) (or : OkR rs) :
    Calls Try.prog 66 #[.slice an nn cn, .slice ar nr cr] w (BoP (rulesB ns rs) w) := by
  obtain ⟨r, hr⟩ : ∃ r, r = rulesB ns rs := ⟨_, rfl⟩
  rw [← hr]
  have HR := hid_of hr
  have HRD := hid_of (rds_open R1)
  have HR2 := hid_of R2
  have HRL := hid_of R2.len
  have hcn : nn ≤ 9223372036854775807 := by have := HRD.out; omega
  have hcr : nr ≤ 9223372036854775807 := by have := HRL.out; omega
  have ON := hid_of on
  have OR := hid_of or
  have hmm := @run_makeMap Try.prog
  have HM0 : Hid (MapS (w.alloc (.map #[] 0)) w.heap.size 0 []) := hid_of (mapS_made w)
  have HB0 : Hid (Kept (fun k => k = w.heap.size) (w.alloc (.map #[] 0)) (w.alloc (.map #[] 0))) := hid_of (Kept.refl _ _)
  have HBX : Hid (∀ w', Kept (fun k => k = w.heap.size) (w.alloc (.map #[] 0)) w' → Below w.heap.size w w') := hid_of (fun w' h =>
    ((Below.refl w.heap.size w).alloc (Nat.le_refl _) _).trans (h.below (by simp) (fun k hk => by omega)))
  clear hr R1 R2 on or
  go_enter Try.func66, Try.ntmps66
  go_wp2
  go_step3
  go_wp2
  clear hmm
  go_loopw [16] (fun iv wr => ∃ (i : Nat), iv = .int .i64 i ∧ i ≤ nn ∧ Hid (MapS wr w.heap.size i (ns.take i)) ∧ Hid (Kept (fun k => k = w.heap.size) (w.alloc (.map #[] 0)) wr)) (fun iv _ => nn - (intOf iv).toNat)
  case atStart => exact ⟨0, rfl, Nat.zero_le _, HM0, HB0⟩
  case round =>
    obtain ⟨i, rfl, hi, hm, hk⟩ := hrel
    have BX := hid_of (HBX.out wr hk.out)
    by_cases hlt : i < nn
    · have d1 : decide (i < nn) = true := decide_eq_true hlt
      have hlt' : (i : Int) < (nn : Int) := by omega
      have HLT := hid_of hlt
      have hl : i < ns.length := by have := HRD.out.1; omega
      rcases HRD.out.2.2.2 with h3 | ⟨g, o, rfl, hg, hc⟩
      · exfalso; rw [h3] at hl; simp at hl
      obtain ⟨x, hx⟩ : ∃ x, ns[i]? = some x := ⟨_, List.getElem?_eq_getElem hl⟩
      have c1 := (BX.out.cell (p := ⟨g, o + i, none⟩) hg).trans (hc i _ hx)
      have HX := hid_of hx
      have HXL : Hid (x.length ≤ 9223372036854775807) := hid_of (ON.out x (List.mem_of_getElem? hx))
      obtain ⟨bx, hbx⟩ : ∃ bx, bx = ba x := ⟨_, rfl⟩
      have HBX2 := hid_of hbx
      rw [← hbx] at c1
      have hi9 : Hid (i < 9223372036854775807) := hid_of (by omega)
      clear hlt hc hx hbx hl
      go_wp2_with (at_mapUpdate; ((refine wpList_put rfl _ _ _ rfl w.heap.size i (ns.take i) x rfl (by rw [← HBX2.out]; rfl) rfl hm.out hi9.out HXL.out ?_); intro w2 hm2 hg2; have M2 := hid_of hm2; have G2 := hid_of hg2; clear hm2 hg2))
      go_roundw
      case rel => exact ⟨i + 1, by go_num, HLT.out, hid_of (by rw [take_next HX.out]; exact M2.out), hid_of (hk.out.trans ⟨G2.out.os, G2.out.tape, G2.out.output, G2.out.size, fun k hk2 hn => G2.out.block k hk2 (fun e => hn (by cases e; rfl))⟩)⟩
      case measure => have := HLT.out; simp [intOf]; omega
    · have d1 : decide (i < nn) = false := decide_eq_false hlt
      have HM : Hid (MapS wr w.heap.size nn ns) := hid_of (by
        have e1 : i = nn := by omega
        have := hm.out
        rw [e1, HRD.out.1, List.take_length] at this
        rw [HRD.out.1]; exact this)
      clear hm hk hlt
      go_wp2
      go_step3
      go_wp2
      go_loopw [8, 25] (fun ov iv wr => ∃ (i : Nat), ov = .bool true ∧ iv = .int .i64 i ∧ i ≤ nr ∧ Hid (∀ j, j < i → ∀ p, rs[j]? = some p → ruleB ns p = true) ∧ Hid (MapS wr w.heap.size nn ns) ∧ Hid (Below w.heap.size w wr)) (fun _ iv _ => nr - (intOf iv).toNat)
      case atStart => exact ⟨0, rfl, rfl, Nat.zero_le _, hid_of (fun j h => absurd h (Nat.not_lt_zero j)), HM, BX⟩
      case round =>
        clear HM BX
        obtain ⟨i, rfl, rfl, hi, hq, hm, hb⟩ := hrel
        by_cases hlt : i < nr
        · have d1 : decide (i < nr) = true := decide_eq_true hlt
          have hlt' : (i : Int) < (nr : Int) := by omega
          have HLT := hid_of hlt
          have hl : i < rs.length := by have := HRL.out.1; omega
          obtain ⟨x, hx⟩ : ∃ x, rs[i]? = some x := ⟨_, List.getElem?_eq_getElem hl⟩
          obtain ⟨g, o, aA, kA, dA, rfl, RA, hcA⟩ := HR2.out.get hx
          obtain ⟨c0, c1⟩ := hcA _ hb.out
          have HX := hid_of hx
          have HOX := hid_of (OR.out x (List.mem_of_getElem? hx))
          obtain ⟨bx, hbx⟩ : ∃ bx, bx = ba x.2 := ⟨_, rfl⟩
          have HBX2 := hid_of hbx
          rw [← hbx] at c1
          have HRA := hid_of RA
          have HKA := hid_of (rds_open RA).1
          have HWB : Hid (Below w.heap.size w (wr.alloc (.cells #[.slice aA kA dA, .string bx] 58))) := hid_of (hb.out.alloc hb.out.size _)
          have HBC : Hid (∀ w', Below (wr.alloc (.cells #[.slice aA kA dA, .string bx] 58)).heap.size (wr.alloc (.cells #[.slice aA kA dA, .string bx] 58)) w' → w'.cell? ⟨wr.heap.size, 0, none⟩ = some (.slice aA kA dA) ∧ w'.cell? ⟨wr.heap.size, 1, none⟩ = some (.string bx)) := hid_of (fun w' h =>
            ⟨blk_kept (cs := [.slice aA kA dA, .string bx]) (heap_alloc_new wr _) h rfl, blk_kept (cs := [.slice aA kA dA, .string bx]) (heap_alloc_new wr _) h rfl⟩)
          clear hlt hl hx hcA hbx RA
          by_cases hk0 : kA = 0
          · subst hk0
            have RF : Hid (false = r) := hid_of (by
              rw [HR.out]
              exact (all_bad HX.out (ruleB_empty (List.eq_nil_of_length_eq_zero HKA.out.symm))).symm)
            go_wp2
            rw [Exit.noGoto_ret]
            go_ret
            exact ⟨ret_b RF.out, HWB.out⟩
          have e0 : (kA == 0) = false := beq_eq_false_iff_ne.2 hk0
          have HK0 := hid_of hk0
          have SC := hid_of (sorted_any aA kA dA x.1 _ (HRA.out.at HWB.out))
          obtain ⟨q, hqs⟩ : ∃ q, q = ssB x.1 := ⟨_, rfl⟩
          rw [← hqs] at SC
          have HQS := hid_of hqs
          clear hk0 hqs
          cases q
          · have RF : Hid (false = r) := hid_of (by rw [HR.out]; exact (all_bad HX.out (ruleB_sorted HQS.out.symm)).symm)
            go_wp2_with (go_at_call 81; ((with_reducible refine (SC.out).mono ?_); (rintro e w2 ⟨rfl, h2⟩)); (have H2 := hid_of h2); clear h2)
            rw [Exit.noGoto_ret]
            go_ret
            exact ⟨ret_b RF.out, HWB.out.trans (H2.out.mono HWB.out.size)⟩
          · obtain ⟨L, hL⟩ : ∃ L, L = x.1 ++ [x.2] := ⟨_, rfl⟩
            have HL := hid_of hL
            have HLL : Hid (∀ s ∈ L, s.length ≤ 9223372036854775807) := hid_of (fun s hs => by
              rw [hL, List.mem_append, List.mem_singleton] at hs
              rcases hs with hs | rfl
              · exact HOX.out.1 s hs
              · exact HOX.out.2.1)
            have CAT : Hid (∀ w2, Below (wr.alloc (.cells #[.slice aA kA dA, .string bx] 58)).heap.size (wr.alloc (.cells #[.slice aA kA dA, .string bx] 58)) w2 → Calls Try.prog 82 #[.slice (some ⟨w2.heap.size + 1, 0, none⟩) 2 2] ((w2.alloc (.cells #[.string bx] 9)).alloc (.cells #[.slice aA kA dA, .slice (some ⟨w2.heap.size, 0, none⟩) 1 1] 22)) fun e w' => ∃ (g2 o2 n xc : Nat), e = .returned (.slice (some ⟨g2, o2, none⟩) n xc) ∧ n = L.length ∧ n ≤ xc ∧ xc ≤ 9223372036854775807 ∧ (∀ (j : Nat) (s : Str), L[j]? = some s → w'.cell? ⟨g2, o2 + j, none⟩ = some (.string (ba s))) ∧ Below wr.heap.size wr w') := hid_of (fun w2 h => by
              have hwr : Below wr.heap.size wr w2 := (bel_alloc wr _).trans (h.mono (by simp))
              have hw : Below w.heap.size w w2 := hb.out.trans (hwr.mono hb.out.size)
              have hs2 : wr.heap.size ≤ w2.heap.size := hwr.size
              have q := two_new w2 (.cells #[.string bx] 9) (.cells #[.slice aA kA dA, .slice (some ⟨w2.heap.size, 0, none⟩) 1 1] 22)
              have hsz : w2.heap.size + 1 < ((w2.alloc (.cells #[.string bx] 9)).alloc (.cells #[.slice aA kA dA, .slice (some ⟨w2.heap.size, 0, none⟩) 1 1] 22)).heap.size := by simp
              have Rb : Rd ((w2.alloc (.cells #[.string bx] 9)).alloc (.cells #[.slice aA kA dA, .slice (some ⟨w2.heap.size, 0, none⟩) 1 1] 22)) (.slice (some ⟨w2.heap.size, 0, none⟩) 1 1) (ss [x.2]) :=
                (rd_new (w := w2) (l := ss [x.2]) (n := 1) rfl (by rw [HBX2.out]; rfl) (by simp [ss])).at (bel_alloc _ _)
              refine (concat_any (w2.heap.size + 1) aA kA dA (some ⟨w2.heap.size, 0, none⟩) 1 1 x.1 [x.2] _ (HRA.out.at (bel_two hw hw.size)) Rb (by have := HOX.out.2.2; simp; omega) hsz (blk_kept (cs := [.slice aA kA dA, .slice (some ⟨w2.heap.size, 0, none⟩) 1 1]) q.2 (Below.refl _ _) rfl) (blk_kept (cs := [.slice aA kA dA, .slice (some ⟨w2.heap.size, 0, none⟩) 1 1]) q.2 (Below.refl _ _) rfl)).mono ?_
              rintro e w' ⟨xo, xc, rfl, O⟩
              have hlen : (ss (x.1 ++ [x.2])).length = (x.1 ++ [x.2]).length := ss_length _
              have Rd' := O.rd (by rw [hlen]; have := HOX.out.2.2; simp; omega)
              obtain ⟨_, r1, r2, r3⟩ := rds_open Rd'
              rcases r3 with r3 | ⟨g2, o2, rfl, _, r4⟩
              · simp at r3
              refine ⟨g2, o2, _, xc, rfl, by rw [hL], r1, r2, fun j s hj => r4 j s (by rw [← hL]; exact hj), (bel_two hwr hwr.size).trans (O.bel.mono (by simp; omega))⟩)
            clear hL
            go_wp2_with (first
              | (go_at_call 81; ((with_reducible refine (SC.out).mono ?_); (rintro e w2 ⟨rfl, h2⟩)); (have H2 := hid_of h2); (obtain ⟨s0, s1⟩ := HBC.out w2 h2); clear h2)
              | (go_at_call 82; ((with_reducible refine (CAT.out w2 H2.out).mono ?_); (rintro e w6 ⟨g2, o2, n, xc, rfl, hn, hnc, hxc, hc6, hb6⟩); (have HN6 := hid_of hn); (have HC6 := hid_of hc6); (have HB6 := hid_of hb6); clear hn hc6 hb6)))
            have hm6 : Hid (MapS w6 w.heap.size nn ns) := hid_of (hm.out.same (HB6.out.block _ hm.out.lt))
            clear c0 c1 s0 s1
            go_loopw [8, 47] (fun ov iv w7 => ∃ j : Nat, ov = .bool true ∧ iv = .int .i64 j ∧ j ≤ n ∧ Hid (∀ jj, jj < j → ∀ s, L[jj]? = some s → s ∈ ns) ∧ w6 = w7) (fun _ iv _ => n - (intOf iv).toNat)
            case atStart => exact ⟨0, rfl, rfl, Nat.zero_le _, hid_of (fun j h => absurd h (Nat.not_lt_zero j)), rfl⟩
            case round =>
              obtain ⟨j, rfl, rfl, hj, hjn, rfl⟩ := hrel
              by_cases hjlt : j < n
              · have d2 : decide (j < n) = true := decide_eq_true hjlt
                have hjlt' : (j : Int) < (n : Int) := by omega
                have HJLT := hid_of hjlt
                obtain ⟨s, hs⟩ : ∃ s, L[j]? = some s := ⟨_, List.getElem?_eq_getElem (by have := HN6.out; omega)⟩
                have cs := HC6.out j s hs
                have hlk := hm6.out.look s (HLL.out s (List.mem_of_getElem? hs))
                have HS := hid_of hs
                obtain ⟨bs, hbs⟩ : ∃ bs, bs = ba s := ⟨_, rfl⟩
                rw [← hbs] at cs hlk
                clear hs hjlt hbs
                by_cases hin : s ∈ ns
                · rw [decide_eq_true hin] at hlk
                  have HIN := hid_of hin
                  clear hin
                  go_wp2
                  go_roundw
                  case rel => exact ⟨j + 1, rfl, by go_num, HJLT.out, hid_of (fun jj hjj s' hs' => by
                    by_cases e : jj = j
                    · subst e
                      rw [HS.out] at hs'
                      cases hs'
                      exact HIN.out
                    · exact hjn.out jj (by omega) s' hs'), by first | trivial | rfl⟩
                  case measure => have := HJLT.out; simp [intOf]; omega
                · rw [decide_eq_false hin] at hlk
                  have RF : Hid (false = r) := hid_of (by rw [HR.out]; exact (all_bad HX.out (ruleB_in (j := j) (s := s) (by rw [← HL.out]; exact HS.out) hin)).symm)
                  clear hin
                  go_wp2
                  rw [Exit.noGoto_ret]
                  go_ret
                  exact ⟨ret_b RF.out, hb.out.trans (HB6.out.mono hb.out.size)⟩
              · have d2 : decide (j < n) = false := decide_eq_false hjlt
                have RO : Hid (ruleB ns x = true) := hid_of (ruleB_ok (n := n) (fun h => HK0.out (by rw [HKA.out, h]; rfl)) HQS.out.symm (by rw [HN6.out, HL.out]) (fun jj hjj s hs => hjn.out jj (by omega) s (by rw [HL.out]; exact hs)))
                clear hjlt
                go_wp2
                go_roundw
                case rel => exact ⟨i + 1, rfl, by go_num, HLT.out, hid_of (fun jj hjj p hp => by
                    by_cases e : jj = i
                    · subst e
                      rw [HX.out] at hp
                      cases hp
                      exact RO.out
                    · exact hq.out jj (by omega) p hp), hm6, hid_of (hb.out.trans (HB6.out.mono hb.out.size))⟩
                case measure => have := HLT.out; simp [intOf]; omega
        · have d1 : decide (i < nr) = false := decide_eq_false hlt
          have RT : Hid (true = r) := hid_of (by
            rw [HR.out]
            exact (all_end HRL.out.1 (fun j hj p hp => hq.out j (by omega) p hp)).symm)
          clear hlt
          go_wp2
          rw [Exit.noGoto_ret]
          go_ret
          exact ⟨ret_b RT.out, hb.out⟩
end Go.Proofs.Ytoogcafceghdjaa
