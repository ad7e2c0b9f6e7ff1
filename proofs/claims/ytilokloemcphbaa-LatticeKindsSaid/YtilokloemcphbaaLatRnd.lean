/- The reference's named. Bounds on sizes alone. -/
import Derived.Test.YtilokloemcphbaaLatRis
import Derived.Test.YtilokloemcphbaaLatRsh
namespace Go.Proofs.Ytilokloemcphbaa
open Go.RowKit

def rruleB (ns : List Str) (x : Gr) : Bool := !x.1.isEmpty && risB x.1 && decide (x.2 ∈ ns) && x.1.all fun s => decide (s ∈ ns)
def rnamedB (t : Lat) : Bool := if t.k = 6 then t.ns.all nameB && decide t.ns.Nodup else risB t.ns && t.rs.all (rruleB t.ns)
theorem all_imp {α : Type} {f g : α → Bool} {l : List α} (h : ∀ x ∈ l, f x = g x) : l.all f = l.all g := by
  induction l with
  | nil => rfl
  | cons a l ih => rw [List.all_cons, List.all_cons, h a (by simp), ih fun x hx => h x (by simp [hx])]
theorem rnamed_eq {t : Lat} (hs : shapeB t = true) : rnamedB t = (namesB t && rulesB t.ns t.rs) := by
  unfold rnamedB namesB
  by_cases h6 : t.k = 6
  · have hr : t.rs = [] := by
      unfold shapeB at hs
      rw [if_neg (by omega), if_neg (by omega), if_neg (by omega), if_neg (by omega), if_pos h6] at hs
      exact (of_decide_eq_true hs).2.2.1
    rw [if_pos h6, decide_eq_true h6, hr]
    simp [rulesB]
  · rw [if_neg h6, decide_eq_false h6, Bool.false_or]
    unfold risB
    by_cases hn : t.ns.all nameB = true
    · by_cases hss : ssB t.ns = true
      · have hnd : decide t.ns.Nodup = true := decide_eq_true (ss_nodup (of_decide_eq_true hss))
        rw [hn, hss, hnd]
        simp only [Bool.true_and]
        unfold rulesB
        refine all_imp fun x _ => ?_
        unfold rruleB ruleB risB
        rw [List.all_append]
        simp only [List.all_cons, List.all_nil, Bool.and_true]
        by_cases hin : x.1.all (fun s => decide (s ∈ t.ns)) = true
        · have hv : x.1.all nameB = true := by
            rw [List.all_eq_true] at hin hn ⊢
            exact fun s h => hn s (of_decide_eq_true (hin s h))
          rw [hin, hv]
          cases x.1.isEmpty <;> cases ssB x.1 <;> simp
        · rw [Bool.not_eq_true] at hin
          rw [hin]
          simp
      · rw [Bool.not_eq_true] at hss
        rw [hss]
        simp
    · rw [Bool.not_eq_true] at hn
      rw [hn]
      simp
theorem Rd.take {w : World} {ao : Option Addr} {n cap i : Nat} {l : List Str} (h : Rd w (.slice ao n cap) (ss l)) (hi : i ≤ n) : Rd w (.slice ao i cap) (ss (l.take i)) := by
  obtain ⟨hn, h1, h2, h3⟩ := rds_open h
  have hlt : (l.take i).length = i := by rw [List.length_take]; omega
  refine ⟨ao, cap, by rw [ss_length, hlt], by rw [ss_length, hlt]; omega, h2, fun h0 => ?_⟩
  rw [ss_length, hlt] at h0
  rcases h3 with h3 | ⟨g, o, rfl, hg, hc⟩
  · rw [h3] at hn; simp at hn; omega
  · refine ⟨g, o, rfl, hg, fun j u hu => ?_⟩
    simp only [ss, List.getElem?_map] at hu
    obtain ⟨x, hx, rfl⟩ := Option.map_eq_some_iff.1 hu
    rw [List.getElem?_take] at hx
    split at hx
    · exact hc j x hx
    · cases hx
theorem nd_bad {t : Lat} {i : Nat} {x : Str} (h6 : t.k = 6) (hx : t.ns[i]? = some x) (hn : x ∈ t.ns.take i) : rnamedB t = false := by
  unfold rnamedB; rw [if_pos h6, decide_eq_false (nodup_bad hx hn), Bool.and_false]
theorem nd_inv {t : Lat} {i : Nat} {x : Str} (h6 : t.k = 6) (hx : t.ns[i]? = some x) (hn : nameB x = false) : rnamedB t = false := by
  unfold rnamedB; rw [if_pos h6, all_bad hx hn, Bool.false_and]
set_option maxRecDepth 100000 in
set_option maxHeartbeats 6400000 in
theorem rnamed6_any (t : Lat) (lo hi : Int) (an : Option Addr) (nn cn : Nat) (ap : Option Addr) (np cp : Nat) (ar : Option Addr) (nr cr : Nat) (w : World) (H : LO w 6 lo hi an nn cn ap np cp ar nr cr t) : Calls Try.prog 84 #[.agg #[.int .i64 6, .int .i64 lo, .int .i64 hi, .slice an nn cn, .slice ap np cp, .slice ar nr cr]] w (BoP (rnamedB t) w) := by
  obtain ⟨r, hr⟩ : ∃ r, r = rnamedB t := ⟨_, rfl⟩
  rw [← hr]
  have HR := hid_of hr
  have HH := hid_of H
  have HN := hid_of H.ln
  have H6 : Hid (t.k = 6) := hid_of H.hk.symm
  obtain ⟨hnl, hcn, hcap, h3⟩ := rds_open H.n
  have H3 := hid_of h3
  have HBW := hid_of (bel_alloc w (.cells #[.int .i64 6, .int .i64 lo, .int .i64 hi, .slice an nn cn, .slice ap np cp, .slice ar nr cr] 26))
  have HX : Hid (∀ wz, Below (w.alloc (.cells #[.int .i64 6, .int .i64 lo, .int .i64 hi, .slice an nn cn, .slice ap np cp, .slice ar nr cr] 26)).heap.size (w.alloc (.cells #[.int .i64 6, .int .i64 lo, .int .i64 hi, .slice an nn cn, .slice ap np cp, .slice ar nr cr] 26)) wz → _) := hid_of (fun wz hz => box6 6 lo hi an nn cn ap np cp ar nr cr hz)
  obtain ⟨WW, hWW⟩ : ∃ WW, WW = (w.alloc (.cells #[.int .i64 6, .int .i64 lo, .int .i64 hi, .slice an nn cn, .slice ap np cp, .slice ar nr cr] 26)) := ⟨_, rfl⟩
  have K0 : Hid (Below WW.heap.size WW (w.alloc (.cells #[.int .i64 6, .int .i64 lo, .int .i64 hi, .slice an nn cn, .slice ap np cp, .slice ar nr cr] 26))) := hid_of (by rw [← hWW]; exact Below.refl _ _)
  rw [← hWW] at HX HBW
  clear hr H hWW h3 hnl
  go_enter Try.func84, Try.ntmps84
  go_wp2
  go_loopw [3] (fun iv wr => ∃ i : Nat, iv = .int .i64 i ∧ i ≤ nn ∧ Hid ((∀ x ∈ t.ns.take i, nameB x = true) ∧ (t.ns.take i).Nodup) ∧ Hid (Below WW.heap.size WW wr)) (fun iv _ => nn - (intOf iv).toNat)
  case atStart => exact ⟨0, rfl, Nat.zero_le _, hid_of ⟨by simp, by simp⟩, K0⟩
  case round =>
    obtain ⟨i, rfl, hin, hq, hb⟩ := hrel
    obtain ⟨p0, p1, p2, p3, p4, p5⟩ := HX.out wr hb.out
    have hbw : Below w.heap.size w wr := HBW.out.trans (hb.out.mono HBW.out.size)
    by_cases hlt : i < nn
    · have d1 : decide (i < nn) = true := decide_eq_true hlt
      have hlt' : (i : Int) < (nn : Int) := by omega
      have h0i : (0 : Int) ≤ (i : Int) := by omega
      have hic : (i : Int) ≤ (cn : Int) := by omega
      have HLT := hid_of hlt
      have hl : i < t.ns.length := by have := HN.out; omega
      rcases H3.out with h3 | ⟨g, o, rfl, hg, hc⟩
      · exfalso; rw [h3] at hl; simp at hl
      obtain ⟨x, hx⟩ : ∃ x, t.ns[i]? = some x := ⟨_, List.getElem?_eq_getElem hl⟩
      have c1 := (hbw.cell (p := ⟨g, o + i, none⟩) hg).trans (hc i _ hx)
      have hxl := HH.out.on x (List.mem_of_getElem? hx)
      have VC : Hid (∀ w, Calls Try.prog 94 #[.string (ba x)] w fun ee w' => ee = .returned (.bool (nameB x)) ∧ w' = w) := hid_of (fun w => rname9_any (ba x) w (by unfold maxLen; show x.toArray.size ≤ _; simpa using hxl))
      have IC : Hid (∀ m, Calls Try.prog 95 #[.slice (some ⟨g, o, none⟩) i cn, .string (ba x)] (wr.drewN m) fun ee w' => ee = .returned (.bool (decide (x ∈ t.ns.take i))) ∧ w' = wr.drewN m) := hid_of (fun m => rin_any _ x (some ⟨g, o, none⟩) i cn _ ((HH.out.n.at (bel_drewN hbw m)).take (by omega)))
      obtain ⟨qv, hqv⟩ : ∃ q, q = nameB x := ⟨_, rfl⟩
      obtain ⟨qi, hqi⟩ : ∃ q, q = decide (x ∈ t.ns.take i) := ⟨_, rfl⟩
      rw [← hqv] at VC
      rw [← hqi] at IC
      obtain ⟨bk, hbk⟩ : ∃ b, b = ba x := ⟨_, rfl⟩
      rw [← hbk] at c1 VC IC
      have HXX := hid_of hx
      cases qv
      · have RF : Hid (false = r) := hid_of (by rw [HR.out, nd_inv H6.out hx hqv.symm])
        clear hc hx hxl hqv hqi hbk hlt hl H3 hbw IC
        go_wp2
        go_quiet ((go_at_call 94; exact Calls.quiet_of_same (VC.out _)))
        go_wp2
        go_ret
        exact ⟨ret_b RF.out, HBW.out.trans ((bel_drewN hb.out nq).mono HBW.out.size)⟩
      cases qi
      case true =>
        have RF : Hid (false = r) := hid_of (by rw [HR.out, nd_bad H6.out hx (of_decide_eq_true hqi.symm)])
        clear hc hx hxl hqv hqi hbk hlt hl H3 hbw
        go_wp2
        go_quiet (first | ((go_at_call 94; exact Calls.quiet_of_same (VC.out _))) | ((go_at_call 95; exact Calls.quiet_of_same (IC.out _))))
        go_wp2
        go_ret
        exact ⟨ret_b RF.out, HBW.out.trans ((bel_drewN hb.out nq).mono HBW.out.size)⟩
      have HQ2 : Hid ((∀ x ∈ t.ns.take (i + 1), nameB x = true) ∧ (t.ns.take (i + 1)).Nodup) := hid_of ⟨fun y hy => by
        rw [take_next hx, List.mem_append, List.mem_singleton] at hy
        rcases hy with hy | rfl
        · exact hq.out.1 y hy
        · exact hqv.symm, nodup_next hq.out.2 hx (of_decide_eq_false hqi.symm)⟩
      clear hc hx hxl hqv hqi hbk hlt hl H3 hbw
      go_wp2
      go_quiet (first | ((go_at_call 94; exact Calls.quiet_of_same (VC.out _))) | ((go_at_call 95; exact Calls.quiet_of_same (IC.out _))))
      go_wp2
      go_roundw
      case rel => exact ⟨i + 1, by go_num, HLT.out, HQ2, hid_of (bel_drewN hb.out nq)⟩
      case measure => have := HLT.out; simp [intOf]; omega
    · have d1 : decide (i < nn) = false := decide_eq_false hlt
      have RT : Hid (true = r) := hid_of (by
        have e : i = t.ns.length := by have := HN.out; omega
        have h := hq.out
        rw [e, List.take_length] at h
        rw [HR.out]; unfold rnamedB
        rw [if_pos H6.out, List.all_eq_true.2 h.1, decide_eq_true h.2]; rfl)
      clear hlt
      go_wp2
      go_ret
      exact ⟨ret_b RT.out, hbw⟩
end Go.Proofs.Ytilokloemcphbaa
