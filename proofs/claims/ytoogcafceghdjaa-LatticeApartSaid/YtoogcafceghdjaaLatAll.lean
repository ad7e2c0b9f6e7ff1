/- all of package lattice, over whatever function. Bounds on sizes alone. -/
import Derived.Test.YtoogcafceghdjaaLatDep
import Derived.Shelf.Abstract
namespace Go.Proofs.Ytoogcafceghdjaa
open Go.RowKit

def BoP (b : Bool) (w : World) (e : Ending) (w' : World) : Prop := e = .returned (.bool b) ∧ Below w.heap.size w w'
theorem all_yes {f : Lat → Bool} {l : List Lat} {n : Nat} (hn : n = l.length) (h : ∀ i, i < n → ∀ p, l[i]? = some p → f p = true) : l.all f = true := by
  rw [List.all_eq_true]
  intro p hp
  obtain ⟨i, hi⟩ := List.getElem?_of_mem hp
  exact h i (by have := (List.getElem?_eq_some_iff.1 hi).1; omega) p hi
theorem all_no {f : Lat → Bool} {l : List Lat} {i : Nat} {p : Lat} (h : l[i]? = some p) (hf : f p = false) : l.all f = false := by
  rw [Bool.eq_false_iff]
  intro h2
  rw [List.all_eq_true] at h2
  rw [h2 p (List.mem_of_getElem? h)] at hf
  cases hf
set_option maxRecDepth 100000 in
set_option maxHeartbeats 3200000 in
theorem all_any (F : Nat) (f : Lat → Bool) (eg : ∀ args w, (callFunc F args).run Try.prog w = .ok (.enter F args) w) (ap : Option Addr) (np cp : Nat) (ts : List Lat) (w : World) (R : LDs w (.slice ap np cp) ts)
    (hF : ∀ p ∈ ts, ∀ (k lo hi : Int) (an : Option Addr) (nn cn : Nat) (ap : Option Addr) (np cp : Nat) (ar : Option Addr) (nr cr : Nat) (w : World), LO w k lo hi an nn cn ap np cp ar nr cr p → Calls Try.prog F #[.agg #[.int .i64 k, .int .i64 lo, .int .i64 hi, .slice an nn cn, .slice ap np cp, .slice ar nr cr]] w (BoP (f p) w)) :
    Calls Try.prog 43 #[.slice ap np cp, .func (.func F) #[] #[]] w (BoP (ts.all f) w) := by
  have hl := R.len
  have HN : Hid (np = ts.length) := hid_of hl.1
  have hn : np ≤ 9223372036854775807 := by omega
  have HP := hid_of R
  have HF := hid_of hF
  clear hl R hF
  go_enter Try.func43, Try.ntmps43
  go_wp2
  go_loopw [9] (fun iv wr => ∃ i : Nat, iv = .int .i64 i ∧ i ≤ np ∧ Hid (∀ j, j < i → ∀ p, ts[j]? = some p → f p = true) ∧ Hid (Below w.heap.size w wr)) (fun iv _ => np - (intOf iv).toNat)
  case atStart => exact ⟨0, rfl, Nat.zero_le _, hid_of (fun j h => absurd h (Nat.not_lt_zero j)), hid_of (Below.refl _ _)⟩
  case round =>
    obtain ⟨i, rfl, hi, HM, hb⟩ := hrel
    by_cases hlt : i < np
    · have d1 : decide (i < np) = true := decide_eq_true hlt
      have hlt' : (i : Int) < (np : Int) := by omega
      have HLT := hid_of hlt
      obtain ⟨u, hu⟩ : ∃ u, ts[i]? = some u := ⟨_, List.getElem?_eq_getElem (by have := HN.out; omega)⟩
      obtain ⟨g, o, kA, loA, hiA, anA, nnA, cnA, apA, npA, cpA, arA, nrA, crA, rfl, LU, hc⟩ := HP.out.get hu
      obtain ⟨c0, c1, c2, c3, c4, c5⟩ := hc wr hb.out
      have CALL := hid_of (HF.out u (List.mem_of_getElem? hu) kA loA hiA anA nnA cnA apA npA cpA arA nrA crA)
      have HU := hid_of hu
      have LV := hid_of LU
      clear hlt hc hu LU
      obtain ⟨b, hb2⟩ : ∃ b, b = f u := ⟨_, rfl⟩
      have HB := hid_of hb2
      rw [← hb2] at CALL
      clear hb2
      cases b
      · go_wp2_with (go_at_fn F; go_loud (refine (CALL.out _ (LV.out.at (hb.out.alloc hb.out.size _))).mono ?_; rintro e w2 ⟨rfl, h2⟩; have H2 := hid_of h2; clear h2))
        go_ret
        exact ⟨ret_b (all_no HU.out HB.out.symm).symm, (hb.out.alloc hb.out.size _).trans (H2.out.mono (by simp; exact Nat.le_succ_of_le hb.out.size))⟩
      · go_wp2_with (go_at_fn F; go_loud (refine (CALL.out _ (LV.out.at (hb.out.alloc hb.out.size _))).mono ?_; rintro e w2 ⟨rfl, h2⟩; have H2 := hid_of h2; clear h2))
        go_roundw
        case rel => exact ⟨i + 1, by go_num, HLT.out, hid_of (fun j hj p hp => by
          by_cases e : j = i
          · subst e
            rw [HU.out] at hp
            cases hp
            exact HB.out.symm
          · exact HM.out j (by omega) p hp), hid_of ((hb.out.alloc hb.out.size _).trans (H2.out.mono (by simp; exact Nat.le_succ_of_le hb.out.size)))⟩
        case measure => have := HLT.out; simp [intOf]; omega
    · have d1 : decide (i < np) = false := decide_eq_false hlt
      have HI : Hid (i = np) := hid_of (by omega)
      go_wp2
      go_ret
      exact ⟨ret_b (all_yes HN.out (fun j hj p hp => HM.out j (by have := HI.out; omega) p hp)).symm, hb.out⟩
end Go.Proofs.Ytoogcafceghdjaa
