/- Depth of package lattice. Bounds on the depth and on sizes alone. -/
import Derived.Test.YtoogcafceghdjaaLatRow
namespace Go.Proofs.Ytoogcafceghdjaa
open Go.RowKit

theorem depthsL_get : ∀ (l : List Lat) (i : Nat) (p : Lat), l[i]? = some p → depthL p ≤ depthsL l := by
  intro l
  induction l with
  | nil => intro i p h; simp at h
  | cons q l ih =>
    intro i p h
    rw [depthsL]
    cases i with
    | zero => simp at h; subst h; omega
    | succ i => have := ih i p (by simpa using h); omega
theorem depthsL_snoc : ∀ (l : List Lat) (p : Lat), depthsL (l ++ [p]) = max (depthsL l) (depthL p) := by
  intro l
  induction l with
  | nil => intro p; simp [depthsL]
  | cons q l ih => intro p; simp only [List.cons_append, depthsL, ih]; omega
theorem depthsL_take : ∀ (l : List Lat) (i : Nat), depthsL (l.take i) ≤ depthsL l := by
  intro l
  induction l with
  | nil => intro i; simp
  | cons p l ih =>
    intro i
    cases i with
    | zero => simp [depthsL]
    | succ i => have := ih i; simp only [List.take_succ_cons, depthsL]; omega
theorem depthL_eq (t : Lat) : depthL t = depthsL t.ps + 1 := by cases t; rw [depthL]; rfl
theorem take_next {α : Type} {l : List α} {i : Nat} {p : α} (h : l[i]? = some p) : l.take (i + 1) = l.take i ++ [p] := by
  rw [List.take_add_one, h]; rfl
def DepP (t : Lat) (w : World) (e : Ending) (w' : World) : Prop := e = .returned (.int .i64 (depthL t : Nat)) ∧ Below w.heap.size w w'
set_option maxRecDepth 100000 in
set_option maxHeartbeats 3200000 in
theorem depth_any : ∀ (t : Lat) (k lo hi : Int) (an : Option Addr) (nn cn : Nat) (ap : Option Addr) (np cp : Nat) (ar : Option Addr) (nr cr : Nat) (w : World), LO w k lo hi an nn cn ap np cp ar nr cr t → depthL t ≤ 1000 → Calls Try.prog 19 #[.agg #[.int .i64 k, .int .i64 lo, .int .i64 hi, .slice an nn cn, .slice ap np cp, .slice ar nr cr]] w (DepP t w) := by
  refine lat_ind ?_
  intro k' lo' hi' ns' ps' rs' ih k lo hi an nn cn ap np cp ar nr cr w H hD
  rw [depthL_eq] at hD
  have hl := H.p.len
  have HN : Hid (np = ps'.length) := hid_of hl.1
  have hn : np ≤ 9223372036854775807 := by omega
  have HP := hid_of H.p
  have HD := hid_of hD
  have IH := hid_of ih
  simp only [Lat.ps] at HP HD
  have HE : Hid (depthL ⟨k', lo', hi', ns', ps', rs'⟩ = depthsL ps' + 1) := hid_of (depthL_eq _)
  generalize (Lat.mk k' lo' hi' ns' ps' rs') = T at HE
  clear hl H hD ih
  go_enter Try.func19, Try.ntmps19
  go_wp2
  go_loopw [3, 9] (fun mv iv wr => ∃ i m : Nat, iv = .int .i64 i ∧ i ≤ np ∧ mv = .int .i64 m ∧ Hid (m = depthsL (ps'.take i)) ∧ Hid (Below w.heap.size w wr)) (fun _ iv _ => np - (intOf iv).toNat)
  case atStart => exact ⟨0, 0, rfl, Nat.zero_le _, rfl, hid_of rfl, hid_of (bel_alloc _ _)⟩
  case round =>
    obtain ⟨i, m, rfl, hi, rfl, HM, hb⟩ := hrel
    by_cases hlt : i < np
    · have d1 : decide (i < np) = true := decide_eq_true hlt
      have hlt' : (i : Int) < (np : Int) := by omega
      have HLT := hid_of hlt
      obtain ⟨u, hu⟩ : ∃ u, ps'[i]? = some u := ⟨_, List.getElem?_eq_getElem (by have := HN.out; omega)⟩
      obtain ⟨g, o, kA, loA, hiA, anA, nnA, cnA, apA, npA, cpA, arA, nrA, crA, rfl, LU, hc⟩ := HP.out.get hu
      obtain ⟨c0, c1, c2, c3, c4, c5⟩ := hc wr hb.out
      have hdu := depthsL_get _ _ _ hu
      obtain ⟨q, hq⟩ : ∃ q, q = depthL u := ⟨_, rfl⟩
      have hm : m ≤ 1000 := by
        rw [HM.out]
        have := depthsL_take ps' i
        have := HD.out
        omega
      have hqm : q ≤ 1000 := by have := HD.out; omega
      have CALL := hid_of (IH.out u (List.mem_of_getElem? hu) kA loA hiA anA nnA cnA apA npA cpA arA nrA crA)
      have HS : Hid (depthsL (ps'.take (i + 1)) = max m q) := hid_of (by rw [take_next hu, depthsL_snoc, HM.out, hq])
      have HQ := hid_of hq
      have LV := hid_of LU
      clear hlt hc hu hdu hq LU
      go_wp2_with (go_at_call 19; ((with_reducible refine (CALL.out _ (LV.out.at (hb.out.alloc hb.out.size _)) (Nat.le_trans (Nat.le_of_eq HQ.out.symm) hqm)).mono ?_); (rintro e w2 ⟨rfl, h2⟩)); (rw [← HQ.out]); (have H2 := hid_of h2); clear h2)
      go_roundw
      case rel => exact ⟨i + 1, max m q, by go_num, HLT.out, by go_num, hid_of HS.out.symm, hid_of ((hb.out.alloc hb.out.size _).trans (H2.out.mono (by simp; exact Nat.le_succ_of_le hb.out.size)))⟩
      case measure => have := HLT.out; simp [intOf]; omega
    · have d1 : decide (i < np) = false := decide_eq_false hlt
      have HI : Hid (i = np) := hid_of (by omega)
      have hm : m ≤ 1000 := by
        rw [HM.out]
        have := depthsL_take ps' i
        have := HD.out
        omega
      go_wp2
      go_ret
      refine ⟨?_, hb.out⟩
      rw [HE.out]
      have h1 := HM.out
      rw [HI.out, HN.out, List.take_length] at h1
      rw [h1]
      go_num
end Go.Proofs.Ytoogcafceghdjaa
