/- Which expression is to blame. No condition. -/
import Derived.Test.YtdacalplnggnoaaDoorVarOf
namespace Go.Proofs.YtdacalplnggnoaaDoor
open Go.RowKit

/-- The kids in front of i that have to be Constant are. -/
def dirN (t : Ex) : Nat → Bool
  | 0 => true
  | i + 1 => dirN t i && !(decide (sgn t i = 61) && decide (vary (t.ks.getD i z0) ≠ 0))
def dirB (t : Ex) : Bool := dirN t t.ks.length
mutual
def blameF : Ex → Int → Int
  | ⟨op, sr, kd, np, pk, pl, ph, n, pt, ks⟩, d => if (formB ⟨op, sr, kd, np, pk, pl, ph, n, pt, ks⟩ && dirB ⟨op, sr, kd, np, pk, pl, ph, n, pt, ks⟩) = true then blames ⟨op, sr, kd, np, pk, pl, ph, n, pt, ks⟩ ks 0 d pt else pt
def blames (t : Ex) : List Ex → Nat → Int → Int → Int
  | [], _, _, p => p
  | k :: ks, i, d, p => if vary k ≠ 0 ∧ vary k ≠ turnF (sgn t i) d then blameF k (turnF (sgn t i) d) else blames t ks (i + 1) d p
end
theorem blameF_eq (t : Ex) (d : Int) : blameF t d = if (formB t && dirB t) = true then blames t t.ks 0 d t.pt else t.pt := by cases t; rw [blameF]; rfl
theorem blames_drop (t : Ex) (d p : Int) : ∀ (l : List Ex) (i j : Nat) (u : Ex), (l.drop i)[0]? = some u → blames t (l.drop i) j d p = if vary u ≠ 0 ∧ vary u ≠ turnF (sgn t j) d then blameF u (turnF (sgn t j) d) else blames t (l.drop (i + 1)) (j + 1) d p := by
  intro l i j u h
  cases e : l.drop i with
  | nil => rw [e] at h; simp at h
  | cons k ks =>
    rw [e] at h
    simp at h
    subst h
    have e2 : l.drop (i + 1) = ks := by rw [← List.drop_drop, e]; rfl
    rw [e2, blames]
theorem has_blames {t : Ex} : ∀ (ks : List Ex) (i : Nat) (d p : Int), (∀ k ∈ ks, ∀ d, Has k (blameF k d)) → (∀ k ∈ ks, k ∈ t.ks) → Has t p → Has t (blames t ks i d p) := by
  intro ks
  induction ks with
  | nil => intro i d p _ _ hp; rw [blames]; exact hp
  | cons k ks ih =>
    intro i d p hk hs hp
    rw [blames]
    split
    · exact .kid (hs k (by simp)) (hk k (by simp) _)
    · exact ih _ _ _ (fun q hq => hk q (by simp [hq])) (fun q hq => hs q (by simp [hq])) hp
theorem has_blame : ∀ (t : Ex) (d : Int), Has t (blameF t d) := by
  refine ex_ind ?_
  intro op sr kd np pk pl ph n pt ks ih d
  rw [blameF_eq]
  split
  · exact has_blames _ _ _ _ (fun k hk d => ih k hk d) (fun k hk => hk) (.here _)
  · exact .here _
theorem turn_range {s v : Int} (h : 0 ≤ v ∧ v ≤ 3) : 0 ≤ turnF s v ∧ turnF s v ≤ 3 := by
  unfold turnF
  split
  · exact flip_range v
  · split
    · split <;> omega
    · exact h

set_option maxRecDepth 100000 in
set_option maxHeartbeats 3200000 in
theorem dir_any (b q g o : Nat) (x : XX) (t : Ex) (ap : Option Addr) (np cp : Nat) (w0 : World) (B : Nat) (w : World) (HG : Gl w) (hb : w.cell? ⟨b, q, none⟩ = some (.pointer (some ⟨g, o, none⟩))) (hb1 : w.cell? ⟨b, q + 1, none⟩ = some (.slice ap np cp)) (H : XAt w g o x t) (HN : NDs w0 B w (.slice ap np cp) t.ks) (hF : formB t = true) :
    Calls Tryd.prog 23 #[.pointer (some ⟨b, q, none⟩)] w (BooP (dirB t) w) := by
  have hbl := World.block_lt_of_cell? w _ hb
  have SG := hid_of (fun (i : Nat) (hi : i < t.ks.length) (wz : World) (hz : Below w.heap.size w wz) => sign_any b q g o x t i wz (HG.at hz) ((hz.cell (p := ⟨b, q, none⟩) hbl).trans hb) (H.at hz) hF hi)
  obtain ⟨hn1, hn2, hn3⟩ := HN.len
  have hn9 : np ≤ 9223372036854775807 := by omega
  have HNP := hid_of hn1
  have HND := hid_of HN
  obtain ⟨r, hr⟩ : ∃ r, r = dirB t := ⟨_, rfl⟩
  rw [← hr]
  have HR : Hid (r = dirN t np) := hid_of (by rw [hr, dirB, hn1])
  have HF0 : Hid (∀ i, i < np → dirN t (i + 1) = false → r = false) := hid_of (fun i hi h => by
    rw [hr, dirB, ← hn1]
    have : ∀ j, i + 1 ≤ j → dirN t j = false := by
      intro j hj
      induction j with
      | zero => omega
      | succ j ih =>
        by_cases e : j = i
        · subst e; exact h
        · rw [dirN, ih (by omega), Bool.false_and]
    exact this np (by omega))
  have HVG : Hid (∀ i u, t.ks[i]? = some u → t.ks.getD i z0 = u) := hid_of (fun i u hu => getD_some hu)
  clear hn1 hn2 hn3 HN H HG hbl hr hF
  go_enter Tryd.func23, Tryd.ntmps23
  go_wp2
  go_loopw [10] (fun iv wr => ∃ (i : Nat), iv = .int .i64 i ∧ i ≤ np ∧ Hid (dirN t i = true) ∧ Hid (Below w.heap.size w wr)) (fun iv _ => np - (intOf iv).toNat)
  case atStart => exact ⟨0, rfl, Nat.zero_le _, hid_of rfl, hid_of (Below.refl _ _)⟩
  case round =>
    obtain ⟨i, rfl, hi, HM, hb⟩ := hrel
    by_cases hlt : i < np
    · have d1 : decide (i < np) = true := decide_eq_true hlt
      have hlt' : (i : Int) < (np : Int) := by omega
      have HLT := hid_of hlt
      obtain ⟨u, hu⟩ : ∃ u, t.ks[i]? = some u := ⟨_, List.getElem?_eq_getElem (by have := HNP.out; omega)⟩
      obtain ⟨gr, qr, gx, ox, xx, pa2, pn2, pc2, rfl, hgr, HX, HS2, n0, n1, n2⟩ := (HND.out.at hb.out).get hu
      obtain ⟨vv, hvv⟩ : ∃ vv, vv = vary u := ⟨_, rfl⟩
      rw [← hvv] at n2
      have hi2 : i < t.ks.length := (List.getElem?_eq_some_iff.1 hu).1
      have SI := hid_of (SG.out i hi2)
      have HD : Hid (dirN t (i + 1) = !(decide (sgn t i = 61) && decide (vv ≠ 0))) := hid_of (by rw [dirN, HM.out, HVG.out i u hu, hvv, Bool.true_and])
      obtain ⟨ss, hss⟩ : ∃ ss, ss = sgn t i := ⟨_, rfl⟩
      rw [← hss] at SI HD
      have HKB : Hid (Below w.heap.size w (wr.alloc (.cells #[.pointer (some ⟨gx, ox, none⟩), .slice pa2 pn2 pc2, .int .i64 vv] 50))) := hid_of (hb.out.alloc hb.out.size _)
      clear HX HS2 hu hvv hlt hi2 hss SG
      by_cases hs : ss = 61
      · subst hs
        by_cases hv : vv = 0
        · subst hv
          have HD2 : Hid (dirN t (i + 1) = true) := hid_of (by rw [HD.out]; rfl)
          go_wp2_with (go_at_call 25; ((with_reducible refine (SI.out _ HKB.out).mono ?_); (rintro e w3 ⟨rfl, h3⟩); (have H3 := hid_of h3); (have cs9 := (cs3 (row_at h3)).2.2); clear h3))
          go_roundw
          case rel => exact ⟨i + 1, by go_num, HLT.out, hid_of HD2.out, hid_of (HKB.out.trans (H3.out.mono HKB.out.size))⟩
          case measure => have := HLT.out; simp [intOf]; omega
        · have e1 : (vv != 0) = true := bne_iff_ne.2 hv
          have HD2 : Hid (r = false) := hid_of (HF0.out i HLT.out (by rw [HD.out]; simp [hv]))
          clear hv
          go_wp2_with (go_at_call 25; ((with_reducible refine (SI.out _ HKB.out).mono ?_); (rintro e w3 ⟨rfl, h3⟩); (have H3 := hid_of h3); (have cs9 := (cs3 (row_at h3)).2.2); clear h3))
          go_ret
          exact ⟨by rw [HD2.out] <;> rfl, HKB.out.trans (H3.out.mono HKB.out.size)⟩
      · have e1 := ne_f hs
        have HD2 : Hid (dirN t (i + 1) = true) := hid_of (by rw [HD.out, decide_eq_false hs]; rfl)
        clear hs
        go_wp2_with (go_at_call 25; ((with_reducible refine (SI.out _ HKB.out).mono ?_); (rintro e w3 ⟨rfl, h3⟩); (have H3 := hid_of h3); (have cs9 := (cs3 (row_at h3)).2.2); clear h3))
        go_roundw
        case rel => exact ⟨i + 1, by go_num, HLT.out, hid_of HD2.out, hid_of (HKB.out.trans (H3.out.mono HKB.out.size))⟩
        case measure => have := HLT.out; simp [intOf]; omega
    · have d1 : decide (i < np) = false := decide_eq_false hlt
      have HI : Hid (i = np) := hid_of (by omega)
      go_wp2
      go_ret
      exact ⟨by rw [HR.out, ← HI.out, HM.out] <;> rfl, hb.out⟩
end Go.Proofs.YtdacalplnggnoaaDoor
