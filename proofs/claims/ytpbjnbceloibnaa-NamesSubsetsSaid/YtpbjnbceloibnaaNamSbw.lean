/- The program's Subsets. Bounds on sizes alone. -/
import Derived.Test.YtpbjnbceloibnaaNamFam
namespace Go.Proofs.Ytpbjnbceloibnaa
open Go.RowKit

/-- All subsets of A, in order. -/
def Alls (A : List Str) (all : List (List Str)) : Prop := all.length = 2 ^ A.length ∧ (∀ T ∈ all, SS T ∧ ∀ x ∈ T, x ∈ A) ∧ ∀ i, i + 1 < all.length → cmpS (all.getD i []) (all.getD (i + 1) []) = -1
def AtN (A : List Str) (all : List (List Str)) (nx : Nat) : Prop := (nx < all.length ∧ Sub A all nx 0) ∨ (nx = all.length ∧ Alls A all)
theorem at_start (A : List Str) : AtN A [[]] 0 := .inl ⟨by simp, sub_start⟩
theorem at_next {A : List Str} {all : List (List Str)} {nx k : Nat} (h : Sub A all nx k) (hk : A.length ≤ k) (hn : nx < all.length) : AtN A all (nx + 1) := by
  by_cases e : nx + 1 < all.length
  · exact .inl ⟨e, h.next hk e⟩
  · exact .inr ⟨by omega, h.done hk (by omega), h.good, h.inc⟩
theorem Sub.small {A : List Str} {all : List (List Str)} {nx k : Nat} (h : Sub A all nx k) (hA : A.length ≤ 10) : all.length ≤ 1024 := by
  have h1 := h.cnt
  have h2 : 2 ^ A.length ≤ 2 ^ 10 := Nat.pow_le_pow_right (by decide) hA
  omega
theorem AtN.small {A : List Str} {all : List (List Str)} {nx : Nat} (h : AtN A all nx) (hA : A.length ≤ 10) : all.length ≤ 1024 ∧ nx ≤ all.length := by
  rcases h with ⟨h, h2⟩ | ⟨h, h2, _⟩
  · exact ⟨h2.small hA, by omega⟩
  · have h3 : 2 ^ A.length ≤ 2 ^ 10 := Nat.pow_le_pow_right (by decide) hA
    exact ⟨by omega, by omega⟩
theorem ss_sub_le : ∀ (T A : List Str), SS T → (∀ x ∈ T, x ∈ A) → T.length ≤ A.length := by
  intro T; induction T with
  | nil => intro A _ _; simp
  | cons x T ih =>
    intro A h1 h2
    have h3 := h2 x (by simp)
    have h4 := ih (A.erase x) (List.pairwise_cons.1 h1).2 (fun y hy => by
      have h5 := (List.pairwise_cons.1 h1).1 y hy
      refine (List.mem_erase_of_ne (fun e => ?_)).2 (h2 y (by simp [hy]))
      subst e; exact str_irr _ h5)
    have h6 := List.length_erase_of_mem h3
    have h7 := List.length_pos_of_mem h3
    simp; omega
theorem fam_fresh {B0 : Nat} {wx w1 : World} {xo : Option Addr} {n xc : Nat} {T : List Str} {k : Option Nat} (O : Ow 9 B0 wx w1 (.slice xo n xc) (ss T)) (hT : T.length ≤ 1000000) (hk : ∀ q, k = some q → q < B0) : n = T.length ∧ RdX w1 k (.slice xo n xc) T := by
  have R := O.rd (by rw [ss_length]; omega)
  obtain ⟨hn, h1, h2, h3⟩ := rds_open R
  refine ⟨hn, xo, xc, by rw [hn], R, fun h0 => ?_⟩
  obtain ⟨g, o, q1, q2, _⟩ := h3.resolve_left (fun e => by rw [e] at h0; simp at h0)
  refine ⟨g, o, q1, q2, fun e => ?_⟩
  have h4 := hk g e.symm
  subst q1
  rcases O.own.2 with ⟨h5, _⟩ | ⟨g2, c, cur, h5, hb, _⟩
  · cases h5
  · simp only [Value.slice.injEq, Option.some.injEq, Addr.mk.injEq] at h5
    obtain ⟨⟨rfl, _⟩, _⟩ := h5
    omega
theorem Fam.lt {B : Nat} {w0 w : World} {v : Value} {all : List (List Str)} (h : Fam B w0 w v all) : ∀ q, v.ownBlock = some q → q < w.heap.size := by
  obtain ⟨_, _, h2, _⟩ := h; exact fun q hq => (h2.own.lt q hq).2
theorem Fam.start {B : Nat} {w0 w : World} {v : Value} {all : List (List Str)} (h : Fam B w0 w v all) {B2 : Nat} {w2 : World} (hB : B2 ≤ w2.heap.size) (hb : Below B2 w2 w0) (hle : B2 ≤ B) : Fam B2 w2 w v all := by
  obtain ⟨vals, h1, h2, h3⟩ := h; exact ⟨vals, h1, h2.start hB hb hle, h3⟩
theorem fam_first (w : World) : Fam w.heap.size w ((w.alloc (.cells #[] 9)).alloc (.cells #[.slice (some ⟨w.heap.size, 0, none⟩) 0 0] 24)) (.slice (some ⟨w.heap.size + 1, 0, none⟩) 1 1) [[]] := by
  have e : (w.alloc (.cells #[] 9)).heap.size = w.heap.size + 1 := by simp
  refine ⟨[.slice (some ⟨w.heap.size, 0, none⟩) 0 0], rfl, ⟨Nat.le_refl _, bel_fst (bel_alloc _ _), by simp, .inr ⟨w.heap.size + 1, 1, #[.slice (some ⟨w.heap.size, 0, none⟩) 0 0], rfl, by omega, ?_, Nat.le_refl _, by unfold maxLen; omega, by simp, by simp⟩⟩, fun i hi => ?_⟩
  · have := heap_alloc_new (w.alloc (.cells #[] 9)) (.cells #[.slice (some ⟨w.heap.size, 0, none⟩) 0 0] 24)
    rw [e] at this; exact this
  · have : i = 0 := by simp at hi; omega
    subst this
    refine ⟨some ⟨w.heap.size, 0, none⟩, 0, rfl, ⟨some ⟨w.heap.size, 0, none⟩, 0, rfl, Nat.le_refl _, by omega, fun h => by simp [ss] at h⟩, fun h => by simp at h⟩

set_option maxRecDepth 100000 in
theorem subsets_big (ao : Option Addr) (n cap : Nat) (l : List Str) (w : World) (R : Rd w (.slice ao n cap) (ss l)) (hl : l.length ≤ big) (h10 : 10 < (setOf l).length) :
    Calls Try.prog 29 #[.slice ao n cap] w fun e w' => e = .returned (.tuple #[.slice none 0 0, .int .i64 6]) ∧ Below w.heap.size w w' := by
  have OF := hid_of (of_any ao n cap l w R hl)
  obtain ⟨m, hm⟩ : ∃ m, m = (setOf l).length := ⟨_, rfl⟩
  have hml := setOf_le l
  unfold big at hl
  rw [← hm] at OF h10 hml
  have d1 : decide ((m : Int) > 10) = true := by simp; omega
  have d2 : decide (10 < m) = true := by simp; omega
  clear R hl hm hml
  go_enter Try.func29, Try.ntmps29
  go_wp2_with (go_at_call 17; ((with_reducible refine (OF.out).mono ?_); (rintro e w1 ⟨xo, xc, rfl, h1⟩; have O1 := hid_of h1; clear h1)))
  go_ret2
  exact ⟨rfl, O1.out.bel⟩

set_option maxRecDepth 100000 in
set_option maxHeartbeats 3200000 in
theorem subsets_any (ao : Option Addr) (n cap : Nat) (l : List Str) (w : World) (R : Rd w (.slice ao n cap) (ss l)) (hl : l.length ≤ big) (h10 : (setOf l).length ≤ 10) :
    Calls Try.prog 29 #[.slice ao n cap] w fun e w' => ∃ all xo xc, e = .returned (.tuple #[.slice xo (all : List (List Str)).length xc, .int .i64 0]) ∧ Fam w.heap.size w w' (.slice xo all.length xc) all ∧ Alls (setOf l) all := by
  have OF := hid_of (of_any ao n cap l w R hl)
  obtain ⟨A, hA⟩ : ∃ A, A = setOf l := ⟨_, rfl⟩
  rw [← hA] at OF h10 ⊢
  have HSA : Hid (SS A) := hid_of (by rw [hA]; exact setOf_ss l)
  obtain ⟨m, hm⟩ : ∃ m, m = A.length := ⟨_, rfl⟩
  rw [← hm] at OF
  have HM := hid_of hm
  have hm10 : m ≤ 10 := by omega
  have HM10 : Hid (A.length ≤ 10) := hid_of h10
  have d2 : decide (10 < m) = false := by simp; omega
  clear R hl hm hA h10
  go_enter Try.func29, Try.ntmps29
  go_wp2_with (go_at_call 17; ((with_reducible refine (OF.out).mono ?_); (rintro e w1 ⟨xo1, xc1, rfl, h1⟩; have O1 := hid_of h1; clear h1)))
  have R1 : Hid (Rd w1 (.slice xo1 m xc1) (ss A)) := hid_of (O1.out.rd (by rw [ss_length, ← HM.out]; omega))
  have F0 := hid_of (fam_first w1)
  go_loopw [5, 6, 8] (fun av nv sv wr => ∃ (nx : Nat) (all : List (List Str)) (xo : Option Addr) (xc : Nat) (v : Value), sv = v ∧ nv = .int .i64 nx ∧ nx ≤ 1024 ∧ av = .slice xo all.length xc ∧ Hid (AtN A all nx) ∧ Hid (Fam w1.heap.size w1 wr (.slice xo all.length xc) all)) (fun _ nv _ _ => 1024 - (intOf nv).toNat)
  case atStart => exact ⟨0, [[]], _, _, _, rfl, rfl, by omega, rfl, hid_of (at_start A), F0⟩
  case round =>
    obtain ⟨wo, rfl⟩ : ∃ wo : World, wo = wr := ⟨_, rfl⟩
    obtain ⟨nx, all0, xo, xc, v, rfl, rfl, hnx, rfl, hat, hfam⟩ := hrel
    have hal : all0.length ≤ 1024 := (hat.out.small HM10.out).1
    by_cases hlt : nx < all0.length
    · have hd : decide (nx < all0.length) = true := by simp; omega
      have HSUB : Hid (Sub A all0 nx 0) := hid_of (by
        rcases hat.out with ⟨_, h⟩ | ⟨h, _⟩
        · exact h
        · omega)
      go_wp2
      go_loopw [5, 8, 24] (fun av sv iv wr => ∃ (k : Nat) (all : List (List Str)) (xo : Option Addr) (xc : Nat) (v : Value), sv = v ∧ iv = .int .i64 k ∧ k ≤ m ∧ av = .slice xo all.length xc ∧ Hid (nx < all.length ∧ Sub A all nx k) ∧ Hid (Fam w1.heap.size w1 wr (.slice xo all.length xc) all)) (fun _ _ iv _ => m - (intOf iv).toNat)
      case atStart => exact ⟨0, all0, _, _, _, rfl, rfl, by omega, rfl, hid_of ⟨hlt, HSUB.out⟩, hfam⟩
      case round =>
        clear hat hfam HSUB hd hal hlt
        obtain ⟨wi, rfl⟩ : ∃ wi : World, wi = wr := ⟨_, rfl⟩
        obtain ⟨k, all, xo, xc, v, rfl, rfl, hk, rfl, hsub, hfam⟩ := hrel
        have hal : all.length ≤ 1024 := hsub.out.2.small HM10.out
        have hlt : nx < all.length := hsub.out.1
        by_cases hkm : k < m
        · have hd2 : decide (k < m) = true := by simp; omega
          have hkA : Hid (k < A.length) := hid_of (by have := HM.out; omega)
          obtain ⟨hs0, _, _, hs3⟩ := rds_open R1.out
          obtain ⟨g1, o1, rfl, hg1, hc1⟩ := hs3.resolve_left (fun e => by rw [e] at hs0; simp at hs0; omega)
          obtain ⟨bk, hbk⟩ : ∃ b, b = ba (A[k]'hkA.out) := ⟨_, rfl⟩
          have c1 := (hfam.out.bel.cell (p := ⟨g1, o1 + k, none⟩) hg1).trans (hc1 k _ (List.getElem?_eq_getElem hkA.out))
          rw [← hbk] at c1
          have HBK := hid_of hbk
          obtain ⟨_, g2, yo, yc, rfl, c2, hrt⟩ := hfam.out.get hlt
          obtain ⟨T, hT⟩ : ∃ T, T = all.getD nx [] := ⟨_, rfl⟩
          rw [← hT] at c2 hrt
          have HT := hid_of hT
          have HRT := hid_of hrt
          have hgood := hsub.out.2.good T (by rw [hT, getDl hlt]; exact List.getElem_mem hlt)
          have HTL : Hid (T.length ≤ 1000) := hid_of (by have := ss_sub_le T A hgood.1 hgood.2; have := HM10.out; omega)
          obtain ⟨tl, htl⟩ : ∃ n, n = T.length := ⟨_, rfl⟩
          rw [← htl] at c2 HRT
          have HTE := hid_of htl
          have AB : Hid (Calls Try.prog 45 #[.string bk, .slice yo tl yc] wi fun e w' => e = .returned (.bool (abv (A[k]'hkA.out) T)) ∧ wi = w') := hid_of (by
            rw [hbk]; exact above_any yo tl yc T _ wi HRT.out (by have := HTL.out; omega))
          clear hs0 hs3 hc1 hbk hrt hgood htl hT hg1
          by_cases ha : abv (A[k]'hkA.out) T = true
          · have AB2 : Hid (Calls Try.prog 45 #[.string bk, .slice yo tl yc] wi fun e w' => e = .returned (.bool true) ∧ wi = w') := hid_of (by have := AB.out; rw [ha] at this; exact this)
            have STEP : Hid (Sub A (all ++ [T ++ [A[k]'hkA.out]]) nx (k + 1)) := hid_of (by rw [HT.out]; exact hsub.out.2.push HSA.out hlt hkA.out (by rw [← HT.out]; exact ha))
            have R1x : Hid (Rd (wi.alloc (.cells #[.string bk] 9)) (.slice (some ⟨wi.heap.size, 0, none⟩) 1 1) (ss [A[k]'hkA.out])) := hid_of (by rw [HBK.out]; exact rd_new rfl rfl (by simp [ss]))
            obtain ⟨X, hX⟩ : ∃ X, X = T ++ [A[k]'hkA.out] := ⟨_, rfl⟩
            have HXL : Hid (X.length = tl + 1) := hid_of (by rw [hX, HTE.out]; simp)
            have CAT : Hid (∀ wx : World, Below (wi.alloc (.cells #[.string bk] 9)).heap.size (wi.alloc (.cells #[.string bk] 9)) wx → wi.heap.size + 1 < wx.heap.size → wx.cell? ⟨wi.heap.size + 1, 0, none⟩ = some (.slice yo tl yc) → wx.cell? ⟨wi.heap.size + 1, 1, none⟩ = some (.slice (some ⟨wi.heap.size, 0, none⟩) 1 1) →
                Calls Try.prog 43 #[.slice (some ⟨wi.heap.size + 1, 0, none⟩) 2 2] wx fun e w' => ∃ zo zc, e = .returned (.slice zo (tl + 1) zc) ∧ (∀ o, Fam w1.heap.size w1 (w'.alloc o) (.slice (some ⟨g2, 0, none⟩) all.length xc) all) ∧ ∀ o, RdX (w'.alloc o) (some g2) (.slice zo (tl + 1) zc) X) := hid_of (fun wx hb hl c0 c1 => by
              have hb2 : Below wi.heap.size wi wx := bel_fst hb
              have := concat_any (wi.heap.size + 1) yo tl yc _ 1 1 T [A[k]'hkA.out] wx (HRT.out.at hb2) (R1x.out.at hb) (by have := HTL.out; unfold big; omega) (by unfold big; simp) hl c0 c1
              rw [← hX, HXL.out] at this
              refine this.mono ?_
              rintro e w' ⟨zo, zc, rfl, h⟩
              refine ⟨zo, zc, rfl, fun o => (hfam.out.later (hb2.trans (h.bel.mono hb2.size))).later (bel_alloc w' o), fun o => ?_⟩
              have q := (fam_fresh (k := some g2) h (by have := HTL.out; have := HTE.out; rw [HXL.out]; omega) (fun q hq => by
                have := hfam.out.lt q hq
                have := hb2.size
                omega)).2
              exact q.later (bel_alloc w' o))
            rw [← hX] at STEP
            have HAL : Hid (all.length ≤ 1000000) := hid_of (by omega)
            have HLX : Hid ((all ++ [X]).length = all.length + 1) := hid_of (by simp)
            clear AB ha R1x hX
            go_wp2_with (first
              | (go_at_call 45; ((with_reducible refine (AB2.out).mono ?_); (rintro e w' ⟨rfl, rfl⟩)))
              | (go_at_call 43; ((with_reducible refine (CAT.out _ (bel_alloc _ _) (by simp) (by go_simp) (by go_simp)).mono ?_); (rintro e w2 ⟨zo, zc, rfl, hf, hu⟩; have FA := hid_of hf; have HU := hid_of hu; clear hf hu)))
              | (at_builtin; ((refine wpList_fam rfl _ _ rfl (v := .slice (some ⟨g2, 0, none⟩) all.length xc) rfl (FA.out _) (g := w2.heap.size) (u := .slice zo (tl + 1) zc) (T := X) rfl (by go_simp) (HU.out _) HAL.out ?_); intro xo3 c3 w3 h3; have F3 := hid_of h3; clear h3)))
            go_roundw
            case rel => exact ⟨k + 1, all ++ [X], xo3, c3, _, rfl, by go_num, by omega, by rw [HLX.out], hid_of ⟨by rw [HLX.out]; omega, STEP.out⟩, hid_of (by rw [HLX.out]; exact F3.out)⟩
            case measure => simp [intOf]; omega
          · have haf : abv (A[k]'hkA.out) T = false := by simpa using ha
            have AB2 : Hid (Calls Try.prog 45 #[.string bk, .slice yo tl yc] wi fun e w' => e = .returned (.bool false) ∧ wi = w') := hid_of (by have := AB.out; rw [haf] at this; exact this)
            have STEP : Hid (Sub A all nx (k + 1)) := hid_of (hsub.out.2.skip hkA.out (by rw [← HT.out]; exact haf))
            clear AB ha haf
            go_wp2_with (go_at_call 45; ((with_reducible refine (AB2.out).mono ?_); (rintro e w' ⟨rfl, rfl⟩)))
            go_roundw
            case rel => exact ⟨k + 1, all, _, _, _, rfl, by go_num, by omega, rfl, hid_of ⟨hlt, STEP.out⟩, hfam⟩
            case measure => simp [intOf]; omega
        · have hd2 : decide (k < m) = false := by simp; omega
          have NX := hid_of (at_next hsub.out.2 (show A.length ≤ k by have := HM.out; omega) hlt)
          go_wp2
          go_roundw
          case rel => exact ⟨nx + 1, all, xo, xc, _, rfl, by go_num, by omega, rfl, NX, hfam⟩
          case measure => simp [intOf]; omega
    · have hd : decide (nx < all0.length) = false := by simp; omega
      have HALL : Hid (Alls A all0) := hid_of (by
        rcases hat.out with ⟨h, _⟩ | ⟨_, h⟩
        · omega
        · exact h)
      go_wp2
      go_ret2
      exact ⟨all0, xo, xc, rfl, hfam.out.start (Nat.le_refl _) O1.out.bel O1.out.size, HALL.out⟩
end Go.Proofs.Ytpbjnbceloibnaa
