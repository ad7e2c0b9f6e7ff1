/- The words of a source: the parser's loop. Bounds on sizes alone. -/
import Derived.Test.YtpbjnbceloibnaaNamMap
namespace Go.Proofs.Ytpbjnbceloibnaa
open Go.RowKit

theorem own_kb {w w' : World} {b base n : Nat} {v : Value} {xs : List Value} (h : w.ownsRow base 9 1 v n xs) (hk : KB b w w') (hb : b < base) : w'.ownsRow base 9 1 v n xs :=
  own_same h fun k hv => by
    have := h.lt k hv
    exact hk.block k this.2 (by omega)
theorem own_by {w w' : World} {m base n : Nat} {v : Value} {xs : List Value} (h : w.ownsRow base 9 1 v n xs) (hg : w.grownBy w' (some m)) (hb : m < base) : w'.ownsRow base 9 1 v n xs :=
  own_same h fun k hv => by
    have := h.lt k hv
    exact hg.block k this.2 (by intro e; cases e; omega)
theorem map_kb {w w' : World} {b m n : Nat} {keys : List Str} (h : MapS w m n keys) (hk : KB b w w') (hb : m ≠ b) : MapS w' m n keys := h.same (hk.block m h.lt hb)
theorem ow_of {w : World} {base n : Nat} {v : Value} {l : List Str} (h : w.ownsRow base 9 1 v n (ss l)) (hn : n = l.length) (hb : base ≤ w.heap.size) : Ow 9 base w w v (ss l) :=
  ⟨hb, Below.refl _ _, by rw [ss_length, ← hn]; exact h⟩
theorem kb_by {w w' : World} {b m : Nat} {w0 : World} (h : KB b w0 w) (hg : w.grownBy w' (some m)) (hm : w0.heap.size ≤ m) : KB b w0 w' :=
  ⟨hg.os.trans h.os, hg.tape.trans h.tape, hg.output.trans h.output, Nat.le_trans h.size hg.size, fun k hk hne => (hg.block k (Nat.lt_of_lt_of_le hk h.size) (by intro e; cases e; omega)).trans (h.block k hk hne)⟩
theorem kb_bel {w0 w w' : World} {b B : Nat} (h : KB b w0 w) (hb : Below B w w') (hB : w0.heap.size ≤ B) : KB b w0 w' :=
  ⟨hb.os.trans h.os, hb.tape.trans h.tape, hb.output.trans h.output, Nat.le_trans h.size hb.size, fun k hk hne => (hb.block k (by omega)).trans (h.block k hk hne)⟩
theorem pst_bel {w w' : World} {b B i : Nat} {s : ByteArray} (h : Pst w b s i) (hb : Below B w w') (hB : b < B) : Pst w' b s i := (hb.block b hB).trans h
theorem pst_by {w w' : World} {b m i : Nat} {s : ByteArray} (h : Pst w b s i) (hg : w.grownBy w' (some m)) (hm : b ≠ m) : Pst w' b s i := (hg.block b h.lt (by intro e; cases e; exact hm rfl)).trans h

theorem ownsRow_mono {w : World} {B B' e size n : Nat} {v : Value} {xs : List Value} (h : w.ownsRow B e size v n xs) (hb : B' ≤ B) : w.ownsRow B' e size v n xs := by
  obtain ⟨h1, h2⟩ := h
  refine ⟨h1, ?_⟩
  rcases h2 with h2 | ⟨g, cap, cur, hv, hb2, r⟩
  · exact .inl h2
  · exact .inr ⟨g, cap, cur, hv, Nat.le_trans hb hb2, r⟩
def WPost (B b : Nat) (s : ByteArray) (RES : Got) (w : World) (e : Ending) (w' : World) : Prop :=
  KB b w w' ∧ ((∃ (acc : List Str) (p : Nat) (xo : Option Addr) (xc : Nat), RES = fin s p acc ∧ p ≤ s.size ∧ acc.length ≤ 1000000 ∧ e = .returned (.tuple #[.slice xo acc.length xc, .int .i64 0]) ∧ Pst w' b s p ∧ w'.ownsRow B 9 1 (.slice xo acc.length xc) acc.length (ss acc)) ∨
    (∃ (pl : Nat) (c : Int), RES = bad pl c ∧ (c = 2 ∨ c = 3) ∧ e = .returned (.tuple #[.slice none 0 0, .int .i64 c]) ∧ Pst w' b s pl))
theorem wpost_bad {B b : Nat} {s : ByteArray} {RES : Got} {w w' : World} {pl : Nat} {c : Int} (h : RES = bad pl c) (hc : c = 2 ∨ c = 3) (hk : KB b w w') (hp : Pst w' b s pl) : WPost B b s RES w (.returned (.tuple #[.slice none 0 0, .int .i64 c])) w' :=
  ⟨hk, .inr ⟨pl, c, h, hc, rfl, hp⟩⟩

theorem wf_empty {s : ByteArray} {d st : Nat} {acc : List Str} (h : we s st = st) : wordsF s (d + 1) st acc = bad st 2 := by rw [wordsF, if_pos h]
theorem wf_name {s : ByteArray} {d st e : Nat} {acc : List Str} (he : we s st = e) (h : e ≠ st) (h2 : isName (strBytes (s.extract st e)) = false ∨ cut s st e ∈ acc) : wordsF s (d + 1) st acc = bad st 3 := by
  subst he; rw [wordsF, if_neg h, if_pos h2]
theorem wf_close {s : ByteArray} {d st e j : Nat} {acc : List Str} (he : we s st = e) (h : e ≠ st) (h1 : isName (strBytes (s.extract st e)) = true) (h2 : cut s st e ∉ acc) (hj : sk s e = j) (h3 : gt s j = 125) : wordsF s (d + 1) st acc = fin s (j + 1) (acc ++ [cut s st e]) := by
  subst he hj; rw [wordsF, if_neg h, if_neg (by simp [h1, h2]), if_pos h3]
theorem wf_comma {s : ByteArray} {d st e j : Nat} {acc : List Str} (he : we s st = e) (h : e ≠ st) (h1 : isName (strBytes (s.extract st e)) = true) (h2 : cut s st e ∉ acc) (hj : sk s e = j) (h3 : gt s j = 44) : wordsF s (d + 1) st acc = wordsF s d (sk s (j + 1)) (acc ++ [cut s st e]) := by
  subst he hj; rw [wordsF, if_neg h, if_neg (by simp [h1, h2]), if_neg (by rw [h3]; decide), if_pos h3]
theorem wf_other {s : ByteArray} {d st e j : Nat} {acc : List Str} (he : we s st = e) (h : e ≠ st) (h1 : isName (strBytes (s.extract st e)) = true) (h2 : cut s st e ∉ acc) (hj : sk s e = j) (h3 : gt s j ≠ 125) (h4 : gt s j ≠ 44) : wordsF s (d + 1) st acc = bad j 2 := by
  subst he hj; rw [wordsF, if_neg h, if_neg (by simp [h1, h2]), if_neg h3, if_neg h4]

set_option maxRecDepth 100000 in
set_option maxHeartbeats 3200000 in
theorem words_any (b : Nat) (s : ByteArray) (i0 : Nat) (w : World) (RES : Got) (hs : s.size ≤ 1000000) (hi0 : i0 ≤ s.size) (H : Pst w b s i0) (hR : wordsF s (s.size + 1) (sk s i0) [] = RES) :
    Calls Try.prog 58 #[.pointer (some ⟨b, 0, none⟩)] w (WPost w.heap.size b s RES w) := by
  have HR := hid_of hR
  have HB : Hid (b < w.heap.size) := hid_of H.lt
  have HP : Hid (Pst (w.alloc (.map #[] 0)) b s i0) := hid_of (pst_bel H (bel_alloc w _) H.lt)
  have HM : Hid (MapS (w.alloc (.map #[] 0)) w.heap.size 0 []) := hid_of (mapS_made w)
  have HK : Hid (KB b w (w.alloc (.map #[] 0))) := hid_of (Kept.ofBelow (bel_alloc w _))
  have hmm := @run_makeMap Try.prog
  obtain ⟨mb, hmb⟩ : ∃ mb, mb = w.heap.size := ⟨_, rfl⟩
  have HMB := hid_of hmb
  clear hR H
  go_enter Try.func58, Try.ntmps58
  go_wp2
  clear hmm
  clear hmb
  go_loopw [4, 6] (fun lv wv wr => ∃ (i d : Nat) (acc : List Str) (xo : Option Addr) (xc : Nat) (v : Value), wv = v ∧ lv = .slice xo acc.length xc ∧ i ≤ s.size ∧ Hid (acc.length ≤ i ∧ s.size - i < d ∧ wordsF s d (sk s i) acc = RES) ∧ Hid (Pst wr b s i) ∧ Hid (MapS wr w.heap.size acc.length acc) ∧ Hid (wr.ownsRow (w.heap.size + 1) 9 1 (.slice xo acc.length xc) acc.length (ss acc)) ∧ Hid (KB b w wr) ∧ Hid (w.heap.size + 1 ≤ wr.heap.size)) (fun _ _ wr => s.size - pAt b wr)
  case atStart => exact ⟨i0, s.size + 1, [], none, 0, _, rfl, rfl, hi0, hid_of ⟨Nat.zero_le _, by omega, HR.out⟩, HP, HM, hid_of (World.ownsRow_nil _ _ _ _), HK, hid_of (by simp)⟩
  case round =>
    obtain ⟨i, d, acc, xo, xc, v, rfl, rfl, hi, hw, hp, hmp, hrow, hk, hsz⟩ := hrel
    obtain ⟨st, hst⟩ : ∃ st, st = sk s i := ⟨_, rfl⟩
    obtain ⟨e, he⟩ : ∃ e, e = we s st := ⟨_, rfl⟩
    obtain ⟨j, hj⟩ : ∃ j, j = sk s e := ⟨_, rfl⟩
    have f1 : i ≤ st ∧ st ≤ s.size := by rw [hst]; exact ⟨(sk_spec s i).2.1, (sk_spec s i).2.2.1 hi⟩
    have f2 : st ≤ e ∧ e ≤ s.size := by rw [he]; exact ⟨(we_spec s st).2.1, (we_spec s st).2.2.1 f1.2⟩
    have f3 : e ≤ j ∧ j ≤ s.size := by rw [hj]; exact ⟨(sk_spec s e).2.1, (sk_spec s e).2.2.1 f2.2⟩
    obtain ⟨d', rfl⟩ : ∃ d', d = d' + 1 := ⟨d - 1, by have := hw.out.2.1; omega⟩
    have HW : Hid (wordsF s (d' + 1) st acc = RES) := hid_of (by rw [hst]; exact hw.out.2.2)
    have WC := hid_of (word_any b s i _ hs hi hp.out)
    obtain ⟨bw, hbw⟩ : ∃ bw, bw = s.extract st e := ⟨_, rfl⟩
    have hbs : bw.size = e - st := by rw [hbw, ByteArray.size_extract]; omega
    rw [← hst, ← he, ← hbw] at WC
    have HBW := hid_of hbw
    have HE := hid_of he
    have HJ := hid_of hj
    have HF := hid_of (And.intro f1 (And.intro f2 f3))
    have HJ2 : Hid (sk s j = j) := hid_of (by rw [hj]; exact sk_idem s e)
    have HIJ : Hid (i ≤ e) := hid_of (by omega)
    have e9 : e ≤ 1000000 := by omega
    have st9 : st ≤ e := f2.1
    have HE9 : Hid (e ≤ s.size) := hid_of f2.2
    have HJ9 : Hid (j ≤ s.size) := hid_of f3.2
    have HCUT : Hid (ba (cut s st e) = bw) := hid_of (by rw [hbw]; exact ba_of _)
    clear hst he hj hbw f1 f2 f3
    by_cases hemp : e = st
    · have HRES := hid_of (HW.out.symm.trans (wf_empty (HE.out.symm.trans hemp)))
      have z1 : bw.toList = [] := by rw [ByteArray.toList_eq]; exact List.eq_nil_of_length_eq_zero (by rw [Array.length_toList]; show bw.size = 0; omega)
      have z2 : bw.toList.isEmpty = true := by rw [z1]; rfl
      have HPE : Hid (e = st) := hid_of hemp
      clear hemp hbs
      go_wp2_with (go_at_call 73; ((with_reducible refine (WC.out).mono ?_); (rintro ee w1 ⟨rfl, h1, h2⟩; have P1 := hid_of h1; have K1 := hid_of (hk.out.trans h2); clear h1 h2)))
      go_ret2
      exact wpost_bad HRES.out (.inl rfl) K1.out (by rw [← HPE.out]; exact P1.out)
    · have z1 : bw.toList.isEmpty = false := by
        rw [ByteArray.toList_eq]; cases hz : bw.data.toList with
        | nil => exfalso; have h2 : bw.size = 0 := by rw [show bw.size = bw.data.toList.length from (Array.length_toList).symm, hz]; rfl
                 omega
        | cons _ _ => rfl
      have z2 : (bw.toList == []) = false := by
        cases hz : bw.toList with
        | nil => rw [hz] at z1; cases z1
        | cons _ _ => rfl
      have HEM := hid_of hemp
      have VC : Hid (∀ w, Calls Try.prog 13 #[.string bw] w fun ee w' => ee = .returned (.bool (isName (strBytes bw))) ∧ w = w') := hid_of (fun w => (valid_any bw w (by unfold maxLen; omega)).mono fun _ _ h => ⟨h.1, h.2.symm⟩)
      obtain ⟨q, hq⟩ : ∃ q, q = isName (strBytes bw) := ⟨_, rfl⟩
      rw [← hq] at VC
      have HQ := hid_of hq
      have hsub : ((e : Int) - (bw.size : Int)) = (st : Int) := by rw [hbs]; omega
      have HST : Hid (bw.size = e - st) := hid_of hbs
      have hb9 : bw.size ≤ 1000000 := by omega
      have hbe : bw.size ≤ e := by omega
      clear hq hemp hbs
      cases q
      · have HRES : Hid (RES = bad st 3) := hid_of (HW.out.symm.trans (wf_name HE.out.symm HEM.out (.inl (by rw [← HBW.out]; exact HQ.out.symm))))
        clear hb9 hbe
        go_wp2_with (first
          | (go_at_call 73; ((with_reducible refine (WC.out).mono ?_); (rintro ee w1 ⟨rfl, h1, h2⟩; have P1 := hid_of h1; have K1 := hid_of (hk.out.trans h2); have c1 := h1.pos; have f1 := h1.free; clear h1 h2)))
          | (go_at_call 13; ((with_reducible refine (VC.out w1).mono ?_); (rintro ee w' ⟨rfl, rfl⟩))))
        go_ret2
        exact wpost_bad HRES.out (.inr rfl) (K1.out.trans (Kept.set _ _ _ _)) (P1.out.set st)
      · by_cases hin : cut s st e ∈ acc
        · have HRES : Hid (RES = bad st 3) := hid_of (HW.out.symm.trans (wf_name HE.out.symm HEM.out (.inr hin)))
          have HIN := hid_of hin
          clear hb9 hbe hin
          go_wp2_with (first
            | (go_at_call 73; ((with_reducible refine (WC.out).mono ?_); (rintro ee w1 ⟨rfl, h1, h2⟩; have P1 := hid_of h1; have K1 := hid_of (hk.out.trans h2); have c1 := h1.pos; have f1 := h1.free; have lk := (map_kb hmp.out h2 (by have := HB.out; omega)).look (cut s st e) (by show (cut s st e).toArray.size ≤ _; have h5 : (ba (cut s st e)).size = bw.size := (by rw [HCUT.out]); have h6 : (cut s st e).toArray.size = (ba (cut s st e)).size := rfl; rw [h6, h5, HST.out]; omega); rw [HCUT.out, decide_eq_true HIN.out] at lk; clear h1 h2)))
            | (go_at_call 13; ((with_reducible refine (VC.out w1).mono ?_); (rintro ee w' ⟨rfl, rfl⟩))))
          go_ret2
          exact wpost_bad HRES.out (.inr rfl) (K1.out.trans (Kept.set _ _ _ _)) (P1.out.set st)
        · have HIN := hid_of hin
          have HAL : Hid (acc.length ≤ 1000000) := hid_of (by have := hw.out.1; omega)
          have HCL : Hid ((cut s st e).length ≤ 1000000) := hid_of (by
            show (cut s st e).toArray.size ≤ _
            have h5 : (ba (cut s st e)).size = bw.size := by rw [HCUT.out]
            have h6 : (cut s st e).toArray.size = (ba (cut s st e)).size := rfl
            rw [h6, h5, HST.out]; omega)
          have HN1 : Hid (isName (strBytes (s.extract st e)) = true) := hid_of (by rw [← HBW.out]; exact HQ.out.symm)
          clear hin hsub hb9 hbe
          by_cases h1 : gt s j = 125
          · have HRES := hid_of (HW.out.symm.trans (wf_close HE.out.symm HEM.out HN1.out HIN.out HJ.out.symm h1))
            have HG1 : Hid (gt s (sk s e) = 125) := hid_of (by rw [← HJ.out]; exact h1)
            have hjlt : Hid (j < s.size) := hid_of (gt_in (by rw [h1]; decide))
            clear h1
            go_wp2_with (first
              | (go_at_call 73; ((with_reducible refine (WC.out).mono ?_); (rintro ee w1 ⟨rfl, h1, h2⟩; have P1 := hid_of h1; have K1 := hid_of (hk.out.trans h2); have M1 := hid_of (map_kb hmp.out h2 (by have := HB.out; omega)); have O1 := hid_of (own_kb hrow.out h2 (by have := HB.out; omega)); have Z1 : Hid (w.heap.size + 1 ≤ w1.heap.size) := hid_of (by have := hsz.out; have := h2.size; omega); have lk := (map_kb hmp.out h2 (by have := HB.out; omega)).look (cut s st e) HCL.out; rw [HCUT.out, decide_eq_false HIN.out] at lk; clear h1 h2)))
              | (go_at_call 13; ((with_reducible refine (VC.out w1).mono ?_); (rintro ee w' ⟨rfl, rfl⟩)))
              | (at_mapUpdate; ((refine wpList_put rfl _ _ _ rfl w.heap.size acc.length acc (cut s st e) rfl (by rw [HCUT.out]; rfl) rfl M1.out (by have := HAL.out; omega) HCL.out ?_); intro w2 hm2 hg2; have M2 := hid_of hm2; have O2 := hid_of (own_by O1.out hg2 (by omega)); have P2 := hid_of (pst_by P1.out hg2 (by have := HB.out; omega)); have K2 := hid_of (kb_by K1.out hg2 (Nat.le_refl _)); have Z2 : Hid (w.heap.size + 1 ≤ w2.heap.size) := hid_of (by have := hg2.size; have := Z1.out; omega); clear hm2 hg2 lk))
              | (at_builtin; ((refine wpList_app strsE rfl _ _ rfl (v := .slice xo acc.length xc) rfl (ow_of (O2.out.alloc _) rfl (by have := Z2.out; simp; omega)) (vx := .slice (some ⟨w2.heap.size, 0, none⟩) 1 1) rfl (m := ss [cut s st e]) (rd_new rfl (by rw [← HCUT.out]; rfl) (by simp [ss])) (ss_one _) (by rw [ss_length, ss_len1]; have := HAL.out; omega) (by rw [ss_length, ss_len1]; have := HAL.out; omega) ?_); intro xo3 n3 c3 w3 hn3 h3; have BB3 : Hid (Below (w.heap.size + 1) w2 w3) := hid_of (((bel_alloc w2 _).mono Z2.out).trans h3.bel); have N3 : Hid (n3 = (acc ++ [cut s st e]).length) := hid_of (by rw [hn3, ss_length, ss_len1]; simp); have O3 : Hid (w3.ownsRow (w.heap.size + 1) 9 1 (.slice xo3 n3 c3) n3 (ss (acc ++ [cut s st e]))) := hid_of (by have := h3.own; rw [← ss_append, ss_length, ← N3.out] at this; exact this); have P3 := hid_of (pst_bel P2.out BB3.out (by have := HB.out; omega)); have M3 := hid_of (M2.out.same (BB3.out.block w.heap.size (by omega))); have K3 := hid_of (kb_bel K2.out BB3.out (by omega)); have Z3 : Hid (w.heap.size + 1 ≤ w3.heap.size) := hid_of (by have := BB3.out.size; have := Z2.out; omega); clear h3 hn3))
              | (go_at_call 57; ((with_reducible refine (sign_yes b s e 125 w3 hs HE9.out P3.out HG1.out (by decide)).mono ?_); (rintro ee w4 ⟨rfl, h1, h2⟩; have P4 := hid_of h1; have K4 := hid_of h2; clear h1 h2))))
            go_ret2
            exact ⟨K3.out.trans K4.out, .inl ⟨acc ++ [cut s st e], j + 1, xo3, c3, HRES.out, by have := hjlt.out; omega, by rw [List.length_append]; have := hw.out.1; have := HIJ.out; have := HEM.out; have := HF.out; simp; omega, by rw [← N3.out] <;> rfl, by rw [HJ.out]; exact P4.out, by rw [← N3.out]; exact ownsRow_mono (own_kb O3.out K4.out (by have := HB.out; omega)) (by omega)⟩⟩
          · by_cases h2 : gt s j = 44
            · have HRES := hid_of ((wf_comma HE.out.symm HEM.out HN1.out HIN.out HJ.out.symm h2).symm.trans HW.out)
              have HG1 : Hid (gt s (sk s e) ≠ 125) := hid_of (by rw [← HJ.out]; exact h1)
              have HG2 : Hid (gt s (sk s j) = 44) := hid_of (by rw [HJ2.out]; exact h2)
              have hjlt : Hid (j < s.size) := hid_of (gt_in (by rw [h2]; decide))
              clear h1 h2
              go_wp2_with (first
              | (go_at_call 73; ((with_reducible refine (WC.out).mono ?_); (rintro ee w1 ⟨rfl, h1, h2⟩; have P1 := hid_of h1; have K1 := hid_of (hk.out.trans h2); have M1 := hid_of (map_kb hmp.out h2 (by have := HB.out; omega)); have O1 := hid_of (own_kb hrow.out h2 (by have := HB.out; omega)); have Z1 : Hid (w.heap.size + 1 ≤ w1.heap.size) := hid_of (by have := hsz.out; have := h2.size; omega); have lk := (map_kb hmp.out h2 (by have := HB.out; omega)).look (cut s st e) HCL.out; rw [HCUT.out, decide_eq_false HIN.out] at lk; clear h1 h2)))
              | (go_at_call 13; ((with_reducible refine (VC.out w1).mono ?_); (rintro ee w' ⟨rfl, rfl⟩)))
              | (at_mapUpdate; ((refine wpList_put rfl _ _ _ rfl w.heap.size acc.length acc (cut s st e) rfl (by rw [HCUT.out]; rfl) rfl M1.out (by have := HAL.out; omega) HCL.out ?_); intro w2 hm2 hg2; have M2 := hid_of hm2; have O2 := hid_of (own_by O1.out hg2 (by omega)); have P2 := hid_of (pst_by P1.out hg2 (by have := HB.out; omega)); have K2 := hid_of (kb_by K1.out hg2 (Nat.le_refl _)); have Z2 : Hid (w.heap.size + 1 ≤ w2.heap.size) := hid_of (by have := hg2.size; have := Z1.out; omega); clear hm2 hg2 lk))
              | (at_builtin; ((refine wpList_app strsE rfl _ _ rfl (v := .slice xo acc.length xc) rfl (ow_of (O2.out.alloc _) rfl (by have := Z2.out; simp; omega)) (vx := .slice (some ⟨w2.heap.size, 0, none⟩) 1 1) rfl (m := ss [cut s st e]) (rd_new rfl (by rw [← HCUT.out]; rfl) (by simp [ss])) (ss_one _) (by rw [ss_length, ss_len1]; have := HAL.out; omega) (by rw [ss_length, ss_len1]; have := HAL.out; omega) ?_); intro xo3 n3 c3 w3 hn3 h3; have BB3 : Hid (Below (w.heap.size + 1) w2 w3) := hid_of (((bel_alloc w2 _).mono Z2.out).trans h3.bel); have N3 : Hid (n3 = (acc ++ [cut s st e]).length) := hid_of (by rw [hn3, ss_length, ss_len1]; simp); have O3 : Hid (w3.ownsRow (w.heap.size + 1) 9 1 (.slice xo3 n3 c3) n3 (ss (acc ++ [cut s st e]))) := hid_of (by have := h3.own; rw [← ss_append, ss_length, ← N3.out] at this; exact this); have P3 := hid_of (pst_bel P2.out BB3.out (by have := HB.out; omega)); have M3 := hid_of (M2.out.same (BB3.out.block w.heap.size (by omega))); have K3 := hid_of (kb_bel K2.out BB3.out (by omega)); have Z3 : Hid (w.heap.size + 1 ≤ w3.heap.size) := hid_of (by have := BB3.out.size; have := Z2.out; omega); clear h3 hn3))
              | (go_at_call 57; (first
              | ((with_reducible refine (sign_no b s e 125 w3 hs HE9.out P3.out HG1.out).mono ?_); (rintro ee w4 ⟨rfl, h1, h2⟩; have P4 : Hid (Pst w4 b s j) := hid_of (by rw [HJ.out]; exact h1); have K4 := hid_of h2; clear h1 h2))
              | ((with_reducible refine (sign_yes b s j 44 w4 hs HJ9.out P4.out HG2.out (by decide)).mono ?_); (rintro ee w5 ⟨rfl, h1, h2⟩; have P5 := hid_of h1; have K5 := hid_of h2; clear h1 h2)))))
              go_roundw
              case rel => exact ⟨j + 1, d', acc ++ [cut s st e], xo3, c3, _, rfl, by rw [N3.out], by have := hjlt.out; omega, hid_of ⟨by rw [List.length_append]; have := hw.out.1; have := HIJ.out; have := HEM.out; have := HF.out; simp; omega, by have := hw.out.2.1; have := HF.out; have := HEM.out; have := hjlt.out; omega, HRES.out⟩, hid_of (by have := P5.out; rw [HJ2.out] at this; exact this), hid_of (by rw [List.length_append]; exact map_kb M3.out (K4.out.trans K5.out) (by have := HB.out; omega)), hid_of (by rw [← N3.out]; exact own_kb O3.out (K4.out.trans K5.out) (by have := HB.out; omega)), hid_of (K3.out.trans (K4.out.trans K5.out)), hid_of (by have := Z3.out; have := (K4.out.trans K5.out).size; omega)⟩
              case measure =>
                have := P5.out.at_
                rw [HJ2.out] at this
                rw [this, hp.out.at_]; have := HF.out; have := hjlt.out; omega
            · have HRES := hid_of (HW.out.symm.trans (wf_other HE.out.symm HEM.out HN1.out HIN.out HJ.out.symm h1 h2))
              have HG1 : Hid (gt s (sk s e) ≠ 125) := hid_of (by rw [← HJ.out]; exact h1)
              have HG2 : Hid (gt s (sk s j) ≠ 44) := hid_of (by rw [HJ2.out]; exact h2)
              clear h1 h2
              go_wp2_with (first
              | (go_at_call 73; ((with_reducible refine (WC.out).mono ?_); (rintro ee w1 ⟨rfl, h1, h2⟩; have P1 := hid_of h1; have K1 := hid_of (hk.out.trans h2); have M1 := hid_of (map_kb hmp.out h2 (by have := HB.out; omega)); have O1 := hid_of (own_kb hrow.out h2 (by have := HB.out; omega)); have Z1 : Hid (w.heap.size + 1 ≤ w1.heap.size) := hid_of (by have := hsz.out; have := h2.size; omega); have lk := (map_kb hmp.out h2 (by have := HB.out; omega)).look (cut s st e) HCL.out; rw [HCUT.out, decide_eq_false HIN.out] at lk; clear h1 h2)))
              | (go_at_call 13; ((with_reducible refine (VC.out w1).mono ?_); (rintro ee w' ⟨rfl, rfl⟩)))
              | (at_mapUpdate; ((refine wpList_put rfl _ _ _ rfl w.heap.size acc.length acc (cut s st e) rfl (by rw [HCUT.out]; rfl) rfl M1.out (by have := HAL.out; omega) HCL.out ?_); intro w2 hm2 hg2; have M2 := hid_of hm2; have O2 := hid_of (own_by O1.out hg2 (by omega)); have P2 := hid_of (pst_by P1.out hg2 (by have := HB.out; omega)); have K2 := hid_of (kb_by K1.out hg2 (Nat.le_refl _)); have Z2 : Hid (w.heap.size + 1 ≤ w2.heap.size) := hid_of (by have := hg2.size; have := Z1.out; omega); clear hm2 hg2 lk))
              | (at_builtin; ((refine wpList_app strsE rfl _ _ rfl (v := .slice xo acc.length xc) rfl (ow_of (O2.out.alloc _) rfl (by have := Z2.out; simp; omega)) (vx := .slice (some ⟨w2.heap.size, 0, none⟩) 1 1) rfl (m := ss [cut s st e]) (rd_new rfl (by rw [← HCUT.out]; rfl) (by simp [ss])) (ss_one _) (by rw [ss_length, ss_len1]; have := HAL.out; omega) (by rw [ss_length, ss_len1]; have := HAL.out; omega) ?_); intro xo3 n3 c3 w3 hn3 h3; have BB3 : Hid (Below (w.heap.size + 1) w2 w3) := hid_of (((bel_alloc w2 _).mono Z2.out).trans h3.bel); have N3 : Hid (n3 = (acc ++ [cut s st e]).length) := hid_of (by rw [hn3, ss_length, ss_len1]; simp); have O3 : Hid (w3.ownsRow (w.heap.size + 1) 9 1 (.slice xo3 n3 c3) n3 (ss (acc ++ [cut s st e]))) := hid_of (by have := h3.own; rw [← ss_append, ss_length, ← N3.out] at this; exact this); have P3 := hid_of (pst_bel P2.out BB3.out (by have := HB.out; omega)); have M3 := hid_of (M2.out.same (BB3.out.block w.heap.size (by omega))); have K3 := hid_of (kb_bel K2.out BB3.out (by omega)); have Z3 : Hid (w.heap.size + 1 ≤ w3.heap.size) := hid_of (by have := BB3.out.size; have := Z2.out; omega); clear h3 hn3))
              | (go_at_call 57; (first
              | ((with_reducible refine (sign_no b s e 125 w3 hs HE9.out P3.out HG1.out).mono ?_); (rintro ee w4 ⟨rfl, h1, h2⟩; have P4 : Hid (Pst w4 b s j) := hid_of (by rw [HJ.out]; exact h1); have K4 := hid_of h2; clear h1 h2))
              | ((with_reducible refine (sign_no b s j 44 w4 hs HJ9.out P4.out HG2.out).mono ?_); (rintro ee w5 ⟨rfl, h1, h2⟩; have P5 := hid_of h1; have K5 := hid_of h2; clear h1 h2)))))
              go_ret2
              exact wpost_bad HRES.out (.inl rfl) (K3.out.trans (K4.out.trans K5.out)) (by have := P5.out; rw [HJ2.out] at this; exact this)
end Go.Proofs.Ytpbjnbceloibnaa
