/- The text of a set is read as the set; what is read has a text that is not longer than the source: plain mathematics. No condition. -/
import Derived.Test.YtkpblmmgaglhoaaNamTxr
namespace Go.Proofs.Ytkpblmmgaglhoaa

/-- The byte of a list at a place, or -1 behind the end. -/
def gl (l : Str) (i : Nat) : Int := match l[i]? with
  | some b => (b.toNat : Int)
  | none => -1
theorem gt_ba (l : Str) (i : Nat) : gt (ba l) i = gl l i := by
  by_cases h : i < l.length
  · have h2 : i < (ba l).size := by show i < l.toArray.size; simpa using h
    rw [gt_lt h2, gl, List.getElem?_eq_getElem h]
    rfl
  · rw [gt_ge (by show ¬ i < l.toArray.size; simpa using h), gl, List.getElem?_eq_none (by omega)]
theorem gl_app (p r : Str) (i : Nat) : gl (p ++ r) (p.length + i) = gl r i := by
  unfold gl; rw [List.getElem?_append_right (by omega), show p.length + i - p.length = i by omega]
theorem gl_app0 (p r : Str) : gl (p ++ r) p.length = gl r 0 := by have := gl_app p r 0; rwa [Nat.add_zero] at this
theorem ba_len (l : Str) : (ba l).size = l.length := by show l.toArray.size = _; simp
theorem gl_left (p r : Str) (i : Nat) (h : i < p.length) : gl (p ++ r) i = gl p i := by
  unfold gl; rw [List.getElem?_append_left h]
theorem run_eq {p : Int → Bool} {s : ByteArray} : ∀ (n i : Nat), (∀ k, i ≤ k → k < i + n → p (gt s k) = true ∧ k < s.size) → p (gt s (i + n)) = false → runF p s i = i + n := by
  intro n; induction n with
  | zero => intro i _ h; exact runF_stop h
  | succ n ih =>
    intro i h1 h2
    rw [runF_go (h1 i (Nat.le_refl _) (by omega)).2 (h1 i (Nat.le_refl _) (by omega)).1, ih (i + 1) (fun k hk hk2 => h1 k (by omega) (by omega)) (by rw [show i + 1 + n = i + (n + 1) by omega]; exact h2)]
    omega
theorem strBytes_ba (l : Str) : strBytes (ba l) = l.map fun b => (b.toNat : Int) := rfl
theorem name_chars {x : Str} (h : nameOk x = true) : 0 < x.length ∧ (∀ i, i < x.length → inw (gl x i) = true) ∧ isl (gl x 0) = true := by
  obtain ⟨h1, _, h3, h4⟩ := (isName_iff _).1 h
  rw [strBytes_length, show (ba x).size = x.length by show x.toArray.size = _; simp] at h1
  refine ⟨h1, fun i hi => ?_, ?_⟩
  · refine h4 i _ ?_
    rw [strBytes_ba, List.getElem?_map, List.getElem?_eq_getElem hi]
    simp [gl, List.getElem?_eq_getElem hi]
  · refine h3 _ ?_
    rw [strBytes_ba, List.getElem?_map, List.getElem?_eq_getElem h1]
    simp [gl, List.getElem?_eq_getElem h1]
theorem isl_ne {c : Int} (h : isl c = true) : c ≠ 32 ∧ c ≠ 125 := by
  simp only [isl, Bool.and_eq_true, decide_eq_true_eq] at h
  omega
theorem extract_mid (p x r : Str) : (ba (p ++ x ++ r)).extract p.length (p.length + x.length) = ba x := by
  apply ByteArray.ext
  simp [ba]
theorem we_mid {p x r : Str} (h : nameOk x = true) (hr : inw (gl r 0) = false) : we (ba (p ++ x ++ r)) p.length = p.length + x.length := by
  obtain ⟨h1, h2, _⟩ := name_chars h
  refine run_eq x.length p.length (fun k hk hk2 => ?_) ?_
  · obtain ⟨i, rfl⟩ : ∃ i, k = p.length + i := ⟨k - p.length, by omega⟩
    rw [gt_ba, List.append_assoc, gl_app, gl_left _ _ _ (by omega)]
    exact ⟨h2 i (by omega), by show _ < (p ++ (x ++ r)).toArray.size; simp; omega⟩
  · rw [gt_ba, show p.length + x.length = (p ++ x).length + 0 by simp, gl_app]; exact hr
theorem sk_here {s : ByteArray} {i : Nat} (h : gt s i ≠ 32) : sk s i = i := sk_stop h
theorem jt_head (x : Str) (r : List Str) (t : Str) : gl (Lib.joinTail [44] (x :: r) ++ t) 0 = 44 := by rw [joinTail_cons]; rfl

theorem words_text : ∀ (Q P : List Str) (pre : Str) (d : Nat) (x : Str), allOk (x :: Q) = true → (P ++ x :: Q).Nodup → (ba (pre ++ jn (x :: Q) ++ [125])).size - pre.length < d →
    wordsF (ba (pre ++ jn (x :: Q) ++ [125])) d pre.length P = ⟨setOf (P ++ x :: Q), 0, 0⟩ := by
  intro Q; induction Q with
  | nil =>
    intro P pre d x hok hnd hd
    obtain ⟨d', rfl⟩ : ∃ d', d = d' + 1 := ⟨d - 1, by omega⟩
    have hx : nameOk x = true := by simpa [allOk] using hok
    obtain ⟨h1, h2, h3⟩ := name_chars hx
    have e1 : pre ++ jn [x] ++ [125] = pre ++ x ++ [125] := by rw [jn, Lib.join_one]
    rw [e1]
    have hw := we_mid (p := pre) (r := [125]) hx rfl
    have hg : gt (ba (pre ++ x ++ [125])) (pre.length + x.length) = 125 := by
      rw [gt_ba, show pre.length + x.length = (pre ++ x).length + 0 by simp, gl_app]; rfl
    have hs : sk (ba (pre ++ x ++ [125])) (pre.length + x.length) = pre.length + x.length := sk_here (by rw [hg]; decide)
    have hc : cut (ba (pre ++ x ++ [125])) pre.length (pre.length + x.length) = x := by unfold cut; rw [extract_mid]; exact ba_list x
    have hni : x ∉ P := fun h => by
      have := (List.nodup_append.1 hnd).2.2 x h x (by simp)
      exact this rfl
    rw [wf_close hw (by omega) (by rw [extract_mid]; exact hx) (by rw [hc]; exact hni) hs hg, hc]
    have hsz : (ba (pre ++ x ++ [125])).size = pre.length + x.length + 1 := by show (pre ++ x ++ [125]).toArray.size = _; simp; omega
    have hsk : sk (ba (pre ++ x ++ [125])) (pre.length + x.length + 1) = pre.length + x.length + 1 := runF_end blank_ends (by rw [hsz]; omega)
    rw [fin_ok hsk.symm (by rw [hsz]; omega)]
  | cons y Q ih =>
    intro P pre d x hok hnd hd
    obtain ⟨d', rfl⟩ : ∃ d', d = d' + 1 := ⟨d - 1, by omega⟩
    have hok2 : nameOk x = true ∧ allOk (y :: Q) = true := by
      simp only [allOk, List.all_cons, Bool.and_eq_true] at hok ⊢
      exact ⟨hok.1, hok.2⟩
    have hy : nameOk y = true := by have := hok2.2; simp only [allOk, List.all_cons, Bool.and_eq_true] at this; exact this.1
    obtain ⟨h1, h2, h3⟩ := name_chars hok2.1
    obtain ⟨g1, g2, g3⟩ := name_chars hy
    have e1 : pre ++ jn (x :: y :: Q) ++ [125] = pre ++ x ++ (44 :: (jn (y :: Q) ++ [125])) := by
      rw [jn_cons, joinTail_cons, jn_cons]; simp
    have e2 : pre ++ x ++ (44 :: (jn (y :: Q) ++ [125])) = (pre ++ x ++ [44]) ++ jn (y :: Q) ++ [125] := by simp
    have hd2 := hd
    rw [e1] at hd ⊢
    have hw := we_mid (p := pre) (r := 44 :: (jn (y :: Q) ++ [125])) hok2.1 rfl
    have hg : gt (ba (pre ++ x ++ (44 :: (jn (y :: Q) ++ [125])))) (pre.length + x.length) = 44 := by
      rw [gt_ba, show pre.length + x.length = (pre ++ x).length + 0 by simp, gl_app]; rfl
    have hs : sk (ba (pre ++ x ++ (44 :: (jn (y :: Q) ++ [125])))) (pre.length + x.length) = pre.length + x.length := sk_here (by rw [hg]; decide)
    have hc : cut (ba (pre ++ x ++ (44 :: (jn (y :: Q) ++ [125])))) pre.length (pre.length + x.length) = x := by unfold cut; rw [extract_mid]; exact ba_list x
    have hni : x ∉ P := fun h => by
      have := (List.nodup_append.1 hnd).2.2 x h x (by simp)
      exact this rfl
    rw [wf_comma hw (by omega) (by rw [extract_mid]; exact hok2.1) (by rw [hc]; exact hni) hs hg, hc, e2]
    have hlen : pre.length + x.length + 1 = (pre ++ x ++ [44]).length := by simp; omega
    have hg2 : gt (ba ((pre ++ x ++ [44]) ++ jn (y :: Q) ++ [125])) (pre.length + x.length + 1) ≠ 32 := by
      rw [hlen, gt_ba, List.append_assoc (pre ++ x ++ [44]), gl_app0, jn_cons, List.append_assoc, gl_left _ _ _ g1]
      exact (isl_ne g3).1
    rw [sk_here hg2, hlen, ih (P ++ [x]) (pre ++ x ++ [44]) d' y hok2.2 (by simpa using hnd) (by
      rw [e2, ba_len] at hd
      rw [ba_len]
      simp only [List.length_append, List.length_cons, List.length_nil] at hd ⊢
      omega)]
    simp

theorem ddp_strict {a : List Str} (h : SS a) : ∀ k, k ≤ a.length → ddp a k = a.take k := by
  intro k; induction k with
  | zero => intro _; rfl
  | succ k ih =>
    intro hk
    rw [ddp_yes, ih (by omega), take_snoc' (by omega : k < a.length), getD_of (by omega)]
    by_cases h0 : k = 0
    · exact .inl h0
    · exact .inr (ss_get h (by omega) (by omega))
theorem setOf_perm {l : List Str} (h : l.Nodup) : (setOf l).Perm l := by
  have hp : (srt l).Perm l := List.mergeSort_perm l _
  have hs : SS (srt l) := by
    have hnd : (srt l).Nodup := hp.symm.nodup h
    have := List.pairwise_iff_getElem.1 (srt_pw l)
    refine List.pairwise_iff_getElem.2 (fun i j hi hj hij => ?_)
    rcases str_le.1 (this i j hi hj hij) with h1 | h1
    · exact h1
    · exact absurd h1 (List.pairwise_iff_getElem.1 hnd i j hi hj hij)
  rw [setOf, ddp_strict hs _ (by rw [srt_length]; exact Nat.le_refl _), List.take_of_length_le (by rw [srt_length]; exact Nat.le_refl _)]
  exact hp
theorem parse_text {l : List Str} (h : allOk l = true) : parseF (ba (txt l)) = ⟨setOf l, 0, 0⟩ := by
  have hok : allOk (setOf l) = true := by rw [allOk_set]; exact h
  have hnd : (setOf l).Nodup := ss_nodup (setOf_ss l)
  unfold txt
  cases hL : setOf l with
  | nil => rfl
  | cons x Q =>
    rw [hL] at hok hnd
    have hx : nameOk x = true := by simp only [allOk, List.all_cons, Bool.and_eq_true] at hok; exact hok.1
    obtain ⟨g1, g2, g3⟩ := name_chars hx
    have e : (123 :: jn (x :: Q) ++ [125] : Str) = [123] ++ jn (x :: Q) ++ [125] := rfl
    rw [e]
    have ha : gt (ba ([123] ++ jn (x :: Q) ++ [125])) 0 = 123 := by rw [gt_ba]; rfl
    have h0 : sk (ba ([123] ++ jn (x :: Q) ++ [125])) 0 = 0 := sk_here (by rw [ha]; decide)
    have hc : gt (ba ([123] ++ jn (x :: Q) ++ [125])) 1 = gl x 0 := by
      rw [gt_ba, List.append_assoc, show (1 : Nat) = ([123] : Str).length + 0 from rfl, gl_app, jn_cons, List.append_assoc, gl_left _ _ _ g1]
    have h1 : sk (ba ([123] ++ jn (x :: Q) ++ [125])) (0 + 1) = 1 := sk_here (by rw [show 0 + 1 = 1 from rfl, hc]; exact (isl_ne g3).1)
    rw [parseF, h0, ha, if_neg (by decide), h1, hc, if_neg (isl_ne g3).2]
    have := words_text Q [] [123] ((ba ([123] ++ jn (x :: Q) ++ [125])).size + 1) x hok (by simpa using hnd) (by omega)
    rw [List.nil_append, ← hL, setOf_idem] at this
    rw [show ([123] : Str).length = 1 from rfl, hL] at this
    rw [← hL, hL]
    exact this

def tot (l : List Str) : Nat := (l.map List.length).sum + l.length
theorem tot_snoc (l : List Str) (x : Str) : tot (l ++ [x]) = tot l + x.length + 1 := by simp [tot]; omega
theorem jt_tot (l : List Str) : (Lib.joinTail [44] l).length = tot l := by
  induction l with
  | nil => rfl
  | cons x l ih => rw [joinTail_cons, List.length_append, ih]; simp [tot]; omega
theorem txt_tot (l : List Str) (h : l.Nodup) : (txt l).length ≤ max 2 (tot l + 1) := by
  have hp := setOf_perm h
  have ht : tot (setOf l) = tot l := by
    unfold tot
    rw [hp.length_eq, (hp.map List.length).sum_nat]
  unfold txt
  cases hL : setOf l with
  | nil => simp [jn, Lib.join_nil]; omega
  | cons x Q =>
    rw [hL] at ht
    have : tot (x :: Q) = x.length + 1 + tot Q := by simp [tot]; omega
    rw [jn_cons]
    simp only [List.length_append, List.length_cons, List.length_nil, jt_tot]
    omega
def Good (s : ByteArray) (G : Got) : Prop := (G.code ≠ 0 ∧ G.list = []) ∨ ∃ acc : List Str, G = ⟨setOf acc, 0, 0⟩ ∧ acc.Nodup ∧ allOk acc = true ∧ max 2 (tot acc + 1) ≤ s.size
theorem good_bad {s : ByteArray} {i : Nat} {c : Int} (h : c ≠ 0) : Good s (bad i c) := .inl ⟨h, rfl⟩
theorem good_fin {s : ByteArray} {i : Nat} {acc : List Str} (h1 : acc.Nodup) (h2 : allOk acc = true) (h3 : max 2 (tot acc + 1) ≤ s.size) : Good s (fin s i acc) := by
  by_cases h : sk s i < s.size
  · rw [fin_bad rfl h]; exact good_bad (by decide)
  · rw [fin_ok rfl h]; exact .inr ⟨acc, rfl, h1, h2, h3⟩
theorem words_good (s : ByteArray) : ∀ d st acc, acc.Nodup → allOk acc = true → tot acc + 1 ≤ st → st ≤ s.size → Good s (wordsF s d st acc) := by
  intro d; induction d with
  | zero => intro st acc _ _ _ _; exact good_bad (by decide)
  | succ d ih =>
    intro st acc h1 h2 h3 h4
    have hw := we_spec s st
    have he := hw.2.2.1 h4
    by_cases c1 : we s st = st
    · rw [wf_empty c1]; exact good_bad (by decide)
    · by_cases c2 : isName (strBytes (s.extract st (we s st))) = false ∨ cut s st (we s st) ∈ acc
      · rw [wf_name rfl c1 c2]; exact good_bad (by decide)
      · have c3 : isName (strBytes (s.extract st (we s st))) = true := by
          cases hq : isName (strBytes (s.extract st (we s st)))
          · exact absurd (.inl hq) c2
          · rfl
        have c4 : cut s st (we s st) ∉ acc := fun h => c2 (.inr h)
        have hsk := sk_spec s (we s st)
        have hnd : (acc ++ [cut s st (we s st)]).Nodup := by
          rw [List.nodup_append]
          exact ⟨h1, List.pairwise_singleton _ _, fun a ha b hb => by rw [List.mem_singleton.1 hb]; intro e; exact c4 (e ▸ ha)⟩
        have hok : allOk (acc ++ [cut s st (we s st)]) = true := by
          rw [allOk, List.all_append, show acc.all nameOk = true from h2]
          simp only [List.all_cons, List.all_nil, Bool.and_true, Bool.true_and]
          unfold nameOk cut
          rw [ba_of]; exact c3
        have hlen : (cut s st (we s st)).length = we s st - st := by
          show (s.extract st (we s st)).data.toList.length = _
          rw [Array.length_toList]
          show (s.extract st (we s st)).size = _
          rw [ByteArray.size_extract]; omega
        have htot : tot (acc ++ [cut s st (we s st)]) ≤ we s st := by rw [tot_snoc, hlen]; omega
        by_cases c5 : gt s (sk s (we s st)) = 125
        · rw [wf_close rfl c1 c3 c4 rfl c5]
          have hj : sk s (we s st) < s.size := gt_in (by rw [c5]; decide)
          exact good_fin hnd hok (by omega)
        · by_cases c6 : gt s (sk s (we s st)) = 44
          · rw [wf_comma rfl c1 c3 c4 rfl c6]
            have hj : sk s (we s st) < s.size := gt_in (by rw [c6]; decide)
            have hs2 := sk_spec s (sk s (we s st) + 1)
            exact ih _ _ hnd hok (by omega) (hs2.2.2.1 (by omega))
          · rw [wf_other rfl c1 c3 c4 rfl c5 c6]; exact good_bad (by decide)
theorem parse_good (s : ByteArray) : Good s (parseF s) := by
  unfold parseF
  by_cases h1 : gt s (sk s 0) = 123
  · have ha : sk s 0 < s.size := gt_in (by rw [h1]; decide)
    have hs := sk_spec s (sk s 0 + 1)
    rw [if_neg (by simp [h1])]
    by_cases h2 : gt s (sk s (sk s 0 + 1)) = 125
    · rw [if_pos h2]
      have hc : sk s (sk s 0 + 1) < s.size := gt_in (by rw [h2]; decide)
      exact good_fin List.nodup_nil rfl (by simp [tot]; omega)
    · rw [if_neg h2]
      exact words_good s _ _ _ List.nodup_nil rfl (by simp [tot]; omega) (hs.2.2.1 (by omega))
  · rw [if_pos h1]; exact good_bad (by decide)
end Go.Proofs.Ytkpblmmgaglhoaa
