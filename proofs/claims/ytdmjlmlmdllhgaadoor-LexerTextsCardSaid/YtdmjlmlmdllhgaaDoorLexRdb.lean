/- A text of tokens is read as these tokens: plain mathematics. No condition. -/
import Derived.Test.YtdmjlmlmdllhgaaDoorLexSpm
namespace Go.Proofs.YtdmjlmlmdllhgaaDoor

theorem kw_name : ∀ x ∈ KW, isName (strBytes x) = true := by decide
theorem kw_nm {x : ByteArray} (h : kw x = true) : isName (strBytes x) = true := kw_name x (among_iff.1 h)
theorem sg_first : ∀ x ∈ SG, isl (gt x 0) = false ∧ dig (gt x 0) = false ∧ gt x 0 ≠ 39 ∧ blk (gt x 0) = false ∧ gt x 0 ≠ 35 := by decide
theorem sgn_first {x : ByteArray} (h : sgn x = true) : isl (gt x 0) = false ∧ dig (gt x 0) = false ∧ gt x 0 ≠ 39 ∧ blk (gt x 0) = false ∧ gt x 0 ≠ 35 := sg_first x (among_iff.1 h)
theorem isl_not {c : Int} (h : isl c = true) : blk c = false ∧ c ≠ 35 := by
  simp only [isl, Bool.and_eq_true, decide_eq_true_eq] at h
  refine ⟨?_, by omega⟩
  simp only [blk, Bool.or_eq_false_iff, decide_eq_false_iff_not]
  omega
theorem dig_not {c : Int} (h : dig c = true) : blk c = false ∧ c ≠ 35 ∧ isl c = false := by
  simp only [dig, Bool.and_eq_true, decide_eq_true_eq] at h
  refine ⟨?_, by omega, ?_⟩
  · simp only [blk, Bool.or_eq_false_iff, decide_eq_false_iff_not]
    omega
  · simp only [isl, Bool.and_eq_false_iff, decide_eq_false_iff_not]
    omega
/-- The bytes of a word at a place. -/
theorem at_word {S x : ByteArray} {a : Nat} (h : S.extract a (a + x.size) = x) (hle : a + x.size ≤ S.size) {i : Nat} (hi : i < x.size) : gt S (a + i) = gt x i := by
  rw [← ext_gt (s := S) (j := a) (k := a + x.size) hle (by omega), h]
theorem run_word {q : Int → Bool} {S x : ByteArray} {a : Nat} (hq : Stops q) (h : S.extract a (a + x.size) = x) (hle : a + x.size ≤ S.size) (hs : gt S (a + x.size) = -1 ∨ gt S (a + x.size) = 32) (hall : ∀ i, i < x.size → q (gt x i) = true) : runF q S a = a + x.size := by
  refine run_eq (by omega) hle (fun j h1 h2 => ?_) (fun _ => ?_)
  · obtain ⟨i, rfl⟩ : ∃ i, j = a + i := ⟨j - a, by omega⟩
    rw [at_word h hle (by omega)]
    exact hall i (by omega)
  · rcases hs with h5 | h5 <;> rw [h5]
    · exact hq.1
    · exact hq.2
/-- A possible token that stands written at a place, with the end or a blank behind it, is read there. -/
theorem read_tok {S : ByteArray} {a : Nat} {t : T4} (ho : okF t = true) (hk : t.kind ≠ 6) (h : S.extract a (a + (spell t).size) = spell t) (hle : a + (spell t).size ≤ S.size) (hs : gt S (a + (spell t).size) = -1 ∨ gt S (a + (spell t).size) = 32) :
    0 < (spell t).size ∧ blk (gt S a) = false ∧ gt S a ≠ 35 ∧ tokF S a = ⟨t.kind, t.text, t.n, a + (spell t).size, 0⟩ := by
  obtain ⟨k, x, n, p⟩ := t
  simp only at hk
  by_cases h3 : k = 3
  · subst h3
    rw [ok3] at ho
    obtain ⟨h1, h2, h4⟩ := of_decide_eq_true ho
    subst h1
    obtain ⟨m, rfl⟩ : ∃ m : Nat, n = m := ⟨n.toNat, by omega⟩
    have hsp : spell ⟨3, ⟨#[]⟩, (m : Int), p⟩ = ⟨(Lib.decDigits m).toArray⟩ := by
      show (⟨(Lib.itoa (m : Int)).toArray⟩ : ByteArray) = _
      unfold Lib.itoa; rw [if_neg (by omega)]; rfl
    rw [hsp] at h hle hs ⊢
    obtain ⟨d1, d2, d3, d4⟩ := num_dec m
    generalize hx : (⟨(Lib.decDigits m).toArray⟩ : ByteArray) = x at h hle hs ⊢
    have hxl : x.data.toList = Lib.decDigits m := by rw [← hx]
    have hxs : x.size = (Lib.decDigits m).length := by rw [← hxl, sz_list]
    have hpos : 0 < x.size := by rw [hxs]; exact List.length_pos_iff.2 d1
    have hall : ∀ i, i < x.size → dig (gt x i) = true := fun i hi => by
      have hi2 : i < (Lib.decDigits m).length := by omega
      have e1 : x.data.toList[i]? = some (Lib.decDigits m)[i] := by rw [hxl]; exact List.getElem?_eq_getElem hi2
      rw [byte_at e1]
      have := d2 _ (List.getElem_mem hi2)
      exact dig_iff.2 (by omega)
    have hg0 : gt S a = gt x 0 := by have := at_word h hle hpos; rwa [Nat.add_zero] at this
    have hd0 := hall 0 hpos
    have hn := dig_not hd0
    have hr : de S a = a + x.size := run_word dig_stops h hle hs hall
    refine ⟨hpos, by rw [hg0]; exact hn.1, by rw [hg0]; exact hn.2.1, ?_⟩
    have hnum : numS x = m := by unfold numS; rw [hxl]; exact d3
    rw [tokF, hg0, if_neg (by rw [hn.2.2]; decide), if_pos hd0, intF, hr, h, hg0, show a + x.size - a = x.size by omega, hnum, if_neg, if_neg (by omega)]
    rintro ⟨q1, q2⟩
    have : (Lib.decDigits m).head? = some 48 := by
      rw [← hxl, List.head?_eq_getElem?]
      have h0 : 0 < x.data.toList.length := by rw [sz_list]; exact hpos
      rw [List.getElem?_eq_getElem h0]
      have e1 : x.data.toList[0]? = some x.data.toList[0] := List.getElem?_eq_getElem h0
      have e2 := byte_at e1
      rw [q1] at e2
      congr 1
      exact UInt8.toNat_inj.1 (by show _ = 48; omega)
    have := d4 this
    omega
  by_cases h4 : k = 4
  · subst h4
    rw [ok4, Bool.and_eq_true] at ho
    have hn0 : n = 0 := of_decide_eq_true ho.2
    subst hn0
    obtain ⟨e1, e2, e3, e4⟩ := (nm_iff x).1 ho.1
    have hsp : spell ⟨4, x, 0, p⟩ = ⟨#[39]⟩ ++ x ++ ⟨#[39]⟩ := rfl
    rw [hsp] at h hle hs ⊢
    have hz : ((⟨#[39]⟩ : ByteArray) ++ x ++ ⟨#[39]⟩).size = x.size + 2 := by
      rw [ByteArray.size_append, ByteArray.size_append]
      show 1 + x.size + 1 = _
      omega
    have hl : ((⟨#[39]⟩ : ByteArray) ++ x ++ ⟨#[39]⟩).data.toList = 39 :: (x.data.toList ++ [39]) := by simp
    have g0 : gt ((⟨#[39]⟩ : ByteArray) ++ x ++ ⟨#[39]⟩) 0 = 39 := by rw [byte_at (c := 39) (by rw [hl]; rfl)]; rfl
    have gi : ∀ i, i < x.size → gt ((⟨#[39]⟩ : ByteArray) ++ x ++ ⟨#[39]⟩) (i + 1) = gt x i := fun i hi => by
      have hi2 : i < x.data.toList.length := by rw [sz_list]; exact hi
      have e1 : x.data.toList[i]? = some x.data.toList[i] := List.getElem?_eq_getElem hi2
      rw [byte_at e1, byte_at (c := x.data.toList[i]) (by rw [hl, List.getElem?_cons_succ, List.getElem?_append_left hi2]; exact e1)]
    have gl : gt ((⟨#[39]⟩ : ByteArray) ++ x ++ ⟨#[39]⟩) (x.size + 1) = 39 := by
      rw [byte_at (c := 39) (by rw [hl, List.getElem?_cons_succ, List.getElem?_append_right (by rw [sz_list]; exact Nat.le_refl _), sz_list, Nat.sub_self]; rfl)]
      rfl
    rw [hz] at h hle hs ⊢
    generalize hy : (⟨#[39]⟩ : ByteArray) ++ x ++ ⟨#[39]⟩ = y at h g0 gi gl hz hl ⊢
    have hy1 : S.extract a (a + y.size) = y := by rw [hz]; exact h
    have A0 : gt S a = 39 := by have := at_word hy1 (by omega) (i := 0) (by omega); rw [Nat.add_zero] at this; rw [this, g0]
    have Ai : ∀ i, i < x.size → gt S (a + 1 + i) = gt x i := fun i hi => by
      have := at_word hy1 (by omega) (i := i + 1) (by omega)
      rw [show a + 1 + i = a + (i + 1) by omega, this, gi i hi]
    have Al : gt S (a + 1 + x.size) = 39 := by
      have := at_word hy1 (by omega) (i := x.size + 1) (by omega)
      rw [show a + 1 + x.size = a + (x.size + 1) by omega, this, gl]
    have hr : we S (a + 1) = a + 1 + x.size := by
      refine run_eq (by omega) (by omega) (fun j q1 q2 => ?_) (fun _ => by rw [Al]; rfl)
      obtain ⟨i, rfl⟩ : ∃ i, j = a + 1 + i := ⟨j - (a + 1), by omega⟩
      rw [Ai i (by omega)]
      exact e4 i (by omega)
    have hx : S.extract (a + 1) (a + 1 + x.size) = x := by
      apply ba_ext
      rw [ex_list]
      have h1 : (S.data.toList.take (a + (x.size + 2))).drop a = 39 :: (x.data.toList ++ [39]) := by rw [← ex_list, h, hl]
      have h2 : (S.data.toList.take (a + 1 + x.size)).drop (a + 1) = (((S.data.toList.take (a + (x.size + 2))).drop a).take (1 + x.size)).drop 1 := by
        rw [List.take_drop, List.drop_drop, List.take_take]
        congr 1
        congr 1
        omega
      rw [h2, h1, show 1 + x.size = x.size + 1 by omega, List.take_succ_cons, List.drop_succ_cons, List.drop_zero, List.take_append_of_le_length (by rw [sz_list]; exact Nat.le_refl _), List.take_of_length_le (by rw [sz_list]; exact Nat.le_refl _)]
    refine ⟨by omega, by rw [A0]; rfl, by rw [A0]; decide, ?_⟩
    rw [tokF, A0, if_neg (by decide), if_neg (by decide), if_pos rfl, quoF, hr, Al, if_neg (by decide), hx, if_neg (by rw [ho.1]; decide), show a + 1 + x.size + 1 = a + (x.size + 2) by omega]
  have hsp : spell ⟨k, x, n, p⟩ = x := by unfold spell; simp only [if_neg h3, if_neg h4]
  rw [hsp] at h hle hs ⊢
  have word : isName (strBytes x) = true → n = 0 → (k = 1 ∧ kw x = false ∨ k = 2 ∧ kw x = true) → 0 < x.size ∧ blk (gt S a) = false ∧ gt S a ≠ 35 ∧ tokF S a = ⟨k, x, n, a + x.size, 0⟩ := by
    intro hn hn0 hkk
    subst hn0
    obtain ⟨e1, e2, e3, e4⟩ := (nm_iff x).1 hn
    have hg0 : gt S a = gt x 0 := by have := at_word h hle e1; rwa [Nat.add_zero] at this
    have hr : we S a = a + x.size := run_word inw_stops h hle hs e4
    have hnn := isl_not e3
    refine ⟨e1, by rw [hg0]; exact hnn.1, by rw [hg0]; exact hnn.2, ?_⟩
    rw [tokF, hg0, if_pos e3, wordF, hr, h, show a + x.size - a = x.size by omega, if_neg (by omega)]
    rcases hkk with ⟨rfl, q⟩ | ⟨rfl, q⟩
    · rw [if_neg (by rw [q]; decide)]
    · rw [if_pos q]
  by_cases h1 : k = 1
  · subst h1
    rw [ok1, Bool.and_eq_true, Bool.and_eq_true] at ho
    exact word ho.1.1 (of_decide_eq_true ho.2) (.inl ⟨rfl, by simpa using ho.1.2⟩)
  by_cases h2 : k = 2
  · subst h2
    rw [ok2, Bool.and_eq_true] at ho
    exact word (kw_nm ho.1) (of_decide_eq_true ho.2) (.inr ⟨rfl, ho.1⟩)
  by_cases h5 : k = 5
  · subst h5
    rw [ok5, Bool.and_eq_true] at ho
    have hn0 : n = 0 := of_decide_eq_true ho.2
    subst hn0
    obtain ⟨e1, e2, e3, e4, e5⟩ := sgn_first ho.1
    have hz := sgn_two ho.1
    have hg0 : gt S a = gt x 0 := by have := at_word h hle (i := 0) (by omega); rwa [Nat.add_zero] at this
    refine ⟨by omega, by rw [hg0]; exact e4, by rw [hg0]; exact e5, ?_⟩
    rw [tokF, hg0, if_neg (by rw [e1]; decide), if_neg (by rw [e2]; decide), if_neg e3, sigF]
    rcases hz with hz | hz
    · rw [hz] at h hle hs ⊢
      rw [if_neg, if_pos (by rw [h]; exact ho.1), h]
      rintro ⟨q1, q2⟩
      rcases hs with hs | hs
      · rw [gt_lt (show a + 1 < S.size by omega)] at hs; omega
      · refine sgn_blank q2 1 (by rw [ByteArray.size_extract]; omega) ?_
        rw [ext_gt (by omega) (by omega)]; exact hs
    · rw [hz] at h hle hs ⊢
      rw [if_pos ⟨by omega, by rw [h]; exact ho.1⟩, h]
  · rw [okx h1 h2 h3 h4 h5 hk] at ho; cases ho
/-- A token without its offset. -/
def T4.key (t : T4) : Int × ByteArray × Int := (t.kind, t.text, t.n)
theorem key_end {t : T4} (h : okF t = true) (hk : t.kind = 6) : t.key = (6, ⟨#[]⟩, 0) := by
  obtain ⟨k, x, n, p⟩ := t
  simp only at hk
  subst hk
  rw [ok6, Bool.and_eq_true] at h
  have h1 : x = ⟨#[]⟩ := of_decide_eq_true h.1
  have h2 : n = 0 := of_decide_eq_true h.2
  subst h1 h2
  rfl
def bys (l : List T4) : List (List UInt8) := (words l.dropLast).map (·.data.toList)
theorem bys_more {t : T4} {r : List T4} (h : r ≠ []) : bys (t :: r) = (spell t).data.toList :: bys r := by
  unfold bys words
  rw [List.dropLast_cons_of_ne_nil h]
  rfl
/-- Tokens that stand written from a place on are read from there. -/
theorem read_all {S : ByteArray} : ∀ (l : List T4) (a : Nat), a ≤ S.size → goodB l = true → S.data.toList.drop a = Lib.join (bys l) [32] → (Lx S a).2.1 = 0 ∧ (Lx S a).1.map Tok.key = l.map T4.key := by
  intro l
  induction l with
  | nil => intro a _ h; cases h
  | cons t r ih =>
    intro a ha hg hd
    have hlS := sz_list S
    by_cases hr : r = []
    · subst hr
      rw [good_last, Bool.and_eq_true] at hg
      have e : bys [t] = [] := rfl
      rw [e, Lib.join_nil, List.drop_eq_nil_iff] at hd
      have h1 : sk S a = S.size := by rw [sk_end (by omega)]; omega
      rw [lx_end h1]
      refine ⟨rfl, ?_⟩
      rw [List.map_singleton, List.map_singleton, key_end hg.1 (of_decide_eq_true hg.2)]
      rfl
    · rw [good_more hr, Bool.and_eq_true, Bool.and_eq_true] at hg
      have hk : t.kind ≠ 6 := by have := hg.1.2; simpa using this
      rw [bys_more hr] at hd
      rw [Lib.join_cons] at hd
      have hlen : (spell t).data.toList.length = (spell t).size := sz_list _
      have hle : a + (spell t).size ≤ S.size := by
        have := congrArg List.length hd
        rw [List.length_drop, List.length_append] at this
        omega
      have hx : S.extract a (a + (spell t).size) = spell t := by
        apply ba_ext
        rw [ex_list, List.drop_take, hd, show a + (spell t).size - a = (spell t).size by omega, List.take_append_of_le_length (by omega), List.take_of_length_le (by omega)]
      have hd2 : S.data.toList.drop (a + (spell t).size) = Lib.joinTail [32] (bys r) := by
        rw [← List.drop_drop, hd, List.drop_append_of_le_length (by omega), List.drop_eq_nil_iff.2 (by omega)]
        rfl
      have fin : ∀ b, b ≤ S.size → Lx S (a + (spell t).size) = Lx S b → S.data.toList.drop b = Lib.join (bys r) [32] → (gt S (a + (spell t).size) = -1 ∨ gt S (a + (spell t).size) = 32) → (Lx S a).2.1 = 0 ∧ (Lx S a).1.map Tok.key = (t :: r).map T4.key := by
        intro b hb hL hdb hst
        obtain ⟨r1, r2, r3, r4⟩ := read_tok hg.1.1 hk hx hle hst
        have hsk : sk S a = a := sk_stop r2 r3
        have hnx : nextF S a = ⟨t.kind, t.text, t.n, a + (spell t).size, 0⟩ := by rw [next_tok (by rw [hsk]; omega), hsk]; exact r4
        obtain ⟨i1, i2⟩ := ih b hb hg.2 hdb
        rw [lx_tok ha (by rw [hsk]; omega) (by rw [hnx]), hnx]
        show (pre (tkOf S a) (Lx S (a + (spell t).size))).2.1 = 0 ∧ (pre (tkOf S a) (Lx S (a + (spell t).size))).1.map Tok.key = _
        rw [hL, pre, if_neg (by simp [i1])]
        refine ⟨rfl, ?_⟩
        rw [List.map_cons, List.map_cons, i2]
        congr 1
        simp [Tok.key, T4.key, tkOf, hnx]
      cases hb : bys r with
      | nil =>
        rw [hb] at hd2
        have he : a + (spell t).size = S.size := by
          have : S.data.toList.drop (a + (spell t).size) = [] := hd2
          rw [List.drop_eq_nil_iff] at this
          omega
        exact fin (a + (spell t).size) hle rfl (by rw [hd2, hb]; rfl) (.inl (gt_ge (by omega)))
      | cons y ys =>
        rw [hb] at hd2
        have hj : Lib.joinTail [32] (y :: ys) = 32 :: Lib.join (y :: ys) [32] := by rw [Lib.join_cons]; rfl
        rw [hj] at hd2
        have hlt : a + (spell t).size < S.size := by
          have := congrArg List.length hd2
          rw [List.length_drop, List.length_cons] at this
          omega
        have hg32 : gt S (a + (spell t).size) = 32 := by
          have : S.data.toList[a + (spell t).size]? = some 32 := by
            have h0 := congrArg (·[0]?) hd2
            simpa using h0
          rw [byte_at this]; rfl
        have hd3 : S.data.toList.drop (a + (spell t).size + 1) = Lib.join (bys r) [32] := by
          rw [← List.drop_drop, hd2, hb]
          rfl
        exact fin (a + (spell t).size + 1) (by omega) (lx_sk hle (by omega) (sk_blk hlt (by rw [hg32]; rfl))) hd3 (.inr hg32)
/-- The text of tokens is read as these tokens. -/
theorem read_text {l : List T4} (hg : goodB l = true) : (Lx (joinT l) 0).2.1 = 0 ∧ (Lx (joinT l) 0).1.map Tok.key = l.map T4.key :=
  read_all l 0 (Nat.zero_le _) hg rfl
end Go.Proofs.YtdmjlmlmdllhgaaDoor
