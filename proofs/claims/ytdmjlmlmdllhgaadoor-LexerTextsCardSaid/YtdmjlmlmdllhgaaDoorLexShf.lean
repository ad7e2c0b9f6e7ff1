/- Sources that are shifted against each other: plain mathematics. No condition. -/
import Derived.Test.YtdmjlmlmdllhgaaDoorLexAgr
namespace Go.Proofs.YtdmjlmlmdllhgaaDoor

theorem ba_ext {a b : ByteArray} (h : a.data.toList = b.data.toList) : a = b := ByteArray.ext (Array.ext' h)
theorem ex_list (s : ByteArray) (j k : Nat) : (s.extract j k).data.toList = (s.data.toList.take k).drop j := by
  simp [List.drop_take]
theorem sz_list (s : ByteArray) : s.data.toList.length = s.size := by simp
/-- u has m bytes more than s, and from place p on it has what s has. -/
structure Shf (s u : ByteArray) (p m : Nat) : Prop where
  sz : u.size = s.size + m
  ex : ∀ j k, p ≤ j → u.extract (j + m) (k + m) = s.extract j k
section
variable {s u : ByteArray} {p m : Nat}
theorem Shf.ch (h : Shf s u p m) {i : Nat} (hi : p ≤ i) : gt u (i + m) = gt s i := by
  have hz := h.sz
  by_cases e : i < s.size
  · have h1 : gt (u.extract (i + m) (i + 1 + m)) 0 = gt u (i + m) := gt_extract (s := u) (i := i + m) (j := 0) (k := i + 1 + m) (by omega) (by omega)
    have h2 : gt (s.extract i (i + 1)) 0 = gt s i := gt_extract (s := s) (i := i) (j := 0) (k := i + 1) (by omega) (by omega)
    rw [← h1, ← h2, h.ex i (i + 1) hi]
  · rw [gt_ge e, gt_ge (by omega)]
theorem Shf.run {q : Int → Bool} (h : Shf s u p m) {i : Nat} (hi : p ≤ i) (his : i ≤ s.size) : runF q u (i + m) = runF q s i + m := by
  obtain ⟨h1, h2, h3, h4⟩ := runF_spec (p := q) s _ i rfl
  have hz := h.sz
  have h5 := h3 his
  refine run_eq (by omega) (by omega) (fun j hj hk => ?_) (fun hk => ?_)
  · obtain ⟨j, rfl⟩ : ∃ k, j = k + m := ⟨j - m, by omega⟩
    rw [h.ch (by omega)]
    exact h4 j (by omega) (by omega)
  · rw [h.ch (by omega)]
    exact h1 (by omega)
theorem Shf.sk_two (h : Shf s u p m) : ∀ d i, s.size - i = d → p ≤ i → i ≤ s.size → sk u (i + m) = sk s i + m ∧ skT u (i + m) = skT s i + m := by
  have hz := h.sz
  intro d; induction d with
  | zero =>
    intro i hd hi his
    rw [sk_end (show ¬ i + m < u.size by omega), skT_end (show ¬ i + m < u.size by omega), sk_end (show ¬ i < s.size by omega), skT_end (show ¬ i < s.size by omega)]
    exact ⟨rfl, rfl⟩
  | succ d ih =>
    intro i hd hi his
    have h1 : i < s.size := by omega
    have h2 : i + m < u.size := by omega
    have hg := h.ch hi
    obtain ⟨a, b⟩ := ih (i + 1) (by omega) (by omega) (by omega)
    rw [show i + 1 + m = i + m + 1 by omega] at a b
    have A : sk u (i + m) = sk s i + m := by
      by_cases hb : blk (gt s i) = true
      · rw [sk_blk h1 hb, sk_blk h2 (by rw [hg]; exact hb), a]
      · by_cases hh : gt s i = 35
        · rw [sk_hash0 hh, sk_hash0 (by rw [hg]; exact hh), b]
        · rw [sk_stop (by simpa using hb) hh, sk_stop (by rw [hg]; simpa using hb) (by rw [hg]; exact hh)]
    refine ⟨A, ?_⟩
    by_cases hn : gt s i = 10
    · rw [skT_nl hn, skT_nl (by rw [hg]; exact hn)]; exact A
    · rw [skT_go h1 hn, skT_go h2 (by rw [hg]; exact hn), b]
theorem Shf.sk (h : Shf s u p m) {i : Nat} (hi : p ≤ i) (his : i ≤ s.size) : Go.Proofs.YtdmjlmlmdllhgaaDoor.sk u (i + m) = Go.Proofs.YtdmjlmlmdllhgaaDoor.sk s i + m := (h.sk_two _ i rfl hi his).1
end
/-- A token that is shifted. -/
def GS (m : Nat) (g g' : Got) : Prop := g'.code = g.code ∧ (g.code = 0 → g'.kind = g.kind ∧ g'.text = g.text ∧ g'.n = g.n ∧ g'.stop = g.stop + m)
theorem gs_bad (m : Nat) {c : Int} (h : c ≠ 0) : GS m (bad c) (bad c) := ⟨rfl, fun h2 => absurd h2 h⟩
theorem gs_ok (m : Nat) (k : Int) (t : ByteArray) (n : Int) (e : Nat) : GS m ⟨k, t, n, e, 0⟩ ⟨k, t, n, e + m, 0⟩ := ⟨rfl, fun _ => ⟨rfl, rfl, rfl, rfl⟩⟩
section
variable {s u : ByteArray} {p m : Nat}
theorem Shf.tok (h : Shf s u p m) {j : Nat} (hj : p ≤ j) (hjs : j < s.size) : GS m (tokF s j) (tokF u (j + m)) := by
  have hz := h.sz
  have hg := h.ch hj
  unfold tokF
  rw [hg]
  by_cases h1 : isl (gt s j) = true
  · rw [if_pos h1, if_pos h1]
    have hw : we u (j + m) = we s j + m := h.run hj (by omega)
    unfold wordF
    rw [hw, show we s j + m - (j + m) = we s j - j by omega, h.ex j (we s j) hj]
    split
    · exact gs_bad m (by decide)
    · split <;> exact gs_ok _ _ _ _ _
  · rw [if_neg h1, if_neg h1]
    by_cases h2 : dig (gt s j) = true
    · rw [if_pos h2, if_pos h2]
      have hw : de u (j + m) = de s j + m := h.run hj (by omega)
      unfold intF
      rw [hw, hg, show de s j + m - (j + m) = de s j - j by omega, h.ex j (de s j) hj]
      split
      · exact gs_bad m (by decide)
      · split
        · exact gs_bad m (by decide)
        · exact gs_ok _ _ _ _ _
    · rw [if_neg h2, if_neg h2]
      by_cases h3 : gt s j = 39
      · rw [if_pos h3, if_pos h3]
        have hw : we u (j + m + 1) = we s (j + 1) + m := by rw [show j + m + 1 = j + 1 + m by omega]; exact h.run (by omega) (by omega)
        have hge : j + 1 ≤ we s (j + 1) := run_ge _ _ _
        unfold quoF
        rw [hw, h.ch (by omega), show j + m + 1 = j + 1 + m by omega, h.ex (j + 1) (we s (j + 1)) (by omega)]
        split
        · exact gs_bad m (by decide)
        · split
          · exact gs_bad m (by decide)
          · rw [show we s (j + 1) + m + 1 = we s (j + 1) + 1 + m by omega]
            exact gs_ok _ _ _ _ _
      · rw [if_neg h3, if_neg h3]
        unfold sigF
        rw [show u.size - (j + m) = s.size - j by omega, show j + m + 2 = j + 2 + m by omega, show j + m + 1 = j + 1 + m by omega, h.ex j (j + 2) hj, h.ex j (j + 1) hj]
        split
        · exact gs_ok _ _ _ _ _
        · split
          · exact gs_ok _ _ _ _ _
          · exact gs_bad m (by decide)
theorem Shf.next (h : Shf s u p m) {i : Nat} (hi : p ≤ i) (his : i ≤ s.size) : GS m (nextF s i) (nextF u (i + m)) := by
  have hs := h.sk hi his
  have hz := h.sz
  have h1 := sk_spec s i
  by_cases e : Go.Proofs.YtdmjlmlmdllhgaaDoor.sk s i = s.size
  · rw [next_end e, next_end (by rw [hs]; omega), hz]
    exact gs_ok _ _ _ _ _
  · rw [next_tok e, next_tok (by rw [hs]; omega), hs]
    exact h.tok (by omega) (sk_lt his e)
/-- A token that is shifted, in a list. -/
def shT (m : Nat) (t : Tok) : Tok := ⟨t.kind, t.text, t.n, t.place + m⟩
theorem Shf.lx (h : Shf s u p m) : ∀ d i, s.size - i = d → p ≤ i → i ≤ s.size → (Lx u (i + m)).1 = (Lx s i).1.map (shT m) ∧ (Lx u (i + m)).2.1 = (Lx s i).2.1 ∧ ((Lx s i).2.1 ≠ 0 → (Lx u (i + m)).2.2 = (Lx s i).2.2 + m) := by
  have hz := h.sz
  intro d
  induction d using Nat.strongRecOn with
  | _ d ih =>
    intro i hd hi his
    obtain ⟨g1, g2⟩ := h.next hi his
    have hs := h.sk hi his
    by_cases hc : (nextF s i).code = 0
    · have hc' : (nextF u (i + m)).code = 0 := by rw [g1]; exact hc
      by_cases e : Go.Proofs.YtdmjlmlmdllhgaaDoor.sk s i = s.size
      · rw [lx_end e, lx_end (show Go.Proofs.YtdmjlmlmdllhgaaDoor.sk u (i + m) = u.size by rw [hs]; omega), hz]
        exact ⟨rfl, rfl, fun h => absurd rfl h⟩
      · have h3 := next_stop his e hc
        obtain ⟨k1, k2, k3, k4⟩ := g2 hc
        obtain ⟨a, b, c⟩ := ih (s.size - (nextF s i).stop) (by omega) (nextF s i).stop rfl (by omega) (by omega)
        rw [lx_tok his e hc, lx_tok (by omega) (by rw [hs]; omega) hc', k4]
        unfold pre
        rw [b]
        by_cases h4 : (Lx s (nextF s i).stop).2.1 ≠ 0
        · rw [if_pos h4, if_pos h4]
          exact ⟨rfl, b, fun _ => c h4⟩
        · rw [if_neg h4, if_neg h4]
          refine ⟨?_, rfl, fun h => absurd rfl h⟩
          show tkOf u (i + m) :: (Lx u ((nextF s i).stop + m)).1 = shT m (tkOf s i) :: (Lx s (nextF s i).stop).1.map (shT m)
          rw [a]
          congr 1
          unfold tkOf shT
          rw [k1, k2, k3, hs]
    · rw [lx_bad hc, lx_bad (by rw [g1]; exact hc)]
      exact ⟨rfl, g1, fun _ => hs⟩
/-- What is read depends on where the first token begins. -/
theorem lx_sk {s : ByteArray} {a b : Nat} (ha : a ≤ s.size) (hb : b ≤ s.size) (h : sk s a = sk s b) : Lx s a = Lx s b := by
  have hn : nextF s a = nextF s b := by unfold nextF; rw [h]
  by_cases hc : (nextF s a).code = 0
  · by_cases e : sk s a = s.size
    · rw [lx_end e, lx_end (by rw [← h]; exact e)]
    · rw [lx_tok ha e hc, lx_tok hb (by rw [← h]; exact e) (by rw [← hn]; exact hc), hn]
      unfold tkOf
      rw [hn, h]
  · rw [lx_bad hc, lx_bad (by rw [← hn]; exact hc), hn, h]
theorem lx_place {s : ByteArray} : ∀ d i, s.size - i = d → i ≤ s.size → ∀ t ∈ (Lx s i).1, sk s i ≤ t.place ∧ t.place ≤ s.size := by
  intro d
  induction d using Nat.strongRecOn with
  | _ d ih =>
    intro i hd hi t ht
    have hle := (sk_spec s i).2.1 hi
    by_cases hc : (nextF s i).code = 0
    · by_cases e : sk s i = s.size
      · rw [lx_end e] at ht
        simp only [List.mem_singleton] at ht
        subst ht
        exact ⟨by omega, Nat.le_refl _⟩
      · have h3 := next_stop hi e hc
        rw [lx_tok hi e hc, pre] at ht
        split at ht
        · simp at ht
        · rcases List.mem_cons.1 ht with h4 | h4
          · subst h4; exact ⟨Nat.le_refl _, hle⟩
          · have h5 := ih (s.size - (nextF s i).stop) (by omega) (nextF s i).stop rfl h3.2.2.1 t h4
            have h6 := (sk_spec s (nextF s i).stop).1
            exact ⟨by omega, h5.2⟩
    · rw [lx_bad hc] at ht
      simp at ht
/-- A token without its offset. -/
def Tok.key (t : Tok) : Int × ByteArray × Int := (t.kind, t.text, t.n)
/-- Blanks and comments in front of a token change nothing but offsets. -/
theorem lx_blanks {s u : ByteArray} {p m : Nat} (A : Agr s u p) (H : Shf s u p m) (e1 : Go.Proofs.YtdmjlmlmdllhgaaDoor.sk u p = Go.Proofs.YtdmjlmlmdllhgaaDoor.sk u (p + m)) (e2 : skT u p = Go.Proofs.YtdmjlmlmdllhgaaDoor.sk u (p + m)) : ∀ d a, s.size - a = d → a ≤ p → (Lx s a).2.1 = 0 → (∃ t ∈ (Lx s a).1, t.place = p) → (Lx u a).2.1 = 0 ∧ (Lx s a).1.map Tok.key = (Lx u a).1.map Tok.key := by
  have hz := H.sz
  have hps := A.ls
  intro d
  induction d using Nat.strongRecOn with
  | _ d ih =>
    intro a hd ha h0 hp
    obtain ⟨t, ht, htp⟩ := hp
    have has : a ≤ s.size := by omega
    have hle := (lx_place _ a rfl has t ht).1
    by_cases e : Go.Proofs.YtdmjlmlmdllhgaaDoor.sk s a = p
    · have hs1 : Go.Proofs.YtdmjlmlmdllhgaaDoor.sk s p = p := by rw [← e]; exact sk_idem s a
      have hu : Go.Proofs.YtdmjlmlmdllhgaaDoor.sk u a = Go.Proofs.YtdmjlmlmdllhgaaDoor.sk u (p + m) := by
        rcases A.sk_ge ha (by omega) with h | h
        · rw [h, e1]
        · rw [h, e2]
      rw [lx_sk (by omega) (by omega) hu]
      rw [lx_sk has (by omega) (show Go.Proofs.YtdmjlmlmdllhgaaDoor.sk s a = Go.Proofs.YtdmjlmlmdllhgaaDoor.sk s p by rw [hs1, e])] at h0 ⊢
      obtain ⟨a1, a2, _⟩ := H.lx _ p rfl (Nat.le_refl _) hps
      rw [a1, a2]
      refine ⟨h0, ?_⟩
      rw [List.map_map]
      rfl
    · have hsk : Go.Proofs.YtdmjlmlmdllhgaaDoor.sk s a < p := by omega
      have hne : Go.Proofs.YtdmjlmlmdllhgaaDoor.sk s a ≠ s.size := by omega
      by_cases hc : (nextF s a).code = 0
      · have h3 := next_stop has hne hc
        rw [lx_tok has hne hc] at ht h0 ⊢
        unfold pre at ht h0 ⊢
        by_cases h4 : (Lx s (nextF s a).stop).2.1 ≠ 0
        · rw [if_pos h4] at h0; exact absurd h0 h4
        · rw [if_neg h4] at ht ⊢
          rcases List.mem_cons.1 ht with h5 | h5
          · exfalso
            have : t.place = Go.Proofs.YtdmjlmlmdllhgaaDoor.sk s a := by rw [h5]; rfl
            omega
          · have h6 := (lx_place _ (nextF s a).stop rfl h3.2.2.1 t h5).1
            have h7 := (sk_spec s (nextF s a).stop).1
            obtain ⟨b1, b2⟩ := ih (s.size - (nextF s a).stop) (by omega) (nextF s a).stop rfl (by omega) (by simpa using h4) ⟨t, h5, htp⟩
            obtain ⟨c1, c2⟩ := A.next ha hsk hc (by omega)
            rw [lx_tok (by omega) (by rw [c1]; omega) (by rw [c2]; exact hc), c2]
            unfold pre
            rw [if_neg (by simp [b1])]
            refine ⟨rfl, ?_⟩
            rw [List.map_cons, List.map_cons, b2]
            congr 1
            simp [Tok.key, tkOf, c2]
      · rw [lx_bad hc] at h0; exact absurd h0 hc
end
/-- A source with something laid into it. -/
theorem agr_shf {s u mid : ByteArray} {p : Nat} (hp : p ≤ s.size) (hu : u.data.toList = s.data.toList.take p ++ mid.data.toList ++ s.data.toList.drop p) (hm : gt u p = 32) : Agr s u p ∧ Shf s u p mid.size := by
  have ls := sz_list s
  have lm := sz_list mid
  have lu := sz_list u
  have hz : u.size = s.size + mid.size := by
    rw [← lu, hu]; simp only [List.length_append, List.length_take, List.length_drop]; omega
  refine ⟨⟨hp, by omega, fun j k hk => ba_ext ?_, .inr hm⟩, ⟨hz, fun j k hj => ba_ext ?_⟩⟩
  · rw [ex_list, ex_list, hu, List.append_assoc, List.take_append_of_le_length (by rw [List.length_take]; omega), List.take_take]
    congr 2
    omega
  · rw [ex_list, ex_list, hu]
    have hl : (s.data.toList.take p ++ mid.data.toList).length = p + mid.size := by rw [List.length_append, List.length_take]; omega
    apply List.ext_getElem?
    intro i
    rw [List.getElem?_drop, List.getElem?_drop, List.getElem?_take, List.getElem?_take]
    by_cases hk : j + i < k
    · rw [if_pos (by omega), if_pos hk, List.getElem?_append_right (by omega), hl, List.getElem?_drop]
      congr 1
      omega
    · rw [if_neg (by omega), if_neg hk]
end Go.Proofs.YtdmjlmlmdllhgaaDoor
