/- The law that what is read, written and read again is the same. Bounds on sizes alone. -/
import Derived.Test.YtdmjlmlmdllhgaaDoorLexLw2
import Derived.Test.YtdmjlmlmdllhgaaDoorLexRdb
namespace Go.Proofs.YtdmjlmlmdllhgaaDoor
open Go.RowKit

theorem sm_zero (k p : Int) {x : ByteArray} (h : x.size ≤ 1000000) : Sm ⟨k, x, 0, p⟩ := ⟨h, (by decide : (-9223372036854775808 : Int) ≤ 0), (by decide : (0 : Int) ≤ 9223372036854775807)⟩
theorem sm_ok {t : T4} (h : okF t = true) : Sm t := by
  obtain ⟨k, x, n, p⟩ := t
  have z : ∀ {b : Bool}, (b && decide (n = 0)) = true → n = 0 := fun h => of_decide_eq_true (Bool.and_eq_true_iff.1 h).2
  by_cases h3 : k = 3
  · subst h3; rw [ok3] at h
    obtain ⟨q1, q2, q3⟩ := of_decide_eq_true h
    subst q1
    exact ⟨(by decide : (⟨#[]⟩ : ByteArray).size ≤ 1000000), by show _ ≤ n; omega, by show n ≤ _; omega⟩
  by_cases h1 : k = 1
  · subst h1; rw [ok1] at h
    have hn := z h; subst hn
    rw [Bool.and_eq_true, Bool.and_eq_true] at h
    have := ((nm_iff x).1 h.1.1).2.1
    exact sm_zero _ _ (by omega)
  by_cases h2 : k = 2
  · subst h2; rw [ok2] at h
    have hn := z h; subst hn
    rw [Bool.and_eq_true] at h
    have := ((nm_iff x).1 (kw_nm h.1)).2.1
    exact sm_zero _ _ (by omega)
  by_cases h4 : k = 4
  · subst h4; rw [ok4] at h
    have hn := z h; subst hn
    rw [Bool.and_eq_true] at h
    have := ((nm_iff x).1 h.1).2.1
    exact sm_zero _ _ (by omega)
  by_cases h5 : k = 5
  · subst h5; rw [ok5] at h
    have hn := z h; subst hn
    rw [Bool.and_eq_true] at h
    have := sgn_two h.1
    exact sm_zero _ _ (by omega)
  by_cases h6 : k = 6
  · subst h6; rw [ok6] at h
    have hn := z h; subst hn
    rw [Bool.and_eq_true] at h
    have hx : x = ⟨#[]⟩ := of_decide_eq_true h.1
    subst hx
    exact sm_zero _ _ (by decide)
  rw [okx h1 h2 h3 h4 h5 h6] at h; cases h
theorem good_all : ∀ {l : List T4}, goodB l = true → ∀ t ∈ l, okF t = true := by
  intro l
  induction l with
  | nil => intro h; cases h
  | cons x r ih =>
    intro h t ht
    by_cases hr : r = []
    · subst hr
      rw [good_last, Bool.and_eq_true] at h
      simp only [List.mem_singleton] at ht
      subst ht
      exact h.1
    · rw [good_more hr, Bool.and_eq_true, Bool.and_eq_true] at h
      rcases List.mem_cons.1 ht with q | q
      · subst q; exact h.1.1
      · exact ih h.2 t q
theorem tail_len (l : List (List UInt8)) : (Lib.joinTail [32] l).length ≤ (Lib.join l [32]).length + 1 := by
  cases l with
  | nil => exact Nat.zero_le _
  | cons y ys =>
    have hj : Lib.joinTail [32] (y :: ys) = 32 :: Lib.join (y :: ys) [32] := by rw [Lib.join_cons]; rfl
    rw [hj, List.length_cons]
    exact Nat.le_refl _
/-- What is read from a place on can be written, and shortly. -/
theorem lx_good {s : ByteArray} : ∀ d a, s.size - a = d → a ≤ s.size → (Lx s a).2.1 = 0 → goodB ((Lx s a).1.map Tok.t4) = true ∧ (Lib.join (bys ((Lx s a).1.map Tok.t4)) [32]).length ≤ 2 * (s.size - a) := by
  intro d
  induction d using Nat.strongRecOn with
  | _ d ih =>
    intro a hd ha h0
    by_cases hc : (nextF s a).code = 0
    · by_cases e : sk s a = s.size
      · rw [lx_end e]
        refine ⟨?_, Nat.zero_le _⟩
        rw [List.map_singleton, good_last]
        show (okF ⟨6, ⟨#[]⟩, 0, ((s.size : Nat) : Int)⟩ && decide ((6 : Int) = 6)) = true
        rw [ok6]
        rfl
      · have h3 := next_stop ha e hc
        rw [lx_tok ha e hc, pre] at h0 ⊢
        by_cases h4 : (Lx s (nextF s a).stop).2.1 ≠ 0
        · rw [if_pos h4] at h0; exact absurd h0 h4
        · rw [if_neg h4]
          have h5 : (Lx s (nextF s a).stop).2.1 = 0 := Decidable.not_not.1 h4
          obtain ⟨i1, i2⟩ := ih (s.size - (nextF s a).stop) (by omega) (nextF s a).stop rfl (by omega) h5
          have hr : (Lx s (nextF s a).stop).1.map Tok.t4 ≠ [] := by
            have := ((lx_ok s _ (nextF s a).stop rfl (by omega)).2.2 h5).1
            simpa using this
          have hsl := sk_lt ha e
          have hs := tok_spell hsl (by rw [← next_tok e]; exact hc) ((sk s a : Nat) : Int)
          rw [← next_tok e] at hs
          show goodB ((tkOf s a).t4 :: (Lx s (nextF s a).stop).1.map Tok.t4) = true ∧ (Lib.join (bys ((tkOf s a).t4 :: (Lx s (nextF s a).stop).1.map Tok.t4)) [32]).length ≤ _
          rw [good_more hr, bys_more hr, Lib.join_cons]
          have h6 := (sk_spec s a).1
          have h7 : (spell (tkOf s a).t4).data.toList.length = (nextF s a).stop - sk s a := by
            rw [sz_list, show spell (tkOf s a).t4 = s.extract (sk s a) (nextF s a).stop from hs.2, ByteArray.size_extract]
            omega
          have h8 := tail_len (bys ((Lx s (nextF s a).stop).1.map Tok.t4))
          refine ⟨?_, by rw [List.length_append, h7]; omega⟩
          have k1 : okF (tkOf s a).t4 = true := hs.1
          have k2 : decide ((tkOf s a).t4.kind = 6) = false := decide_eq_false (by show (nextF s a).kind ≠ 6; omega)
          rw [k1, k2, i1]
          rfl
    · rw [lx_bad hc] at h0
      exact absurd h0 hc
theorem map_key (l : List Tok) : (l.map Tok.t4).map T4.key = l.map Tok.key := by rw [List.map_map]; rfl
theorem key_ok {a b : T4} (h : a.key = b.key) : okF a = okF b ∧ spell a = spell b ∧ a.kind = b.kind := by
  obtain ⟨k, x, n, p⟩ := a
  obtain ⟨k2, x2, n2, p2⟩ := b
  simp only [T4.key, Prod.mk.injEq] at h
  obtain ⟨rfl, rfl, rfl⟩ := h
  exact ⟨rfl, rfl, rfl⟩
theorem keys_eq : ∀ {l m : List T4}, l.map T4.key = m.map T4.key → goodB l = goodB m ∧ bys l = bys m := by
  intro l
  induction l with
  | nil =>
    intro m h
    cases m with
    | nil => exact ⟨rfl, rfl⟩
    | cons y q => cases h
  | cons x r ih =>
    intro m h
    cases m with
    | nil => cases h
    | cons y q =>
      simp only [List.map_cons, List.cons.injEq] at h
      obtain ⟨k1, k2, k3⟩ := key_ok h.1
      obtain ⟨i1, i2⟩ := ih h.2
      by_cases hr : r = []
      · subst hr
        have hq : q = [] := by simpa using h.2.symm
        subst hq
        exact ⟨by rw [good_last, good_last, k1, k3], rfl⟩
      · have hq : q ≠ [] := fun e => by subst e; exact hr (by simpa using h.2)
        rw [good_more hr, good_more hq, bys_more hr, bys_more hq, k1, k2, k3, i1, i2]
        exact ⟨rfl, rfl⟩
theorem join_eq {l m : List T4} (h : bys l = bys m) : joinT l = joinT m := by
  show (⟨(Lib.join (bys l) [32]).toArray⟩ : ByteArray) = ⟨(Lib.join (bys m) [32]).toArray⟩
  rw [h]
theorem keys_txF {l m : List T4} (h : l.map T4.key = m.map T4.key) : txF l = txF m := by
  obtain ⟨h1, h2⟩ := keys_eq h
  unfold txF
  rw [h1, join_eq h2]
theorem keys_eqs {l m : List T4} (h : l.map T4.key = m.map T4.key) : Eqs false l m := by
  refine ⟨by simpa using congrArg List.length h, fun i a b ha hb => ?_⟩
  have h1 := congrArg (·[i]?) h
  simp only [List.getElem?_map, ha, hb, Option.map_some, Option.some.injEq] at h1
  simp only [T4.key, Prod.mk.injEq] at h1
  exact ⟨h1.1, h1.2.1, h1.2.2, fun h => by cases h⟩
theorem join_size (l : List T4) : (joinT l).size = (Lib.join (bys l) [32]).length := by
  rw [← sz_list]; rfl
set_option maxRecDepth 100000 in
set_option maxHeartbeats 3200000 in
theorem again_law (s : ByteArray) (w : World) (hG : Glob w) : Calls Tryd.prog 8 #[.string s] w fun e w' => e = .returned (.bool true) ∧ Below w.heap.size w w' := by
  have AW := hid_of (awake_any w hG)
  by_cases hs : 2000 < s.size
  · have d1 : decide ((s.size : Int) > 2000) = true := decide_eq_true (by omega)
    clear hs
    go_enter Tryd.func8, Tryd.ntmps8
    go_wp2_with (go_at_call 14; ((with_reducible refine (AW.out).mono ?_); (rintro e w1 ⟨rfl, h1⟩; have B1 := hid_of h1; clear h1)))
    go_ret
    exact ⟨rfl, B1.out⟩
  · have d1 : decide ((s.size : Int) > 2000) = false := decide_eq_false (by omega)
    have hsz : s.size ≤ 2000 := by omega
    obtain ⟨R, hR⟩ : ∃ R, R = Lx s 0 := ⟨_, rfl⟩
    have hok := lx_ok s _ 0 rfl (Nat.zero_le _)
    have hgd := lx_good (s := s) _ 0 rfl (Nat.zero_le _)
    rw [← hR] at hok hgd
    obtain ⟨c, hc⟩ : ∃ c, c = R.2.1 := ⟨_, rfl⟩
    by_cases h0 : R.2.1 = 0
    · obtain ⟨l, hl⟩ : ∃ l, l = R.1.map Tok.t4 := ⟨_, rfl⟩
      obtain ⟨n, hn⟩ : ∃ n, n = R.1.length := ⟨_, rfl⟩
      have LX : Hid (∀ w1, Below w.heap.size w w1 → Calls Tryd.prog 21 #[.string s] w1 (L4 l n 0 0 w1)) := hid_of (fun w1 h => (lex_any s w1 (by omega) (hG.at h)).mono fun e w' h2 => by rw [hl, hn]; exact l4_of R (fun h => (hok.2.1 h).1) h0.symm (if_pos h0).symm w1 e w' (by rw [hR]; exact h2))
      obtain ⟨g1, g2⟩ := hgd h0
      have hn2 := (hok.2.2 h0).2
      rw [← hl] at g1 g2
      have hll : l.length = n := by rw [hl, hn]; simp
      obtain ⟨S, hS⟩ : ∃ S, S = joinT l := ⟨_, rfl⟩
      have hSs : S.size ≤ 4000 := by rw [hS, join_size]; omega
      have hx : txF l = (S, 0) := by rw [hS]; exact txF_ok g1 (by rw [← hS]; omega)
      obtain ⟨r1, r2⟩ := read_text g1
      rw [← hS] at r1 r2
      obtain ⟨Q, hQ⟩ : ∃ Q, Q = Lx S 0 := ⟨_, rfl⟩
      have hokQ := lx_ok S _ 0 rfl (Nat.zero_le _)
      rw [← hQ] at r1 r2 hokQ
      obtain ⟨m, hm⟩ : ∃ m, m = Q.1.map Tok.t4 := ⟨_, rfl⟩
      have hkey : m.map T4.key = l.map T4.key := by rw [hm, map_key]; exact r2
      have gm : goodB m = true := (keys_eq hkey).1.trans g1
      have hml : m.length = n := by rw [← hll]; simpa using congrArg List.length hkey
      have LY : Hid (∀ w1, Below w.heap.size w w1 → Calls Tryd.prog 21 #[.string S] w1 (L4 m n 0 0 w1)) := hid_of (fun w1 h => (lex_any S w1 (by omega) (hG.at h)).mono fun e w' h2 => by rw [← hml, hm]; have := l4_of Q (fun h => (hokQ.2.1 h).1) r1.symm (if_pos r1).symm w1 e w' (by rw [hQ]; exact h2); rw [List.length_map]; exact this)
      have hj : ∀ k : List T4, bys k = bys l → (Lib.join ((words k.dropLast).map (·.data.toList)) [32]).length ≤ 140737488355328 := fun k h => by
        show (Lib.join (bys k) [32]).length ≤ _
        rw [h]; omega
      have T1 : Hid (∀ ao xc w1, Below w.heap.size w w1 → QRd w1 (.slice ao n xc) (qs4 l) → Calls Tryd.prog 24 #[.slice ao n xc] w1 fun e w2 => e = .returned (.tuple #[.string S, .int .i64 0]) ∧ Below w1.heap.size w1 w2) := hid_of (fun ao xc w1 h h2 => (text_any l ao n xc w1 h2 (fun t ht => sm_ok (good_all g1 t ht)) (hG.at h) (by omega) (hj l rfl)).mono fun e w2 h3 => by unfold TxP at h3; rw [hx] at h3; exact h3)
      have T2 : Hid (∀ ao xc w1, Below w.heap.size w w1 → QRd w1 (.slice ao n xc) (qs4 m) → Calls Tryd.prog 24 #[.slice ao n xc] w1 fun e w2 => e = .returned (.tuple #[.string S, .int .i64 0]) ∧ Below w1.heap.size w1 w2) := hid_of (fun ao xc w1 h h2 => (text_any m ao n xc w1 h2 (fun t ht => sm_ok (good_all gm t ht)) (hG.at h) (by omega) (hj m (keys_eq hkey).2)).mono fun e w2 h3 => by unfold TxP at h3; rw [keys_txF hkey, hx] at h3; exact h3)
      have SM : Hid (∀ ao bo xc yc w1, QRd w1 (.slice ao n xc) (qs4 l) → QRd w1 (.slice bo n yc) (qs4 m) → Calls Tryd.prog 23 #[.slice ao n xc, .slice bo n yc, .bool false] w1 (BlP true w1)) := hid_of (fun ao bo xc yc w1 h1 h2 => qsame_any false l m ao bo n n xc yc w1 h1 h2 (keys_eqs hkey.symm))
      clear hs hsz hG hn hc hR hok h0 hgd g1 g2 hn2 hl hll hS hSs hx r1 r2 hQ hokQ hm hkey gm hml hj
      go_enter Tryd.func8, Tryd.ntmps8
      go_wp2_with (first
        | (go_at_call 14; ((with_reducible refine (AW.out).mono ?_); (rintro e w1 ⟨rfl, h1⟩; have B1 := hid_of h1; clear h1)))
        | (go_at_call 21; (first
          | ((with_reducible refine (LY.out _ B3.out).mono ?_); (rintro e w4 ⟨yo, yc, rfl, h1, h2⟩; have B4 := hid_of (step_al (step_b B3.out h1) (.cells #[.int .i64 0, .int .i64 0] 28)); have X4 := hid_of ((X3.out.at h1).at (bel_alloc w4 (.cells #[.int .i64 0, .int .i64 0] 28))); have Y4 := hid_of (h2.at (bel_alloc w4 (.cells #[.int .i64 0, .int .i64 0] 28))); clear h1 h2))
          | ((with_reducible refine (LX.out _ B1.out).mono ?_); (rintro e w2 ⟨xo, xc, rfl, h1, h2⟩; have B2 := hid_of (step_al (step_b B1.out h1) (.cells #[.int .i64 0, .int .i64 0] 28)); have X2 := hid_of (h2.at (bel_alloc w2 (.cells #[.int .i64 0, .int .i64 0] 28))); clear h1 h2))))
        | (go_at_call 24; (first
          | ((with_reducible refine (T2.out _ _ _ B4.out Y4.out).mono ?_); (rintro e w5 ⟨rfl, h1⟩; have B5 := hid_of (step_b B4.out h1); have SMX := hid_of (SM.out _ _ _ _ _ (X4.out.at h1) (Y4.out.at h1)); obtain ⟨u0, u1, _⟩ := row2 ((h1.block w4.heap.size (by simp)).trans (heap_alloc_new _ _)); clear h1))
          | ((with_reducible refine (T1.out _ _ _ B2.out X2.out).mono ?_); (rintro e w3 ⟨rfl, h1⟩; have B3 := hid_of (step_b B2.out h1); have X3 := hid_of (X2.out.at h1); clear h1))))
        | (go_at_call 23; ((with_reducible refine (SMX.out).mono ?_); (rintro e w6 ⟨rfl, h1⟩; have B6 := hid_of (step_b B5.out h1); clear h1))))
      go_ret
      exact ⟨rfl, B6.out⟩
    · obtain ⟨p, hp⟩ : ∃ p, p = R.2.2 := ⟨_, rfl⟩
      have LX : Hid (∀ w1, Below w.heap.size w w1 → Calls Tryd.prog 21 #[.string s] w1 (L4 (R.1.map Tok.t4) R.1.length c p w1)) := hid_of (fun w1 h => (lex_any s w1 (by omega) (hG.at h)).mono fun e w' h2 => l4_of R (fun h => (hok.2.1 h).1) hc (by rw [if_neg h0, hp]) w1 e w' (by rw [hR]; exact h2))
      have dc : (c != 0) = true := by rw [hc]; simpa using h0
      clear hs hsz hG hc hR hok h0 hgd hp
      go_enter Tryd.func8, Tryd.ntmps8
      go_wp2_with (first
        | (go_at_call 14; ((with_reducible refine (AW.out).mono ?_); (rintro e w1 ⟨rfl, h1⟩; have B1 := hid_of h1; clear h1)))
        | (go_at_call 21; ((with_reducible refine (LX.out _ B1.out).mono ?_); (rintro e w2 ⟨xo, xc, rfl, h1, h2⟩; have B2 := hid_of (step_al (step_b B1.out h1) (.cells #[.int .i64 c, .int .i64 p] 28)); clear h1 h2))))
      go_ret
      exact ⟨rfl, B2.out⟩
end Go.Proofs.YtdmjlmlmdllhgaaDoor
