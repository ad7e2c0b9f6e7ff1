/- Texts in one: LatQg, LatOpn, LatLwD. -/
import Derived.Test.YtcjnmgokddfidaaMgDH
import Derived.SliceStrings
import Derived.Deep.Strs
import Derived.ProofKit
import Derived.SizedLaws
import Derived.Test.YtcjnmgokddfidaaRows
import Derived.Deep.RegionLaw
set_option linter.unusedVariables false
set_option linter.unusedSimpArgs false
/- Where what is read has no error the program and the reference read the same. Plain mathematics. -/
namespace Go.Proofs.Ytcjnmgokddfidaa
open Go.RowKit

theorem oN_1 {f : Option Nat → Lat × Option Nat} {s0 : Option Nat} (h : s0 ≠ none) : oN f s0 1 = ([(f s0).1], (f s0).2) := by
  rw [oN, oN, if_neg h]
  rfl
theorem oN_2 {f : Option Nat → Lat × Option Nat} {s0 : Option Nat} (h : s0 ≠ none) (h2 : (f s0).2 ≠ none) : oN f s0 2 = ([(f s0).1, (f (f s0).2).1], (f (f s0).2).2) := by
  rw [oN, oN_1 h, if_neg h2]
  rfl
theorem ne_some {s : Option Nat} {o : Nat} (h : s = some o) : s ≠ none := by rw [h]; simp
section
variable {d : List Int}
theorem rdF_live {n : Nat} {s : Option Nat} {o : Nat} (h : (rdF d n s).2 = some o) : ∃ o', s = some o' := by
  cases s with
  | none => rw [rdF_none] at h; cases h
  | some x => exact ⟨x, rfl⟩
theorem rrF_live {n : Nat} {s : Option Nat} {o : Nat} (h : (rrF d n s).2 = some o) : ∃ o', s = some o' := by
  cases s with
  | none => rw [rrF_none] at h; cases h
  | some x => exact ⟨x, rfl⟩
theorem pcF_eq {s : Option Nat} (h : (Wr.cR d s).1 ≤ 8) : pcF d s = Wr.cR d s := by
  rw [pcF, if_neg (by omega)]
theorem rcF_eq {m : Nat} {s : Option Nat} (h : (Wr.cR d s).1 ≤ m) : rcF d m s = Wr.cR d s := by
  rw [rcF, if_neg (by omega)]
theorem rd_rr : ∀ (n : Nat) (s : Option Nat) (o : Nat), (rdF d n s).2 = some o → Okay (rdF d n s).1 → rrF d n s = rdF d n s
  | 0, s, o, h, _ => by rw [rdF] at h; cases h
  | n + 1, s, o, h, ho => by
    have IH := rd_rr n
    obtain ⟨k, s1, hu⟩ : ∃ k s1, Wr.uR d s = (k, s1) := ⟨_, _, rfl⟩
    have hk : k ≤ 10 := by
      rcases Nat.lt_or_ge 10 k with e | e
      · rw [rdF, if_pos (by rw [hu]; exact e)] at h
        cases h
      · exact e
    have hc : k = 0 ∨ k = 1 ∨ k = 2 ∨ k = 3 ∨ k = 4 ∨ k = 5 ∨ k = 6 ∨ k = 7 ∨ k = 8 ∨ k = 9 ∨ k = 10 := by omega
    rcases hc with rfl | rfl | rfl | rfl | rfl | rfl | rfl | rfl | rfl | rfl | rfl
    · rw [rdF_0 hu] at ho
      have := ho.node.kk
      simp only [Lat.k] at this
      omega
    · rw [rdF_1 hu] at h ⊢
      rw [rrF_1 hu (ne_some h)]
    · rw [rdF_2 hu] at h ⊢
      obtain ⟨o1, h1⟩ := iR_live h
      obtain ⟨o2, h2⟩ := iR_live h1
      rw [rrF_2 hu (ne_some h2)]
    · rw [rdF_3 hu] at h ⊢
      obtain ⟨o1, h1⟩ := iR_live h
      obtain ⟨o2, h2⟩ := iR_live h1
      rw [rrF_3 hu (ne_some h2)]
    · rw [rdF_4 hu] at h ⊢
      obtain ⟨o1, h1⟩ := nF_live h
      rw [rrF_4 hu (ne_some h1), nF_rlF h]
    · rw [rdF_5 hu] at h ho ⊢
      obtain ⟨o1, h1⟩ := rdF_live h
      obtain ⟨o2, h2⟩ := nF_live h1
      have e := IH _ o h (ho.part _ (by simp [Lat.ps]))
      rw [rrF_5 hu (ne_some h2), nF_rlF h1, oN_1 (ne_some h1), e]
    · rw [rdF_6 hu] at h ho ⊢
      obtain ⟨o1, h1⟩ := pN_live (rdF_none n) _ h
      obtain ⟨e1, e2⟩ := rcF_live h1
      obtain ⟨o2, h2⟩ := cR_live (by rw [← e1]; exact h1)
      have e := pq_eq (f' := rrF d n) (rdF_none n) IH _ h (fun p hp => ho.part p hp)
      rw [rrF_6 hu (ne_some h2), pcF_eq e2, ← e1, e]
    · rw [rdF_7 hu] at h ho ⊢
      obtain ⟨o1, h1⟩ := rdF_live h
      obtain ⟨o2, h2⟩ := rdF_live h1
      have e := IH _ _ h1 (ho.part _ (by simp [Lat.ps]))
      have e2 := IH _ _ h (ho.part _ (by simp [Lat.ps]))
      rw [rrF_7 hu (ne_some h2), oN_2 (ne_some h2) (by rw [e]; exact ne_some h1), e, e2]
    · rw [rdF_8 hu] at h ⊢
      obtain ⟨o1, h1⟩ := nF_live h
      rw [rrF_8 hu (ne_some h1), nF_rlF h]
    · rw [rdF_9 hu] at h ⊢
      rw [rrF_9 hu (ne_some h)]
    · rw [rdF_10 hu] at h ho ⊢
      obtain ⟨o1, h1⟩ := gN_live _ h
      obtain ⟨e1, e2⟩ := rcF_live h1
      obtain ⟨o2, h2⟩ := cR_live (by rw [← e1]; exact h1)
      obtain ⟨o3, h3⟩ := nF_live h2
      rw [rrF_10 hu (ne_some h3), nF_rlF h2, ← e1, gh_eq _ h]
theorem oN_live {f : Option Nat → Lat × Option Nat} {s0 : Option Nat} : ∀ (j : Nat) {o : Nat}, (oN f s0 j).2 = some o → ∃ o', s0 = some o'
  | 0, o, h => ⟨o, h⟩
  | j + 1, o, h => by
    by_cases e : (oN f s0 j).2 = none
    · rw [oN, if_pos e] at h
      exact oN_live j h
    · obtain ⟨o2, h2⟩ : ∃ o2, (oN f s0 j).2 = some o2 := Option.ne_none_iff_exists'.1 e
      exact oN_live j h2
theorem rr_rd : ∀ (n : Nat) (s : Option Nat) (o : Nat), (rrF d n s).2 = some o → Okay (rrF d n s).1 → rdF d n s = rrF d n s
  | 0, s, o, h, _ => by rw [rrF] at h; cases h
  | n + 1, s, o, h, ho => by
    have IH := rr_rd n
    obtain ⟨k, s1, hu⟩ : ∃ k s1, Wr.uR d s = (k, s1) := ⟨_, _, rfl⟩
    have hk : ¬ (s1 = none ∨ k < 1 ∨ 10 < k) := fun e => by
      rw [rrF, if_pos (by rw [hu]; exact e)] at h
      cases h
    have hs : s1 ≠ none := fun e => hk (.inl e)
    have hc : k = 1 ∨ k = 2 ∨ k = 3 ∨ k = 4 ∨ k = 5 ∨ k = 6 ∨ k = 7 ∨ k = 8 ∨ k = 9 ∨ k = 10 := by omega
    rcases hc with rfl | rfl | rfl | rfl | rfl | rfl | rfl | rfl | rfl | rfl
    · rw [rrF_1 hu hs, rdF_1 hu]
    · rw [rrF_2 hu hs, rdF_2 hu]
    · rw [rrF_3 hu hs, rdF_3 hu]
    · rw [rrF_4 hu hs] at h ho ⊢
      rw [rdF_4 hu, rlF_nF h ho.node.nl]
    · rw [rrF_5 hu hs] at h ho ⊢
      obtain ⟨o1, h1⟩ := oN_live _ h
      rw [oN_1 (ne_some h1)] at h ho ⊢
      have e := IH _ o h (ho.part _ (by simp [Lat.ps]))
      rw [rdF_5 hu, rlF_nF h1 ho.node.nl, e]
    · rw [rrF_6 hu hs] at h ho ⊢
      obtain ⟨o1, h1⟩ := qN_live _ h
      have h8 : (Wr.cR d s1).1 ≤ 8 := by
        rcases Nat.lt_or_ge 8 (Wr.cR d s1).1 with e | e
        · rw [pcF, if_pos e] at h1
          cases h1
        · exact e
      have e := qp_eq (f := rdF d n) IH _ h (fun p hp => ho.part p hp)
      rw [rdF_6 hu, rcF_eq h8, ← pcF_eq h8, e]
    · rw [rrF_7 hu hs] at h ho ⊢
      have h2 : (rrF d n s1).2 ≠ none := fun e => by
        rw [oN, oN_1 hs, if_pos e] at h
        rw [e] at h
        cases h
      rw [oN_2 hs h2] at h ho ⊢
      obtain ⟨o1, h1⟩ := rrF_live h
      have e := IH _ _ h1 (ho.part _ (by simp [Lat.ps]))
      have e2 := IH _ _ h (ho.part _ (by simp [Lat.ps]))
      rw [rdF_7 hu, e, e2]
    · rw [rrF_8 hu hs] at h ho ⊢
      rw [rdF_8 hu, rlF_nF h ho.node.nl]
    · rw [rrF_9 hu hs, rdF_9 hu]
    · rw [rrF_10 hu hs] at h ho ⊢
      obtain ⟨o1, h1⟩ := hN_live _ h
      obtain ⟨o2, h2⟩ := cR_live h1
      have hl := hN_len _ h
      have h32 := ho.node.rl
      simp only [Lat.rs] at h32
      have e := hg_eq _ h (fun r hr => (ho.node.ru r hr).1.1)
      rw [rdF_10 hu, rlF_nF h2 ho.node.nl, rcF_eq (by omega), e]
end
end Go.Proofs.Ytcjnmgokddfidaa

/- Descriptions that came in, opened. What a row may take is asked of the form's own reach. -/
namespace Go.Proofs.Ytcjnmgokddfidaa
open Go.RowKit Go.ChangeShapes Go.WideShapes

theorem wf_r64 {n : Int} (h : (Lit.int .i64 n).wf = true) : R64 n := by
  have h1 : IntKind.i64.min = -9223372036854775808 := by rfl
  have h2 : IntKind.i64.max = 9223372036854775807 := by rfl
  have : (decide (IntKind.i64.min ≤ n) && decide (n ≤ IntKind.i64.max)) = true := h
  rw [h1, h2] at this
  simpa using this
section
variable {H : Type} {enc : TypeId × Value → H} {P : Program} {w : World} {base : Nat} {spare : TypeId → Bool} {held : Bool}
/-- Every weight is within the form's reach. -/
def Fits (P : Program) (t : TypeId) (d : DataW H) : Prop := ∀ n ∈ d.weights P t, n ≤ reachBytes
theorem fits_each : ∀ {ts : List TypeId} {ds : List (DataW H)}, (∀ n ∈ DataW.weightsEach P ts ds, n ≤ reachBytes) → ∀ (i : Nat) (t : TypeId) (d : DataW H), ts[i]? = some t → ds[i]? = some d → Fits P t d :=
  fun h _ _ _ ht hd n hn => h n (DataW.weights_mem_each ht hd n hn)
theorem fits_all : ∀ {e : TypeId} {ds : List (DataW H)}, (∀ n ∈ DataW.weightsAll P e ds, n ≤ reachBytes) → ∀ d ∈ ds, Fits P e d
  | _, [], _, d, hd => by cases hd
  | e, x :: r, h, d, hd => by
    simp only [DataW.weightsAll, List.mem_append] at h
    rcases List.mem_cons.1 hd with rfl | hd
    · exact fun n hn => h n (.inl hn)
    · exact fits_all (fun n hn => h n (.inr hn)) d hd
end
theorem Try.cellsLat : Try.prog.cellsOf 26 = 6 := by kernel_rfl
theorem Try.cellsRule : Try.prog.cellsOf 58 = 2 := by kernel_rfl
theorem Try.cellsStrs : Try.prog.cellsOf 22 = 1 := by kernel_rfl
theorem Try.cellsLats : Try.prog.cellsOf 23 = 1 := by kernel_rfl
theorem Try.cellsRules : Try.prog.cellsOf 24 = 1 := by kernel_rfl
theorem Try.cellsStr : Try.prog.cellsOf 9 = 1 := by kernel_rfl
theorem Try.cellsInt : Try.prog.cellsOf 3 = 1 := by kernel_rfl
theorem Try.cellsI64 : Try.prog.cellsOf 2 = 1 := by kernel_rfl
theorem Try.bytesStr : Try.prog.bytesOf 9 = 16 := by kernel_rfl
theorem plain_add (a o j : Nat) : (⟨a, o, none⟩ : Addr).add j = ⟨a, o + j, none⟩ := by unfold Addr.add; split <;> simp_all
/-- A slice that came in: nil, or a row of elements, each read with less fuel. -/
theorem open_row {H : Type} {enc : TypeId × Value → H} {w : World} {fuel : Nat} {S e : TypeId} {v : Value} {y : DataW H × List MemPlace} (ht : Try.prog.underlying S = some (.slice e)) (h : DataW.trod enc Try.prog w 0 (fun _ => true) true fuel S [v] = some y) :
    (v = .slice none 0 0 ∧ y.1 = .nil) ∨ ∃ (ad : Addr) (len cap n : Nat) (elems spare : List (DataW H)), v = .slice (some ad) len cap ∧ fuel = n + 1 ∧ y.1 = .slice elems spare ∧ elems.length = len ∧ elems.length + spare.length = cap ∧ len ≤ cap ∧ cap ≤ maxLen ∧
      ∀ i, i < len → ∃ cs' z, w.cells? 0 (ad.add (i * Try.prog.cellsOf e)) (Try.prog.cellsOf e) = some cs' ∧ DataW.trod enc Try.prog w 0 (fun _ => true) true n e cs' = some z ∧ elems[i]? = some z.1 := by
  rcases DataW.trod_slice ht h with ⟨e1, e2⟩ | ⟨a, len, cap, elems, rest, n, hf, e1, e2, _, hl, hm, hlen, hel, hsp, _⟩
  · simp only [List.cons.injEq, and_true] at e1
    exact .inl ⟨e1, by rw [e2]⟩
  · simp only [List.cons.injEq, and_true] at e1
    refine .inr ⟨a, len, cap, n, elems.map (·.1), rest.map (·.1), e1, hf, by rw [e2], by simp [hlen], by have := (hsp rfl).1; simp [hlen, this]; omega, hl, hm, fun i hi => ?_⟩
    have := hel i hi
    rw [List.getElem?_eq_getElem (by omega)] at this
    rw [Option.bind_eq_some_iff] at this
    obtain ⟨cs', h1, h2⟩ := this
    exact ⟨cs', elems[i]'(by omega), h1, h2, by rw [List.getElem?_map, List.getElem?_eq_getElem (by omega)]; rfl⟩
set_option maxRecDepth 100000 in
/-- A slice of strings. -/
theorem open_sl {H : Type} {enc : TypeId × Value → H} {w : World} {fuel : Nat} {v : Value} {x : DataW H × List MemPlace} (h : DataW.trod enc Try.prog w 0 (fun _ => true) true fuel 22 [v] = some x) :
    ∃ l : List Str, Rd w v (ss l) ∧ Ok l ∧ (Fits Try.prog 22 x.1 → l.length * 16 ≤ reachBytes) := by
  rcases open_row Try.underlying22 h with ⟨rfl, _⟩ | ⟨ad, len, cap, n, elems, sp, rfl, _, hd, hlen, hcap, hlc, hcm, hel⟩
  · exact ⟨[], ⟨none, 0, rfl, Nat.le_refl _, by omega, fun h => by simp [ss] at h⟩, (fun y hy => by cases hy), fun _ => by simp⟩
  unfold maxLen at hcm
  have hex : ∀ i, i < len → ∃ s : ByteArray, w.cell? (ad.add i) = some (.string s) ∧ s.size ≤ maxLen := by
    intro i hi
    obtain ⟨cs', z, h1, h2, _⟩ := hel i hi
    rw [Try.cellsStr, Nat.mul_one] at h1
    obtain ⟨s, e, _, hs⟩ := DataW.trod_string Try.underlying9 h2
    subst e
    obtain ⟨_, _, hc⟩ := World.cells?_some h1
    refine ⟨s, ?_, hs⟩
    have := hc 0 (by omega)
    simpa [Addr.add] using this
  have hfit : Fits Try.prog 22 x.1 → len * 16 ≤ reachBytes := fun hf => by
    rw [hd] at hf
    have := hf ((elems.length + sp.length) * Try.prog.bytesOf 9) (by simp [DataW.weights, Try.underlying22])
    rw [Try.bytesStr] at this
    omega
  haveI : Inhabited ByteArray := ⟨⟨#[]⟩⟩
  obtain ⟨f, hf⟩ := Go.Deep.choose_lt hex
  have hget : ∀ (i : Nat) (q : Nat), (List.range len)[i]? = some q → i < len ∧ q = i := by
    intro i q hr
    obtain ⟨h1, h2⟩ := List.getElem?_eq_some_iff.1 hr
    simp at h1 h2
    exact ⟨h1, h2.symm⟩
  refine ⟨(List.range len).map fun i => (f i).data.toList, ?_, fun y hy => ?_, fun h => by simpa using hfit h⟩
  · refine ⟨some ad, cap, by rw [ss_length]; simp, by rw [ss_length]; simpa using hlc, by omega, fun h0 => ?_⟩
    rw [ss_length, List.length_map, List.length_range] at h0
    have h6 := (hf 0 h0).1
    rw [show ad.add 0 = ad by rfl] at h6
    have hx := spot_none h6
    refine ⟨ad.block, ad.off, by rw [← hx], World.block_lt_of_cell? w _ h6, fun j u hu => ?_⟩
    simp only [ss, List.map_map, List.getElem?_map] at hu
    obtain ⟨q, hq, rfl⟩ := Option.map_eq_some_iff.1 hu
    obtain ⟨h1, rfl⟩ := hget j q hq
    have h7 := (hf q h1).1
    rw [hx, Addr.add_mid] at h7
    rw [h7]
    rfl
  · obtain ⟨q, hq, rfl⟩ := List.mem_map.1 hy
    have := (hf q (by simpa using hq)).2
    unfold maxLen at this
    have e : (f q).data.toList.length = (f q).size := Array.length_toList
    omega
set_option maxRecDepth 100000 in
theorem rule_fields : ∃ f0 f1 : Field, Try.prog.underlying 58 = some (.struct #[f0, f1]) ∧ f0.type = 22 ∧ f1.type = 9 ∧ f0.offset = 0 ∧ f1.offset = 1 :=
  ⟨_, _, Try.underlying58, rfl, rfl, rfl, rfl⟩
set_option maxRecDepth 100000 in
/-- A slice of rules. -/
theorem open_rl {H : Type} {enc : TypeId × Value → H} {w : World} {fuel : Nat} {v : Value} {x : DataW H × List MemPlace} (h : DataW.trod enc Try.prog w 0 (fun _ => true) true fuel 24 [v] = some x) (hfit : Fits Try.prog 24 x.1) :
    ∃ rs : List Gr, RuR w v rs ∧ OkR rs := by
  rcases open_row Try.underlying24 h with ⟨rfl, _⟩ | ⟨ad, len, cap, n, elems, sp, rfl, _, hd, hlen, hcap, hlc, hcm, hel⟩
  · exact ⟨[], rur_nil w, fun r hr => by cases hr⟩
  unfold maxLen at hcm
  have hfe : ∀ d ∈ elems, Fits Try.prog 58 d := by
    rw [hd] at hfit
    refine fits_all fun m hm => hfit m ?_
    simp only [DataW.weights, Try.underlying24, List.mem_cons, List.mem_append]
    exact .inr (.inl hm)
  have hex : ∀ i, i < len → ∃ q : Value × Gr, (w.cell? ((ad.add (i * 2)).add 0) = some q.1 ∧ w.cell? ((ad.add (i * 2)).add 1) = some (.string (ba q.2.2))) ∧ Rd w q.1 (ss q.2.1) ∧ Ok q.2.1 ∧ q.2.2.length ≤ 9223372036854775807 ∧ q.2.1.length ≤ 8796093021952 := by
    intro i hi
    obtain ⟨cs', z, h1, h2, h3⟩ := hel i hi
    rw [Try.cellsRule] at h1
    have hz := hfe z.1 (List.mem_of_getElem? h3)
    obtain ⟨f0, f1, hu, t0, t1, o0, o1⟩ := rule_fields
    obtain ⟨xs, m, _, hzz, hl, hlx, hf⟩ := DataW.trod_struct hu h2
    match xs, hlx with
    | [y0, y1], _ =>
      have g0 := hf 0 f0 rfl
      have g1 := hf 1 f1 rfl
      rw [t0, o0, Try.cellsStrs] at g0
      rw [t1, o1, Try.cellsStr] at g1
      rw [Try.cellsRule] at hl
      match cs', hl with
      | [v0, v1], _ =>
        simp only [List.drop_zero, List.drop_succ_cons, List.take_succ_cons, List.take_zero, List.getElem?_cons_zero, List.getElem?_cons_succ] at g0 g1
        obtain ⟨l, r1, r2, r3⟩ := open_sl g0
        obtain ⟨s, e, _, hs⟩ := DataW.trod_string Try.underlying9 g1
        simp only [List.cons.injEq, and_true] at e
        subst e
        obtain ⟨_, _, hc⟩ := World.cells?_some h1
        refine ⟨(v0, l, s.data.toList), ⟨by simpa using hc 0 (by omega), by simpa [ba_of] using hc 1 (by omega)⟩, r1, r2, ?_, ?_⟩
        · unfold maxLen at hs
          have e : s.data.toList.length = s.size := Array.length_toList
          show s.data.toList.length ≤ _
          omega
        · have hz0 : Fits Try.prog 22 y0.1 := by
            rw [hzz] at hz
            refine fits_each (ts := [22, 9]) (ds := [y0.1, y1.1]) (fun m hm => hz m ?_) 0 _ _ rfl rfl
            simp only [DataW.weights, hu, List.map_cons, List.map_nil, t0, t1]
            exact hm
          have := r3 hz0
          have hr : reachBytes = 140737488351232 := by rfl
          show l.length ≤ _
          omega
  by_cases h0 : len = 0
  · subst h0
    exact ⟨[], ⟨[], ⟨some ad, cap, rfl, hlc, by omega, fun h => by simp at h⟩, rfl, fun i t r ht => by simp at ht⟩, fun r hr => by cases hr⟩
  have hsp : ad.spot = none := by
    obtain ⟨y, hc, _⟩ := hex 0 (by omega)
    have := hc.1
    simpa [Addr.add] using World.cell?_spot (w := w) (a := (ad.add (0 * 2)).add 0) this
  obtain ⟨b, o, sp2⟩ := ad
  simp only at hsp
  subst hsp
  haveI : Inhabited (Value × Gr) := ⟨⟨.slice none 0 0, [], []⟩⟩
  obtain ⟨f, hf⟩ := Go.Deep.choose_lt hex
  have hget : ∀ (i : Nat) (q : Nat), (List.range len)[i]? = some q → i < len ∧ q = i := by
    intro i q hr
    obtain ⟨h1, h2⟩ := List.getElem?_eq_some_iff.1 hr
    simp at h1 h2
    exact ⟨h1, h2.symm⟩
  have c00 := (hf 0 (by omega)).1.1
  rw [plain_add, plain_add] at c00
  refine ⟨(List.range len).map fun i => (f i).2, ⟨(List.range len).map fun i => ((f i).1, .string (ba (f i).2.2)), ⟨_, _, by rw [List.length_map, List.length_range], by simpa using hlc, by omega, fun _ => ⟨b, o, rfl, World.block_lt_of_cell? w _ c00, fun i t ht => ?_⟩⟩, by simp, fun i t r ht hr => ?_⟩, fun r hr => ?_⟩
  · rw [List.getElem?_map] at ht
    obtain ⟨q, hq, rfl⟩ := Option.map_eq_some_iff.1 ht
    obtain ⟨h1, rfl⟩ := hget i q hq
    obtain ⟨⟨a1, a2⟩, _⟩ := hf q h1
    rw [plain_add, plain_add] at a1 a2
    exact ⟨a1, a2⟩
  · rw [List.getElem?_map] at ht hr
    obtain ⟨q, hq, rfl⟩ := Option.map_eq_some_iff.1 ht
    obtain ⟨q', hq', rfl⟩ := Option.map_eq_some_iff.1 hr
    obtain ⟨h1, rfl⟩ := hget i q hq
    obtain ⟨_, rfl⟩ := hget _ q' hq'
    exact ⟨(hf _ h1).2.1, rfl⟩
  · obtain ⟨q, hq, rfl⟩ := List.mem_map.1 hr
    exact (hf q (by simpa using hq)).2.2
set_option maxRecDepth 100000 in
theorem lat_fields : ∃ f0 f1 f2 f3 f4 f5 : Field, Try.prog.underlying 26 = some (.struct #[f0, f1, f2, f3, f4, f5]) ∧ f0.type = 3 ∧ f1.type = 2 ∧ f2.type = 2 ∧ f3.type = 22 ∧ f4.type = 23 ∧ f5.type = 24 ∧ f0.offset = 0 ∧ f1.offset = 1 ∧ f2.offset = 2 ∧ f3.offset = 3 ∧ f4.offset = 4 ∧ f5.offset = 5 :=
  ⟨_, _, _, _, _, _, Try.underlying26, rfl, rfl, rfl, rfl, rfl, rfl, rfl, rfl, rfl, rfl, rfl, rfl⟩
set_option maxRecDepth 100000 in
/-- A description. -/
theorem open_lat {H : Type} {enc : TypeId × Value → H} {w : World} : ∀ (F fuel : Nat), fuel < F → ∀ (cs : List Value) (x : DataW H × List MemPlace), DataW.trod enc Try.prog w 0 (fun _ => true) true fuel 26 cs = some x → Fits Try.prog 26 x.1 → ∃ (y : LX) (t : Lat), cs = y.q.cs ∧ LD w y t := by
  intro F
  induction F with
  | zero => intro fuel h; omega
  | succ F ih =>
    intro fuel hF cs x h hfit
    obtain ⟨f0, f1, f2, f3, f4, f5, hu, t0, t1, t2, t3, t4, t5, o0, o1, o2, o3, o4, o5⟩ := lat_fields
    obtain ⟨xs, m, hm, hxx, hl, hlx, hf⟩ := DataW.trod_struct hu h
    match xs, hlx with
    | [y0, y1, y2, y3, y4, y5], _ =>
      have g0 := hf 0 f0 rfl
      have g1 := hf 1 f1 rfl
      have g2 := hf 2 f2 rfl
      have g3 := hf 3 f3 rfl
      have g4 := hf 4 f4 rfl
      have g5 := hf 5 f5 rfl
      rw [Try.cellsLat] at hl
      match cs, hl with
      | [v0, v1, v2, v3, v4, v5], _ =>
        rw [t0, o0, Try.cellsInt] at g0
        rw [t1, o1, Try.cellsI64] at g1
        rw [t2, o2, Try.cellsI64] at g2
        rw [t3, o3, Try.cellsStrs] at g3
        rw [t4, o4, Try.cellsLats] at g4
        rw [t5, o5, Try.cellsRules] at g5
        simp only [List.drop_zero, List.drop_succ_cons, List.take_succ_cons, List.take_zero, List.getElem?_cons_zero, List.getElem?_cons_succ] at g0 g1 g2 g3 g4 g5
        obtain ⟨k0, e0, _, q0⟩ := DataW.trod_int Try.underlying3 g0
        obtain ⟨k1, e1, _, q1⟩ := DataW.trod_int Try.underlying2 g1
        obtain ⟨k2, e2, _, q2⟩ := DataW.trod_int Try.underlying2 g2
        simp only [List.cons.injEq, and_true] at e0 e1 e2
        subst e0 e1 e2
        have hz : ∀ (i : Nat) (t : TypeId) (d : DataW H), [3, 2, 2, 22, 23, 24][i]? = some t → [y0.1, y1.1, y2.1, y3.1, y4.1, y5.1][i]? = some d → Fits Try.prog t d := by
          refine fits_each (fun n hn => hfit n ?_)
          rw [hxx]
          simp only [DataW.weights, hu, List.map_cons, List.map_nil, t0, t1, t2, t3, t4, t5]
          exact hn
        obtain ⟨ns, n1, n2, _⟩ := open_sl g3
        obtain ⟨rs, r1, r2⟩ := open_rl g5 (hz 5 _ _ rfl rfl)
        have hp : ∃ ts, LDs w v4 ts := by
          rcases open_row Try.underlying23 g4 with ⟨rfl, _⟩ | ⟨ad, len, cap, n, elems, sp, rfl, hfu, hd, hlen, hcap, hlc, hcm, hel⟩
          · exact ⟨[], lds_nil w⟩
          unfold maxLen at hcm
          have hfe : ∀ d ∈ elems, Fits Try.prog 26 d := by
            have hz4 := hz 4 _ _ rfl rfl
            rw [hd] at hz4
            refine fits_all fun m hm => hz4 m ?_
            simp only [DataW.weights, Try.underlying23, List.mem_cons, List.mem_append]
            exact .inr (.inl hm)
          have hex : ∀ i, i < len → ∃ q : LX × Lat, (∀ j, j < 6 → w.cell? ((ad.add (i * 6)).add j) = q.1.q.cs[j]?) ∧ LD w q.1 q.2 := by
            intro i hi
            obtain ⟨cs', z, h1, h2, h3⟩ := hel i hi
            rw [Try.cellsLat] at h1
            obtain ⟨y, t, e, hy⟩ := ih n (by omega) cs' z h2 (hfe z.1 (List.mem_of_getElem? h3))
            obtain ⟨_, _, hc⟩ := World.cells?_some h1
            exact ⟨(y, t), fun j hj => by rw [hc j hj, e], hy⟩
          by_cases h0 : len = 0
          · subst h0
            exact ⟨[], [], ⟨some ad, cap, rfl, hlc, by omega, fun h => by simp at h⟩, rfl, fun i y u hy => by simp at hy⟩
          have hsp : ad.spot = none := by
            obtain ⟨y, hc, _⟩ := hex 0 (by omega)
            have := hc 0 (by omega)
            simpa [Addr.add] using World.cell?_spot (w := w) (a := (ad.add (0 * 6)).add 0) this
          obtain ⟨b, o, sp2⟩ := ad
          simp only at hsp
          subst hsp
          haveI : Inhabited (LX × Lat) := ⟨⟨⟨0, 0, 0, .slice none 0 0, .slice none 0 0, .slice none 0 0⟩, ⟨0, 0, 0, [], [], []⟩⟩⟩
          obtain ⟨f, hf⟩ := Go.Deep.choose_lt hex
          have hget : ∀ (i : Nat) (q : Nat), (List.range len)[i]? = some q → i < len ∧ q = i := by
            intro i q hr
            obtain ⟨h1, h2⟩ := List.getElem?_eq_some_iff.1 hr
            simp at h1 h2
            exact ⟨h1, h2.symm⟩
          have hcell : ∀ i j, i < len → j < 6 → w.cell? ⟨b, o + i * 6 + j, none⟩ = (f i).1.q.cs[j]? := by
            intro i j hi hj
            have := (hf i hi).1 j hj
            rwa [plain_add, plain_add] at this
          refine ⟨(List.range len).map fun i => (f i).2, (List.range len).map fun i => (f i).1, ⟨some ⟨b, o, none⟩, cap, by simp, by simpa using hlc, by omega, fun _ => ⟨b, o, rfl, World.block_lt_of_cell? w _ (hcell 0 0 (by omega) (by omega)), fun i t ht => ?_⟩⟩, by simp, fun i y u hy hu => ?_⟩
          · rw [List.getElem?_map, List.getElem?_map] at ht
            obtain ⟨q, hq, rfl⟩ := Option.map_eq_some_iff.1 ht
            obtain ⟨q', hq', rfl⟩ := Option.map_eq_some_iff.1 hq
            obtain ⟨h1, rfl⟩ := hget i q' hq'
            exact ⟨hcell q' 0 h1 (by omega), hcell q' 1 h1 (by omega), hcell q' 2 h1 (by omega), hcell q' 3 h1 (by omega), hcell q' 4 h1 (by omega), hcell q' 5 h1 (by omega)⟩
          · rw [List.getElem?_map] at hy hu
            obtain ⟨q, hq, rfl⟩ := Option.map_eq_some_iff.1 hy
            obtain ⟨q', hq', rfl⟩ := Option.map_eq_some_iff.1 hu
            obtain ⟨h1, rfl⟩ := hget i q hq
            obtain ⟨_, rfl⟩ := hget _ q' hq'
            exact (hf _ h1).2
        obtain ⟨ts, ps, p1, p2, p3⟩ := hp
        exact ⟨⟨k0, k1, k2, v3, v4, v5⟩, ⟨k0, k1, k2, ns, ts, rs⟩, rfl, .mk ps rfl rfl rfl (wf_r64 q0) (wf_r64 q1) (wf_r64 q2) n1 n2 r1 r2 p1 p2 p3⟩
set_option maxRecDepth 100000 in
/-- A description by value. -/
theorem open_latv {H : Type} {enc : TypeId × Value → H} {w : World} {base : Nat} {v : Value} {d : DataW H} {p : List MemPlace} (hv : Value.okWide Try.prog w .any base 26 v) (h : DataW.Trod enc Try.prog w 0 (fun _ => true) true 26 v d p) (hfit : Fits Try.prog 26 d) :
    ∃ (k lo hi : Int) (an : Option Addr) (nn cn : Nat) (ap : Option Addr) (np cp : Nat) (ar : Option Addr) (nr cr : Nat) (t : Lat), v = .agg #[.int .i64 k, .int .i64 lo, .int .i64 hi, .slice an nn cn, .slice ap np cp, .slice ar nr cr] ∧ LO w k lo hi an nn cn ap np cp ar nr cr t := by
  obtain ⟨cs, rfl, _⟩ := okWide_struct Try.underlying26 hv
  obtain ⟨fuel, hf⟩ := h
  obtain ⟨y, t, e, r⟩ := open_lat _ fuel (Nat.lt_succ_self _) _ _ hf hfit
  obtain ⟨k, lo, hi, an, nn, cn, ap, np, cp, ar, nr, cr, rfl, ho⟩ := r.open
  have e3 : cs = #[.int .i64 k, .int .i64 lo, .int .i64 hi, .slice an nn cn, .slice ap np cp, .slice ar nr cr] := by rw [← Array.toArray_toList (xs := cs), show cs.toList = _ from e]; rfl
  subst e3
  exact ⟨k, lo, hi, an, nn, cn, ap, np, cp, ar, nr, cr, t, rfl, ho⟩
end Go.Proofs.Ytcjnmgokddfidaa

/- The law Decodes. Bounds on sizes alone. -/
namespace Go.Proofs.Ytcjnmgokddfidaa
open Go.RowKit

theorem cs6d {w : World} {b : Nat} {E : TypeId} {m : Nat × Nat} {v0 v1 v2 v3 v4 v5 : Value} (h : w.heap[b]? = some (.cells #[v0, v1, v2, v3, v4, v5] E m)) : w.cell? ⟨b, 0, none⟩ = some v0 ∧ w.cell? ⟨b, 1, none⟩ = some v1 ∧ w.cell? ⟨b, 2, none⟩ = some v2 ∧ w.cell? ⟨b, 3, none⟩ = some v3 ∧ w.cell? ⟨b, 4, none⟩ = some v4 ∧ w.cell? ⟨b, 5, none⟩ = some v5 :=
  ⟨cell_blk (cs := [v0, v1, v2, v3, v4, v5]) h rfl, cell_blk (cs := [v0, v1, v2, v3, v4, v5]) h rfl, cell_blk (cs := [v0, v1, v2, v3, v4, v5]) h rfl, cell_blk (cs := [v0, v1, v2, v3, v4, v5]) h rfl, cell_blk (cs := [v0, v1, v2, v3, v4, v5]) h rfl, cell_blk (cs := [v0, v1, v2, v3, v4, v5]) h rfl⟩
theorem conv_rdd {W : World} {a : Option Addr} {n c : Nat} {L : List Int} (h : Rd W (.slice a n c) (Wr.bs L)) : (convert 30 9 (.slice a n c)).run Try.prog W = .ok (.string (strOfNums L)) W := by
  obtain ⟨ao, cap, e, h2, h3, h4⟩ := h
  simp only [Value.slice.injEq] at e
  obtain ⟨rfl, rfl, rfl⟩ := e
  rw [bs_len] at h4 ⊢
  refine Wr.run_str W 30 9 5 Try.underlying30 Try.underlying5 Try.underlying9 a L c fun h0 => ?_
  obtain ⟨g, o, rfl, hg, hc⟩ := h4 h0
  refine ⟨_, rfl, fun j v hv => ?_⟩
  rw [Addr.add_mid]
  exact hc j v hv
theorem conv_all {W : World} {g : Nat} {M : List Int} (h : W.heap[g]? = some (.cells (Wr.bs M).toArray 5 (0, 0))) : (convert 30 9 (.slice (some ⟨g, 0, none⟩) M.length M.length)).run Try.prog W = .ok (.string (strOfNums M)) W :=
  Wr.run_str W 30 9 5 Try.underlying30 Try.underlying5 Try.underlying9 (some ⟨g, 0, none⟩) M M.length (fun h0 => by
    obtain ⟨ad, e, hc⟩ := Wr.row_src h h0
    cases e
    exact ⟨_, rfl, fun j v hj => hc j v hj⟩)
theorem hpos_of {w : World} {ao : Option Addr} {cap : Nat} {d : List Int} (R : Rd w (.slice ao d.length cap) (Wr.bs d)) : 0 < d.length → ∃ ad, ao = some ad ∧ ∀ w', Below w.heap.size w w' → ∀ j v, (Wr.bs d)[j]? = some v → w'.cell? (ad.add j) = some v := by
  intro h0
  obtain ⟨a2, c2, e, h2, h3, h4⟩ := R
  simp only [Value.slice.injEq] at e
  obtain ⟨rfl, _, rfl⟩ := e
  obtain ⟨g, o, rfl, hg, hc⟩ := h4 (by simpa [Wr.bs] using h0)
  exact ⟨_, rfl, fun w' hb j v hv => by
    rw [Addr.add_mid, World.cell?_of_block (w := w) (hb.block g hg)]
    exact hc j v hv⟩
theorem eR_cases (d : List Int) (s : Option Nat) : (Wr.eR d s = 0 ∧ s = some d.length) ∨ Wr.eR d s = 2 := by
  cases s with
  | none => exact Or.inr rfl
  | some off =>
    by_cases e : off = d.length
    · subst e; exact Or.inl ⟨by simp [Wr.eR], rfl⟩
    · exact Or.inr (by simp [Wr.eR, e])
set_option maxRecDepth 100000 in
set_option maxHeartbeats 12800000 in
theorem decodes_long (d : List Int) (ao : Option Addr) (cap : Nat) (w : World) (hl : 20000 < d.length) : Calls Try.prog 4 #[.slice ao d.length cap] w (BoP true w) := by
  have AW := hid_of (fun w => awake_any w)
  have d1 : decide (((d.length : Nat) : Int) > 20000) = true := by simp; omega
  have d2 : decide (20000 < d.length) = true := by simp; omega
  go_enter Try.func4, Try.ntmps4
  go_wp2_with (go_at_call 6; ((with_reducible refine (AW.out _).mono ?_); (rintro e w1 ⟨rfl, h1⟩); (have E1 := hid_of h1); clear h1))
  go_ret
  exact ⟨rfl, E1.out⟩
set_option maxRecDepth 100000 in
set_option maxHeartbeats 12800000 in
theorem decodes_bad (d : List Int) (ao : Option Addr) (cap : Nat) (w : World) (hl : d.length ≤ 20000) (R : Rd w (.slice ao d.length cap) (Wr.bs d)) (PD : ∀ w, Rd w (.slice ao d.length cap) (Wr.bs d) → Calls Try.prog 9 #[.slice ao d.length cap] w (DnP w)) (QD : ∀ w, Rd w (.slice ao d.length cap) (Wr.bs d) → Calls Try.prog 12 #[.slice ao d.length cap] w (RnP w)) : Calls Try.prog 4 #[.slice ao d.length cap] w (BoP true w) := by
  have AW := hid_of (fun w => awake_any w)
  have d1 : decide (((d.length : Nat) : Int) > 20000) = false := by simp; omega
  have d2 : decide (20000 < d.length) = false := by simp; omega
  have HP := hid_of (fun (X : World) (h : Below w.heap.size w X) => PD X (R.at h))
  have HQ := hid_of (fun (X : World) (h : Below w.heap.size w X) => QD X (R.at h))
  clear R PD QD
  go_enter Try.func4, Try.ntmps4
  go_wp2_with (first
    | (go_at_call 6; ((with_reducible refine (AW.out _).mono ?_); (rintro e w1 ⟨rfl, h1⟩); (have E1 := hid_of h1); clear h1))
    | (go_at_call 9; ((with_reducible refine (HP.out w1 E1.out).mono ?_); (rintro e w2 ⟨rfl, h1⟩); (have E2 := hid_of ((E1.out.trans (h1.mono E1.out.size)).trans ((bel_alloc w2 (.cells #[.int .i64 0, .int .i64 0, .int .i64 0, .slice none 0 0, .slice none 0 0, .slice none 0 0] 26)).mono (by have := E1.out.size; have := h1.size; omega)))); clear h1))
    | (go_at_call 12; ((with_reducible refine (HQ.out _ E2.out).mono ?_); (rintro e w3 ⟨rfl, h1⟩); (have E3 := hid_of ((E2.out.trans (h1.mono E2.out.size)).trans ((bel_alloc w3 (.cells #[.int .i64 0, .int .i64 0, .int .i64 0, .slice none 0 0, .slice none 0 0, .slice none 0 0] 26)).mono (by have := E2.out.size; have := h1.size; omega)))); clear h1)))
  go_ret
  exact ⟨rfl, E3.out⟩
set_option maxRecDepth 100000 in
set_option maxHeartbeats 12800000 in
theorem decodes_good (d : List Int) (t : Lat) (hd : d = encL t) (c1 : chkL t = 0) (ao : Option Addr) (cap : Nat) (w : World) (hl : d.length ≤ 20000) (R : Rd w (.slice ao d.length cap) (Wr.bs d)) (PD : ∀ w, Rd w (.slice ao d.length cap) (Wr.bs d) → Calls Try.prog 9 #[.slice ao d.length cap] w (DcP t w)) (QD : ∀ w, Rd w (.slice ao d.length cap) (Wr.bs d) → Calls Try.prog 12 #[.slice ao d.length cap] w (RcP t w)) : Calls Try.prog 4 #[.slice ao d.length cap] w (BoP true w) := by
  have AW := hid_of (fun w => awake_any w)
  have d1 : decide (((d.length : Nat) : Int) > 20000) = false := by simp; omega
  have d2 : decide (20000 < d.length) = false := by simp; omega
  have HP := hid_of (fun (X : World) (h : Below w.heap.size w X) => PD X (R.at h))
  have HQ := hid_of (fun (X : World) (h : Below w.heap.size w X) => QD X (R.at h))
  obtain ⟨s, hs⟩ : ∃ s, s = strOfNums d := ⟨_, rfl⟩
  have HCV : Hid (∀ X, Below w.heap.size w X → (convert 30 9 (.slice ao d.length cap)).run Try.prog X = .ok (.string s) X) := hid_of (fun X h => by rw [hs]; exact conv_rdd (R.at h))
  have HCM : Hid (∀ (X : World) g, X.heap[g]? = some (.cells (Wr.bs d).toArray 5 (0, 0)) → (convert 30 9 (.slice (some ⟨g, 0, none⟩) d.length d.length)).run Try.prog X = .ok (.string s) X) := hid_of (fun X g h => by
    rw [hs]
    exact conv_all h)
  have EA := hid_of (fun (wz : World) xo xc yo yc zo zc (hz : LO wz t.k t.lo t.hi xo t.ns.length xc yo t.ps.length yc zo t.rs.length zc t) => encode_any t t.k t.lo t.hi xo t.ns.length xc yo t.ps.length yc zo t.rs.length zc wz hz c1 d hd)
  have RQ : Hid (∀ wz xo xc yo yc zo zc xo2 xc2 yo2 yc2 zo2 zc2, LO wz t.k t.lo t.hi xo t.ns.length xc yo t.ps.length yc zo t.rs.length zc t → LO wz t.k t.lo t.hi xo2 t.ns.length xc2 yo2 t.ps.length yc2 zo2 t.rs.length zc2 t → Calls Try.prog 11 #[.agg #[.int .i64 t.k, .int .i64 t.lo, .int .i64 t.hi, .slice xo t.ns.length xc, .slice yo t.ps.length yc, .slice zo t.rs.length zc], .agg #[.int .i64 t.k, .int .i64 t.lo, .int .i64 t.hi, .slice xo2 t.ns.length xc2, .slice yo2 t.ps.length yc2, .slice zo2 t.rs.length zc2]] wz (BoP true wz)) := hid_of (fun wz xo xc yo yc zo zc xo2 xc2 yo2 yc2 zo2 zc2 h1 h2 => by
    have := requal_any t t t.k t.lo t.hi xo t.ns.length xc yo t.ps.length yc zo t.rs.length zc t.k t.lo t.hi xo2 t.ns.length xc2 yo2 t.ps.length yc2 zo2 t.rs.length zc2 wz h1 h2
    simpa using this)
  obtain ⟨m, hm⟩ : ∃ m, m = d.length := ⟨_, rfl⟩
  rw [← hm] at HP HQ HCV HCM EA d1 d2 ⊢
  have hss : (s.toList == s.toList) = true := beq_self_eq_true _
  clear R PD QD hd c1 hs hm
  go_enter Try.func4, Try.ntmps4
  go_wp2_with (first
    | (go_at_call 6; ((with_reducible refine (AW.out _).mono ?_); (rintro e w1 ⟨rfl, h1⟩); (have E1 := hid_of h1); clear h1))
    | (go_at_call 9; ((with_reducible refine (HP.out w1 E1.out).mono ?_); (rintro e w2 ⟨xo, xc, yo, yc, zo, zc, rfl, h0, h1⟩); (have E2 := hid_of ((E1.out.trans (h1.mono E1.out.size)).trans ((bel_alloc w2 (.cells #[.int .i64 t.k, .int .i64 t.lo, .int .i64 t.hi, .slice xo t.ns.length xc, .slice yo t.ps.length yc, .slice zo t.rs.length zc] 26)).mono (by have := E1.out.size; have := h1.size; omega)))); (have L2 := hid_of (h0.at (bel_alloc w2 (.cells #[.int .i64 t.k, .int .i64 t.lo, .int .i64 t.hi, .slice xo t.ns.length xc, .slice yo t.ps.length yc, .slice zo t.rs.length zc] 26)))); (have X2 := hid_of (heap_alloc_new w2 (.cells #[.int .i64 t.k, .int .i64 t.lo, .int .i64 t.hi, .slice xo t.ns.length xc, .slice yo t.ps.length yc, .slice zo t.rs.length zc] 26))); clear h0 h1))
    | (go_at_call 12; ((with_reducible refine (HQ.out _ E2.out).mono ?_); (rintro e w3 ⟨xo2, xc2, yo2, yc2, zo2, zc2, rfl, h0, h1⟩); (have E3 := hid_of ((E2.out.trans (h1.mono E2.out.size)).trans ((bel_alloc w3 (.cells #[.int .i64 t.k, .int .i64 t.lo, .int .i64 t.hi, .slice xo2 t.ns.length xc2, .slice yo2 t.ps.length yc2, .slice zo2 t.rs.length zc2] 26)).mono (by have := E2.out.size; have := h1.size; omega)))); (have L3 := hid_of ((L2.out.at h1).at (bel_alloc w3 (.cells #[.int .i64 t.k, .int .i64 t.lo, .int .i64 t.hi, .slice xo2 t.ns.length xc2, .slice yo2 t.ps.length yc2, .slice zo2 t.rs.length zc2] 26)))); (have L4 := hid_of (h0.at (bel_alloc w3 (.cells #[.int .i64 t.k, .int .i64 t.lo, .int .i64 t.hi, .slice xo2 t.ns.length xc2, .slice yo2 t.ps.length yc2, .slice zo2 t.rs.length zc2] 26)))); (have X3 := hid_of (((bel_alloc w3 (.cells #[.int .i64 t.k, .int .i64 t.lo, .int .i64 t.hi, .slice xo2 t.ns.length xc2, .slice yo2 t.ps.length yc2, .slice zo2 t.rs.length zc2] 26)).block _ (Nat.lt_of_lt_of_le (lt_of_block X2.out) h1.size)).trans ((h1.block _ (lt_of_block X2.out)).trans X2.out))); (have X4 := hid_of (heap_alloc_new w3 (.cells #[.int .i64 t.k, .int .i64 t.lo, .int .i64 t.hi, .slice xo2 t.ns.length xc2, .slice yo2 t.ps.length yc2, .slice zo2 t.rs.length zc2] 26))); clear h0 h1)))
  obtain ⟨wb, hwb⟩ : ∃ wb, wb = w3.alloc (.cells #[.int .i64 t.k, .int .i64 t.lo, .int .i64 t.hi, .slice xo2 t.ns.length xc2, .slice yo2 t.ps.length yc2, .slice zo2 t.rs.length zc2] 26) := ⟨_, rfl⟩
  rw [← hwb] at E3 L3 L4 X3 X4
  have HWB := hid_of hwb.symm
  clear hwb
  rw [HWB.out]
  have HFC : Hid (∀ X, Below wb.heap.size wb X → (convert 30 9 (.slice ao m cap)).run Try.prog X = .ok (.string s) X ∧ (X.cell? ⟨w2.heap.size, 0, none⟩ = some (.int .i64 t.k) ∧ X.cell? ⟨w2.heap.size, 1, none⟩ = some (.int .i64 t.lo) ∧ X.cell? ⟨w2.heap.size, 2, none⟩ = some (.int .i64 t.hi) ∧ X.cell? ⟨w2.heap.size, 3, none⟩ = some (.slice xo t.ns.length xc) ∧ X.cell? ⟨w2.heap.size, 4, none⟩ = some (.slice yo t.ps.length yc) ∧ X.cell? ⟨w2.heap.size, 5, none⟩ = some (.slice zo t.rs.length zc)) ∧ (X.cell? ⟨w3.heap.size, 0, none⟩ = some (.int .i64 t.k) ∧ X.cell? ⟨w3.heap.size, 1, none⟩ = some (.int .i64 t.lo) ∧ X.cell? ⟨w3.heap.size, 2, none⟩ = some (.int .i64 t.hi) ∧ X.cell? ⟨w3.heap.size, 3, none⟩ = some (.slice xo2 t.ns.length xc2) ∧ X.cell? ⟨w3.heap.size, 4, none⟩ = some (.slice yo2 t.ps.length yc2) ∧ X.cell? ⟨w3.heap.size, 5, none⟩ = some (.slice zo2 t.rs.length zc2)) ∧ Below w.heap.size w X ∧ LO X t.k t.lo t.hi xo t.ns.length xc yo t.ps.length yc zo t.rs.length zc t ∧ LO X t.k t.lo t.hi xo2 t.ns.length xc2 yo2 t.ps.length yc2 zo2 t.rs.length zc2 t) := hid_of (fun X hX => by
    have ez := (hX.block _ (lt_of_block X3.out)).trans X3.out
    have ey := (hX.block _ (lt_of_block X4.out)).trans X4.out
    have eb := E3.out.trans (hX.mono E3.out.size)
    exact ⟨HCV.out X eb, cs6d ez, cs6d ey, eb, L3.out.at hX, L4.out.at hX⟩)
  have K0 : Hid (Below wb.heap.size wb wb.drew) := hid_of (Below.refl _ _).drew
  obtain ⟨f0, ⟨f1, f2, f3, f4, f5, f6⟩, ⟨g1, g2, g3, g4, g5, g6⟩, _⟩ := HFC.out wb.drew K0.out
  obtain ⟨f0', ⟨f1', f2', f3', f4', f5', f6'⟩, ⟨g1', g2', g3', g4', g5', g6'⟩, _⟩ := HFC.out wb (Below.refl _ _)
  go_region_law (first
    | (go_simp; go_at_call 11; ((with_reducible refine (RQ.out wb.drew _ _ _ _ _ _ _ _ _ _ _ _ (HFC.out wb.drew K0.out).2.2.2.2.1 (HFC.out wb.drew K0.out).2.2.2.2.2).mono ?_); (rintro e w5 ⟨rfl, q0⟩)); have K5 : Hid (Below wb.heap.size wb w5) := hid_of (undrew q0); clear q0; obtain ⟨r0, ⟨r1, r2, r3, r4, r5, r6⟩, ⟨s1, s2, s3, s4, s5, s6⟩, _⟩ := HFC.out w5 K5.out)
    | (go_simp; go_at_call 8; ((with_reducible refine (EA.out w5 _ _ _ _ _ _ (HFC.out w5 K5.out).2.2.2.2.1).mono ?_); (rintro e w6 ⟨g, rfl, q0, q1, _⟩)); have cv6 := HCM.out w6 g q0; have K6 := hid_of (K5.out.trans (q1.mono K5.out.size)); clear q0 q1; have u0 := (HFC.out w6 K6.out).1))
  all_goals go_wp2
  all_goals go_ret
  all_goals exact ⟨by first | rfl | simp, E3.out.trans (K6.out.mono E3.out.size)⟩
theorem decodes_law (a : Option Addr) (len cap : Nat) (zs : List Int) (w : World) (h : IsRow .u8 w a len cap zs) : Calls Try.prog 4 #[.slice a len cap] w (BoP true w) := by
  obtain ⟨d, rfl, hwf, R⟩ := h.rd
  have hr : ∀ x ∈ d, 0 ≤ x ∧ x ≤ 255 := fun x hx => bounds_u8 (hwf x hx)
  have R : Rd w (.slice a d.length cap) (Wr.bs d) := R
  rcases Nat.lt_or_ge 20000 d.length with hl | hl
  · exact decodes_long d a cap w hl
  obtain ⟨t, s, hts⟩ : ∃ t s, rdF d 6 (some 0) = (t, s) := ⟨_, _, rfl⟩
  obtain ⟨t2, s2, hts2⟩ : ∃ t s, rrF d 6 (some 0) = (t, s) := ⟨_, _, rfl⟩
  by_cases hG : Wr.eR d s = 0 ∧ chkL t = 0
  · obtain ⟨he, hc⟩ := hG
    obtain ⟨_, hs⟩ := (eR_cases d s).resolve_right (by rw [he]; decide)
    have h2 : (rdF d 6 (some 0)).2 = some d.length := by rw [hts]; exact hs
    have e := rd_rr 6 (some 0) d.length h2 (by rw [hts]; exact okay_of t 1 0 hc)
    obtain ⟨off, ho, hcut⟩ := cut_rdF hr 6 (some 0) d.length h2
    cases ho
    have hd : d = encL t := by
      rw [hts, List.drop_length, List.append_nil] at hcut
      exact hcut
    exact decodes_good d t hd hc a cap w hl R (fun w R => decode_good d t s hts he hc a cap w hr (by omega) (hpos_of R)) (fun w R => rdecode_good d t s (by rw [e]; exact hts) he hc a cap w hr (by omega) R)
  · have hB : ¬(Wr.eR d s2 = 0 ∧ chkL t2 = 0) := by
      rintro ⟨he, hc⟩
      obtain ⟨_, hs⟩ := (eR_cases d s2).resolve_right (by rw [he]; decide)
      have h2 : (rrF d 6 (some 0)).2 = some d.length := by rw [hts2]; exact hs
      have e := rr_rd 6 (some 0) d.length h2 (by rw [hts2]; exact okay_of t2 1 0 hc)
      rw [hts, hts2] at e
      cases e
      exact hG ⟨he, hc⟩
    refine decodes_bad d a cap w hl R (fun w R => ?_) (fun w R => ?_)
    · rcases eR_cases d s with ⟨h1, _⟩ | h1
      · exact decode_bad2 d t s hts h1 (fun hc => hG ⟨h1, hc⟩) a cap w hr (by omega) (hpos_of R)
      · exact decode_bad1 d t s hts h1 a cap w hr (by omega) (hpos_of R)
    · rcases eR_cases d s2 with ⟨h1, _⟩ | h1
      · exact rdecode_bad2 d t2 s2 hts2 h1 (fun hc => hB ⟨h1, hc⟩) a cap w hr (by omega) R
      · exact rdecode_bad1 d t2 s2 hts2 h1 a cap w hr (by omega) R
end Go.Proofs.Ytcjnmgokddfidaa
