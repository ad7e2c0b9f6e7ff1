/- walk: the search for all closed sets, over whatever visit. Bounds on sizes alone. -/
import Derived.Test.YtjponegeidiheaaClsLec
namespace Go.Proofs.Ytjponegeidiheaa
open Go.RowKit

theorem three_new0 (w : World) (a b c : Obj) : Below w.heap.size w (((w.alloc a).alloc b).alloc c) ∧ ((((w.alloc a).alloc b).alloc c)).heap[w.heap.size]? = some a ∧ ((((w.alloc a).alloc b).alloc c)).heap[w.heap.size + 1]? = some b ∧ ((((w.alloc a).alloc b).alloc c)).heap[w.heap.size + 1 + 1]? = some c := by
  have z1 : (w.alloc a).heap.size = w.heap.size + 1 := by simp
  have z2 : ((w.alloc a).alloc b).heap.size = w.heap.size + 1 + 1 := by simp
  have B1 := bel_alloc w a
  have B2 := bel_alloc (w.alloc a) b
  have B3 := bel_alloc ((w.alloc a).alloc b) c
  have n1 := heap_alloc_new w a
  have n2 := heap_alloc_new (w.alloc a) b
  have n3 := heap_alloc_new ((w.alloc a).alloc b) c
  rw [z1] at n2
  rw [z2] at n3
  refine ⟨((B1.trans (B2.mono (by omega))).trans (B3.mono (by omega))), ?_, ?_, n3⟩
  · exact ((B3.block _ (by omega)).trans (B2.block _ (by omega))).trans n1
  · exact (B3.block _ (by omega)).trans n2
theorem vv_ext {R : List Hrl} {n : Nat} {T : List Nat} {a : Nat} (ha : a ≤ n) : ∀ k i, i + k = a → Gen R i T → ∃ rest, VV R n T i = VV R n T a ++ rest
  | 0, i, hi, _ => ⟨[], by rw [show i = a by omega]; simp⟩
  | k + 1, i, hi, hg => by
    obtain ⟨rest, h⟩ := vv_ext ha k (i + 1) (by omega) (hg.mono (by omega))
    by_cases hiT : i ∈ T
    · exact ⟨rest, by rw [vv_in (by omega) hg hiT, h]⟩
    · rw [vv_split R T (show i < n by omega)]
      have e : ((subs (n - (i + 1)) (i + 1)).map (mems T i ++ ·)).filter (cldB R) = VV R n T (i + 1) := by
        unfold VV; rw [mems_succ, if_neg hiT, List.append_nil]
      rw [e, h]
      exact ⟨_, by rw [List.append_assoc]⟩
/-- What comes behind, when a is added. -/
def GG (R : List Hrl) (n : Nat) (T : List Nat) (a : Nat) : List (List Nat) := ((subs (n - (a + 1)) (a + 1)).map ((mems T a ++ [a]) ++ ·)).filter (cldB R)
theorem vv_gg {R : List Hrl} {n a : Nat} {T : List Nat} (ha : a < n) (haT : a ∉ T) : VV R n T a = VV R n T (a + 1) ++ GG R n T a := by
  rw [vv_split R T ha]
  congr 1
  unfold VV; rw [mems_succ, if_neg haT, List.append_nil]
theorem gg_good {R : List Hrl} {n a : Nat} {T T' : List Nat} (ha : a < n) (haT : a ∉ T) (h1 : a ∈ T') (h2 : ∀ x, x < a → (x ∈ T' ↔ x ∈ T)) : VV R n T' (a + 1) = GG R n T a := by
  have e1 := vv_gg (R := R) ha haT
  rw [vv_out ha haT h1 h2] at e1
  exact List.append_cancel_left e1
theorem gg_bad {R : List Hrl} {n a y : Nat} {T : List Nat} (ha : a < n) (haT : a ∉ T) (hg : Gen R a T) (hy : y < a) (hyT : y ∉ T) (hd : Der (On R (fun _ => 0)) (fun x => x ∈ T ∨ x ∈ [a]) y) : GG R n T a = [] := by
  have e1 := vv_gg (R := R) ha haT
  rw [vv_bad ha haT hg hy hyT hd] at e1
  exact (List.append_right_eq_self.1 e1.symm)
theorem prc_len (ok : List (List Nat) → Bool) : ∀ (L d : List (List Nat)), (prc ok d L).2 = true → (prc ok d L).1 = d ++ L
  | [], d, _ => by simp [prc]
  | x :: L, d, h => by
    cases h1 : ok (d ++ [x]) with
    | true =>
      simp only [prc, h1, if_true] at h ⊢
      rw [prc_len ok L _ h]; simp
    | false => simp [prc, h1] at h

/-- Owned by the chase or by the visit. -/
def orS (U JS : Nat → Prop) : Nat → Prop := fun b => U b ∨ JS b
theorem chg_l {U U' JS : Nat → Prop} {w w' : World} (h : Chg U U' w w') : Chg (orS U JS) (orS U' JS) w w' :=
  ⟨⟨h.kept.os, h.kept.tape, h.kept.output, h.kept.size, fun k hk hs => h.kept.block k hk (fun h2 => hs (.inl h2))⟩, fun k hk => by
    rcases hk with hk | hk
    · rcases h.sub k hk with h2 | h2
      · exact .inl (.inl h2)
      · exact .inr h2
    · exact .inl (.inr hk)⟩
theorem chg_r {U JS JS' : Nat → Prop} {w w' : World} (h : Chg JS JS' w w') : Chg (orS U JS) (orS U JS') w w' :=
  ⟨⟨h.kept.os, h.kept.tape, h.kept.output, h.kept.size, fun k hk hs => h.kept.block k hk (fun h2 => hs (.inr h2))⟩, fun k hk => by
    rcases hk with hk | hk
    · exact .inl (.inl hk)
    · rcases h.sub k hk with h2 | h2
      · exact .inl (.inr h2)
      · exact .inr h2⟩
/-- What the walk stands on: a closed set T, all of it counted; d: the sets that have been visited. -/
structure St (c n : Nat) (R : List Hrl) (vb cb bb gv : Nat) (lbs : Array Value) (J : List (List Nat) → (Nat → Prop) → World → Prop) (d : List (List Nat)) (T : List Nat) (V : CV) (U JS : Nat → Prop) (w : World) : Prop where
  ch : CH w c n R (lackR R (fun _ => 0) (T.take T.length)) (memB T) T T.length V U
  j : J d JS w
  ap : ∀ b, JS b → ¬ U b ∧ b < w.heap.size
  ab : ∀ (i : Nat) (v : Value), V.ar[i]? = some v → ∀ g, v.ownBlock = some g → ¬ JS g
  hv : w.heap[vb]? = some (.cells #[.func (.func gv) #[] lbs] 92 (0, 0))
  hc : w.heap[cb]? = some (.cells #[.pointer (some ⟨c, 0, none⟩)] 76 (0, 0))
  hb : w.heap[bb]? = some (.cells #[.func (.func 72) #[] #[.pointer (some ⟨vb, 0, none⟩), .pointer (some ⟨cb, 0, none⟩), .pointer (some ⟨bb, 0, none⟩)]] 103 (0, 0))
  nu : ∀ b, b = vb ∨ b = cb ∨ b = bb → ¬ U b ∧ ¬ JS b
theorem chg_far {A B : Nat → Prop} {w wr : World} {g o : Nat} {v : Value} (h : Chg A B w wr) (hg : w.heap.size ≤ g) : Chg A B w (wr.setCell ⟨g, o, none⟩ v) :=
  ⟨⟨h.kept.os, h.kept.tape, h.kept.output, by simpa using h.kept.size, fun k hk hs => by rw [set_other (by omega)]; exact h.kept.block k hk hs⟩, h.sub⟩
section
variable {c n : Nat} {R : List Hrl} {vb cb bb gv : Nat} {lbs : Array Value} {J : List (List Nat) → (Nat → Prop) → World → Prop} {d d' : List (List Nat)} {T T' : List Nat} {V V' : CV} {U U' JS JS' : Nat → Prop} {w w' : World}
/-- The visit's own change. -/
theorem St.visit (h : St c n R vb cb bb gv lbs J d T V U JS w) (hc : Chg JS JS' w w') (hj : J d' JS' w') (hs : ∀ b, JS' b → b < w'.heap.size) : St c n R vb cb bb gv lbs J d' T V U JS' w' := by
  have hn : ∀ b, ¬ JS b → b < w.heap.size → ¬ JS' b := fun b h1 h2 h3 => by
    rcases hc.sub b h3 with h4 | h4
    · exact h1 h4
    · omega
  have hl := fun b hb => h.nu b hb
  refine ⟨h.ch.chg hc (fun g hg h2 => (h.ap g h2).1 hg) (fun i v hv g hg => h.ab i v hv g hg), hj, fun b hb => ⟨fun hU => ?_, hs b hb⟩, fun i v hv g hg => hn g (h.ab i v hv g hg) ((h.ch.ai i v hv).2 g hg).1, hc.blk h.hv (hl vb (.inl rfl)).2, hc.blk h.hc (hl cb (.inr (.inl rfl))).2, hc.blk h.hb (hl bb (.inr (.inr rfl))).2, fun b hb => ⟨(h.nu b hb).1, hn b (h.nu b hb).2 ?_⟩⟩
  · rcases hc.sub b hb with h4 | h4
    · exact (h.ap b h4).1 hU
    · have := h.ch.sz b hU; omega
  · rcases hb with rfl | rfl | rfl
    · exact lt_of_block h.hv
    · exact lt_of_block h.hc
    · exact lt_of_block h.hb
/-- The chase's own change. -/
theorem St.move (h : St c n R vb cb bb gv lbs J d T V U JS w) (hJ : ∀ d JS w w', J d JS w → (∀ b, JS b → w'.heap[b]? = w.heap[b]?) → w.heap.size ≤ w'.heap.size → J d JS w') (hc : Chg U U' w w')
    (hch : CH w' c n R (lackR R (fun _ => 0) (T'.take T'.length)) (memB T') T' T'.length V' U') (hav : V'.ar = V.ar) : St c n R vb cb bb gv lbs J d T' V' U' JS w' := by
  have hn : ∀ b, ¬ U b → b < w.heap.size → ¬ U' b := fun b h1 h2 h3 => by
    rcases hc.sub b h3 with h4 | h4
    · exact h1 h4
    · omega
  refine ⟨hch, hJ d JS w w' h.j (fun b hb => hc.kept.block b (h.ap b hb).2 (h.ap b hb).1) hc.kept.size, fun b hb => ⟨hn b (h.ap b hb).1 (h.ap b hb).2, Nat.lt_of_lt_of_le (h.ap b hb).2 hc.kept.size⟩, by rw [hav]; exact h.ab, hc.blk h.hv (h.nu vb (.inl rfl)).1, hc.blk h.hc (h.nu cb (.inr (.inl rfl))).1, hc.blk h.hb (h.nu bb (.inr (.inr rfl))).1, fun b hb => ⟨hn b (h.nu b hb).1 ?_, (h.nu b hb).2⟩⟩
  rcases hb with rfl | rfl | rfl
  · exact lt_of_block h.hv
  · exact lt_of_block h.hc
  · exact lt_of_block h.hb
/-- What happens elsewhere. -/
theorem St.far (h : St c n R vb cb bb gv lbs J d T V U JS w) (hJ : ∀ d JS w w', J d JS w → (∀ b, JS b → w'.heap[b]? = w.heap[b]?) → w.heap.size ≤ w'.heap.size → J d JS w') {g o : Nat} {v : Value} (h1 : ¬ U g) (h2 : ¬ JS g) (h3 : g ≠ vb ∧ g ≠ cb ∧ g ≠ bb) (h4 : ∀ (i : Nat) (v : Value), V.ar[i]? = some v → ∀ b, v.ownBlock = some b → b ≠ g) : St c n R vb cb bb gv lbs J d T V U JS (w.setCell ⟨g, o, none⟩ v) := by
  have hs : ∀ b, b ≠ g → (w.setCell ⟨g, o, none⟩ v).heap[b]? = w.heap[b]? := fun b hb => set_other hb
  refine ⟨h.ch.chg (chg_set (S := fun b => b = g) (b := g) rfl) (fun b hb e => h1 (e ▸ hb)) h4, hJ d JS w _ h.j (fun b hb => hs b (fun e => h2 (e ▸ hb))) (by simp), fun b hb => ⟨(h.ap b hb).1, by have := (h.ap b hb).2; simpa using this⟩, h.ab, (hs vb h3.1.symm).trans h.hv, (hs cb h3.2.1.symm).trans h.hc, (hs bb h3.2.2.symm).trans h.hb, h.nu⟩
theorem St.below (h : St c n R vb cb bb gv lbs J d T V U JS w) (hJ : ∀ d JS w w', J d JS w → (∀ b, JS b → w'.heap[b]? = w.heap[b]?) → w.heap.size ≤ w'.heap.size → J d JS w') (hb : Below w.heap.size w w') : St c n R vb cb bb gv lbs J d T V U JS w' :=
  h.move hJ (Chg.ofBelow hb) (h.ch.at hb) rfl
end
theorem sat_of {R : List Hrl} {T : List Nat} (h : cldB R T = true) : Sat R (fun _ => 0) T T.length := fun i hi ho hp x hx => by
  rw [List.take_length] at hp
  have hR : R[i]? = some R[i] := List.getElem?_eq_getElem hi
  rw [prem_of hR] at hp
  rw [conc_of hR] at hx
  exact cldB_iff.1 h R[i] ⟨i, hR, ho⟩ hp x hx
end Go.Proofs.Ytjponegeidiheaa
