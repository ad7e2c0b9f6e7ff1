/- The chase while a rule is added: all its rows of numbers as one family. -/
import Derived.Test.YtjponegeidiheaaClsClo
namespace Go.Proofs.Ytjponegeidiheaa
open Go.RowKit

/-- The cells of the struct. -/
def cgCells (ro : Nat → Value) (av : Value) (gu gh n k : Nat) : List Value := [ro 0, .slice (some ⟨gu, 0, none⟩) n n, av, ro 1, .slice (some ⟨gh, 0, none⟩) n n, ro 2, .int .i64 (k : Int)]
def urF (ro : Nat → Value) (n : Nat) : List Value := (List.range n).map fun i => ro (3 + i)
theorem urF_get {ro : Nat → Value} {n i : Nat} (h : i < n) : (urF ro n)[i]? = some (ro (3 + i)) := by simp [urF, h]
theorem urF_inv {ro : Nat → Value} {n i : Nat} {v : Value} (h : (urF ro n)[i]? = some v) : i < n ∧ v = ro (3 + i) := by
  have h1 := (List.getElem?_eq_some_iff.1 h).1
  simp [urF] at h1
  rw [urF_get h1] at h
  exact ⟨h1, (Option.some.inj h).symm⟩
structure CG (w : World) (c n k gu gh : Nat) (av : Value) (ar : List Value) (CC : List (List Nat)) (hs : Nat → Bool) (ro : Nat → Value) (rl : Nat → List Nat) (S : Nat → Prop) : Prop where
  blk : w.heap[c]? = some (.cells (cgCells ro av gu gh n k).toArray 84 (0, 0))
  uu : w.heap[gu]? = some (.cells (urF ro n).toArray 56 (0, 0))
  rows : ∀ j, j < n + 3 → w.ownsRow 0 3 1 (ro j) (rl j).length (ints (rl j))
  ap : ∀ i j, i < n + 3 → j < n + 3 → i ≠ j → ∀ g, (ro i).ownBlock = some g → (ro j).ownBlock ≠ some g
  ad : w.ownsRow 0 56 1 av CC.length ar
  ai : ∀ (i : Nat) (v : Value) (q : List Nat), ar[i]? = some v → CC[i]? = some q → Rd w v (ints q) ∧ ∀ g, v.ownBlock = some g → g < w.heap.size ∧ ¬ S g
  ha : w.heap[gh]? = some (.cells (bools n hs).toArray 4 (0, 0))
  sc : S c
  su : S gu
  sh : S gh
  sr : ∀ j, j < n + 3 → ∀ g, (ro j).ownBlock = some g → S g
  sa : ∀ g, av.ownBlock = some g → S g
  au : ∀ g, av.ownBlock = some g → g ≠ gu
  sz : ∀ g, S g → g < w.heap.size
section
variable {w w' w1 w2 : World} {c n k gu gh : Nat} {av : Value} {ar : List Value} {CC : List (List Nat)} {hs : Nat → Bool} {ro : Nat → Value} {rl : Nat → List Nat} {S : Nat → Prop}
theorem CG.same (h : CG w c n k gu gh av ar CC hs ro rl S) (hb : Below w.heap.size w w') : CG w' c n k gu gh av ar CC hs ro rl S :=
  ⟨(hb.block _ (h.sz _ h.sc)).trans h.blk, (hb.block _ (h.sz _ h.su)).trans h.uu, fun j hj => own_same (h.rows j hj) fun g hg => hb.block g (own_lt (h.rows j hj) hg), h.ap, own_same h.ad fun g hg => hb.block g (own_lt h.ad hg),
   fun i v q hv hq => ⟨(h.ai i v q hv hq).1.at hb, fun g hg => ⟨Nat.lt_of_lt_of_le ((h.ai i v q hv hq).2 g hg).1 hb.size, ((h.ai i v q hv hq).2 g hg).2⟩⟩, (hb.block _ (h.sz _ h.sh)).trans h.ha, h.sc, h.su, h.sh, h.sr, h.sa, h.au, fun g hg => Nat.lt_of_lt_of_le (h.sz g hg) hb.size⟩
/-- Where the row j stands. -/
def pcB (c gu j : Nat) : Nat := if j < 3 then c else gu
def pcO (j : Nat) : Nat := if j = 0 then 0 else if j = 1 then 3 else if j = 2 then 5 else j - 3
def upd {α : Type} (f : Nat → α) (j : Nat) (v : α) : Nat → α := fun i => if i = j then v else f i
theorem upd_self {α : Type} (f : Nat → α) (j : Nat) (v : α) : upd f j v j = v := by simp [upd]
theorem upd_ne {α : Type} (f : Nat → α) {j i : Nat} (v : α) (h : i ≠ j) : upd f j v i = f i := by simp [upd, h]
theorem rd_far {w w3 : World} {v : Value} {xs : List Value} (hr : Rd w v xs) (hz : w.heap.size ≤ w3.heap.size) (hn : ∀ g, v.ownBlock = some g → g < w.heap.size → w3.heap[g]? = w.heap[g]?) : Rd w3 v xs := by
  obtain ⟨ao, cap, rfl, h2, h3, h4⟩ := hr
  refine ⟨ao, cap, rfl, h2, h3, fun h0 => ?_⟩
  obtain ⟨g, o, rfl, q2, q3⟩ := h4 h0
  refine ⟨g, o, rfl, by omega, fun i u hu => ?_⟩
  have := q3 i u hu
  unfold World.cell? at this ⊢
  rw [hn g rfl q2]
  exact this
/-- The struct and the row of rows behind an append onto row j. -/
theorem CG.behind (h : CG w c n k gu gh av ar CC hs ro rl S) {j : Nat} (hj : j < n + 3) (hb : Below w.heap.size w w1) (hg : w1.grownBy w2 (ro j).ownBlock) :
    w2.heap[c]? = some (.cells (cgCells ro av gu gh n k).toArray 84 (0, 0)) ∧ w2.heap[gu]? = some (.cells (urF ro n).toArray 56 (0, 0)) := by
  have hz := hb.size
  constructor
  · rw [hg.block c (by have := h.sz _ h.sc; omega) (fun e => own_ne (h.rows j hj) e.symm h.blk (by decide) rfl), hb.block c (h.sz _ h.sc)]
    exact h.blk
  · rw [hg.block gu (by have := h.sz _ h.su; omega) (fun e => own_ne (h.rows j hj) e.symm h.uu (by decide) rfl), hb.block gu (h.sz _ h.su)]
    exact h.uu
/-- append of one number onto row j, and the store of what came of it. -/
theorem CG.push (h : CG w c n k gu gh av ar CC hs ro rl S) {j : Nat} (hj : j < n + 3) {x : Nat} {v' : Value} (hb : Below w.heap.size w w1) (hown : w2.ownsRow 0 3 1 v' ((rl j).length + 1) (ints (rl j) ++ [.int .i64 (x : Int)])) (hg : w1.grownBy w2 (ro j).ownBlock)
    (hf : v'.ownBlock = (ro j).ownBlock ∨ v'.ownBlock = some w1.heap.size) :
    CG (w2.setCell ⟨pcB c gu j, pcO j, none⟩ v') c n k gu gh av ar CC hs (upd ro j v') (upd rl j (rl j ++ [x])) (fun g => S g ∨ v'.ownBlock = some g) ∧ Chg S (fun g => S g ∨ v'.ownBlock = some g) w (w2.setCell ⟨pcB c gu j, pcO j, none⟩ v') := by
  have hz := hb.size
  have hz2 := hg.size
  obtain ⟨hc2, hu2⟩ := h.behind hj hb hg
  have hcu : c ≠ gu := blk_ne h.blk h.uu (by decide)
  have hP : ∀ {P : Nat → Prop}, P c → P gu → P (pcB c gu j) := fun h1 h2 => by unfold pcB; split <;> assumption
  have o : ∀ a, a < w.heap.size → a ≠ pcB c gu j → (ro j).ownBlock ≠ some a → (w2.setCell ⟨pcB c gu j, pcO j, none⟩ v').heap[a]? = w.heap[a]? := fun a h1 h2 h3 => by
    rw [set_other h2, hg.block a (by omega) (fun e => h3 e.symm), hb.block a h1]
  have hnew : ∀ g, v'.ownBlock = some g → S g ∨ w.heap.size ≤ g := fun g hg2 => by
    rcases hf with hf | hf
    · exact .inl (h.sr j hj g (by rw [← hf]; exact hg2))
    · rw [hf] at hg2; simp only [Option.some.injEq] at hg2; exact .inr (by omega)
  have hlow : ∀ g, g < w.heap.size → (ro j).ownBlock ≠ some g → v'.ownBlock ≠ some g := fun g hl hne e => by
    rcases hf with hf | hf
    · exact hne (by rw [← hf]; exact e)
    · rw [hf] at e; simp only [Option.some.injEq] at e; omega
  have tI : ∀ i, i < n + 3 → ∀ a, (ro i).ownBlock = some a → a ≠ pcB c gu j := fun i hi a ha => hP (P := fun b => a ≠ b) (own_ne (h.rows i hi) ha h.blk (by decide)) (own_ne (h.rows i hi) ha h.uu (by decide))
  refine ⟨⟨?_, ?_, fun i hi => ?_, fun i i2 hi hi2 hne g hgi => ?_, own_same h.ad fun a ha => o a (own_lt h.ad ha) (hP (P := fun b => a ≠ b) (own_ne h.ad ha h.blk (by decide)) (h.au a ha)) (own_type h.ad ha (h.rows j hj) (by decide)),
    fun i v q hv hq => ?_, ?_, .inl h.sc, .inl h.su, .inl h.sh, fun i hi g hgi => ?_, fun g hg2 => .inl (h.sa g hg2), h.au, fun g hg2 => ?_⟩, ?_⟩
  · by_cases h3 : j < 3
    · have e : pcB c gu j = c := by simp [pcB, h3]
      have hb2 := blk_setCell (k := pcO j) (u := v') hc2
      rw [e]
      refine hb2.trans ?_
      congr 3
      rcases (show j = 0 ∨ j = 1 ∨ j = 2 by omega) with rfl | rfl | rfl <;> simp [cgCells, upd, pcO]
    · have e : pcB c gu j = gu := by simp [pcB, h3]
      rw [e, set_other hcu, hc2]
      congr 3
      simp [cgCells, upd, show (0 : Nat) ≠ j by omega, show (1 : Nat) ≠ j by omega, show (2 : Nat) ≠ j by omega]
  · by_cases h3 : j < 3
    · have e : pcB c gu j = c := by simp [pcB, h3]
      rw [e, set_other hcu.symm, hu2]
      congr 3
      exact List.map_congr_left fun i hi => by rw [upd_ne _ _ (by omega)]
    · have e : pcB c gu j = gu := by simp [pcB, h3]
      have hb2 := blk_setCell (k := pcO j) (u := v') hu2
      rw [e]
      refine hb2.trans ?_
      congr 3
      have e2 : pcO j = j - 3 := by unfold pcO; rw [if_neg (by omega), if_neg (by omega), if_neg (by omega)]
      rw [e2]
      apply List.ext_getElem?
      intro i
      rw [List.getElem?_set]
      by_cases hi : i < n
      · by_cases ei : j - 3 = i
        · subst ei; rw [if_pos rfl, if_pos (by simp [urF]; omega), urF_get (by omega), show 3 + (j - 3) = j by omega, upd_self]
        · rw [if_neg ei, urF_get hi, urF_get hi, upd_ne _ _ (by omega)]
      · by_cases ei : j - 3 = i
        · omega
        · rw [if_neg ei, List.getElem?_eq_none (by simp [urF]; omega), List.getElem?_eq_none (by simp [urF]; omega)]
  · by_cases e : i = j
    · subst e
      rw [upd_self, upd_self, List.length_append, List.length_singleton, ints_append]
      exact own_same hown fun a ha => set_other (fun e2 => by
        obtain ⟨cur, hcu2⟩ := own_blk hown ha
        rw [e2] at hcu2
        have := hP (P := fun b => ∃ cs t, w2.heap[b]? = some (.cells cs t (0, 0)) ∧ t ≠ 3) ⟨_, _, hc2, by decide⟩ ⟨_, _, hu2, by decide⟩
        obtain ⟨cs, t, h5, h6⟩ := this
        rw [hcu2] at h5
        simp only [Option.some.injEq, Obj.cells.injEq] at h5
        exact h6 h5.2.1.symm)
    · rw [upd_ne _ _ e, upd_ne _ _ e]
      exact own_same (h.rows i hi) fun a ha => o a (own_lt (h.rows i hi) ha) (tI i hi a ha) (h.ap i j hi hj e a ha)
  · by_cases e : i = j
    · subst e
      rw [upd_self] at hgi
      rw [upd_ne _ _ (Ne.symm hne)]
      intro h5
      rcases hf with hf | hf
      · exact h.ap i i2 hi hi2 hne g (by rw [← hf]; exact hgi) h5
      · rw [hf] at hgi; simp only [Option.some.injEq] at hgi
        have := own_lt (h.rows i2 hi2) h5; omega
    · rw [upd_ne _ _ e] at hgi
      by_cases e2 : i2 = j
      · subst e2; rw [upd_self]; exact hlow g (own_lt (h.rows i hi) hgi) (h.ap i i2 hi hi2 hne g hgi)
      · rw [upd_ne _ _ e2]; exact h.ap i i2 hi hi2 hne g hgi
  · obtain ⟨q1, q2⟩ := h.ai i v q hv hq
    refine ⟨rd_far q1 (by simp; omega) fun g hg2 hl => o g hl (hP (P := fun b => g ≠ b) (fun e => (q2 g hg2).2 (e ▸ h.sc)) (fun e => (q2 g hg2).2 (e ▸ h.su))) (fun e => (q2 g hg2).2 (h.sr j hj g e)), fun g hg2 => ⟨by have := (q2 g hg2).1; simp; omega, fun hs2 => ?_⟩⟩
    rcases hs2 with hs2 | hs2
    · exact (q2 g hg2).2 hs2
    · rcases hnew g hs2 with h5 | h5
      · exact (q2 g hg2).2 h5
      · have := (q2 g hg2).1; omega
  · exact (o _ (h.sz _ h.sh) (hP (P := fun b => gh ≠ b) (blk_ne h.ha h.blk (by decide)) (blk_ne h.ha h.uu (by decide))) (fun e => own_ne (h.rows j hj) e h.ha (by decide) rfl)).trans h.ha
  · by_cases e : i = j
    · subst e; rw [upd_self] at hgi; exact .inr hgi
    · rw [upd_ne _ _ e] at hgi; exact .inl (h.sr i hi g hgi)
  · rcases hg2 with hg2 | hg2
    · have := h.sz g hg2; simp; omega
    · have := own_lt hown hg2; simpa using this
  · refine ⟨⟨hg.os.trans hb.os, hg.tape.trans hb.tape, hg.output.trans hb.output, by simp; omega, fun g h1 h2 => o g h1 (hP (P := fun b => g ≠ b) (fun e => h2 (e ▸ h.sc)) (fun e => h2 (e ▸ h.su))) (fun e => h2 (h.sr j hj g e))⟩, fun g hg2 => ?_⟩
    rcases hg2 with hg2 | hg2
    · exact .inl hg2
    · exact hnew g hg2
/-- append of a row onto adds, and the store of what came of it. -/
theorem CG.pushA (h : CG w c n k gu gh av ar CC hs ro rl S) {cv v' : Value} {q : List Nat} (hq : Rd w cv (ints q)) (hqb : ∀ g, cv.ownBlock = some g → g < w.heap.size ∧ ¬ S g) (hal : ar.length = CC.length) (hb : Below w.heap.size w w1) (hown : w2.ownsRow 0 56 1 v' (CC.length + 1) (ar ++ [cv])) (hg : w1.grownBy w2 av.ownBlock)
    (hf : v'.ownBlock = av.ownBlock ∨ v'.ownBlock = some w1.heap.size) :
    CG (w2.setCell ⟨c, 2, none⟩ v') c n k gu gh v' (ar ++ [cv]) (CC ++ [q]) hs ro rl (fun g => S g ∨ v'.ownBlock = some g) ∧ Chg S (fun g => S g ∨ v'.ownBlock = some g) w (w2.setCell ⟨c, 2, none⟩ v') := by
  have hz := hb.size
  have hz2 := hg.size
  have hc2 : w2.heap[c]? = some (.cells (cgCells ro av gu gh n k).toArray 84 (0, 0)) := by
    rw [hg.block c (by have := h.sz _ h.sc; omega) (fun e => own_ne h.ad e.symm h.blk (by decide) rfl), hb.block c (h.sz _ h.sc)]
    exact h.blk
  have o : ∀ a, a < w.heap.size → a ≠ c → av.ownBlock ≠ some a → (w2.setCell ⟨c, 2, none⟩ v').heap[a]? = w.heap[a]? := fun a h1 h2 h3 => by
    rw [set_other h2, hg.block a (by omega) (fun e => h3 e.symm), hb.block a h1]
  have hnew : ∀ g, v'.ownBlock = some g → S g ∨ w.heap.size ≤ g := fun g hg2 => by
    rcases hf with hf | hf
    · exact .inl (h.sa g (by rw [← hf]; exact hg2))
    · rw [hf] at hg2; simp only [Option.some.injEq] at hg2; exact .inr (by omega)
  have hrd : ∀ v xs, Rd w v xs → (∀ g, v.ownBlock = some g → g < w.heap.size ∧ ¬ S g) → Rd (w2.setCell ⟨c, 2, none⟩ v') v xs ∧ ∀ g, v.ownBlock = some g → g < (w2.setCell ⟨c, 2, none⟩ v').heap.size ∧ ¬ (S g ∨ v'.ownBlock = some g) := fun v xs q1 q2 =>
    ⟨rd_far q1 (by simp; omega) fun g hg2 hl => o g hl (fun e => (q2 g hg2).2 (e ▸ h.sc)) (fun e => (q2 g hg2).2 (h.sa g e)), fun g hg2 => ⟨by have := (q2 g hg2).1; simp; omega, fun hs2 => by
      rcases hs2 with hs2 | hs2
      · exact (q2 g hg2).2 hs2
      · rcases hnew g hs2 with h5 | h5
        · exact (q2 g hg2).2 h5
        · have := (q2 g hg2).1; omega⟩⟩
  refine ⟨⟨?_, ?_, fun i hi => own_same (h.rows i hi) fun a ha => o a (own_lt (h.rows i hi) ha) (own_ne (h.rows i hi) ha h.blk (by decide)) (own_type (h.rows i hi) ha h.ad (by decide)), h.ap, ?_, fun i v q2 hv hq2 => ?_, ?_, .inl h.sc, .inl h.su, .inl h.sh, fun i hi g hg2 => .inl (h.sr i hi g hg2), fun g hg2 => .inr hg2, fun g hg2 => ?_, fun g hg2 => ?_⟩, ?_⟩
  · exact blk_setCell (k := 2) (u := v') hc2
  · exact (o _ (h.sz _ h.su) (blk_ne h.uu h.blk (by decide)) (fun e => h.au _ e rfl)).trans h.uu
  · rw [List.length_append, List.length_singleton]
    exact own_same hown fun a ha => set_other (fun e => by
      obtain ⟨cur, hcu2⟩ := own_blk hown ha
      rw [e, hc2] at hcu2
      simp only [Option.some.injEq, Obj.cells.injEq] at hcu2
      exact absurd hcu2.2.1 (by decide))
  · by_cases hi : i < CC.length
    · rw [List.getElem?_append_left (by omega)] at hv
      rw [List.getElem?_append_left hi] at hq2
      obtain ⟨q3, q4⟩ := h.ai i v q2 hv hq2
      exact hrd v _ q3 q4
    · have e : i = CC.length := by have := (List.getElem?_eq_some_iff.1 hq2).1; simp at this; omega
      subst e
      rw [List.getElem?_append_right (by omega)] at hv
      rw [List.getElem?_append_right (Nat.le_refl _)] at hq2
      simp [hal] at hv hq2
      subst hv hq2
      exact hrd _ _ hq hqb
  · exact (o _ (h.sz _ h.sh) (blk_ne h.ha h.blk (by decide)) (fun e => own_ne h.ad e h.ha (by decide) rfl)).trans h.ha
  · rcases hf with hf | hf
    · exact h.au g (by rw [← hf]; exact hg2)
    · rw [hf] at hg2; simp only [Option.some.injEq] at hg2
      have := h.sz _ h.su; omega
  · rcases hg2 with hg2 | hg2
    · have := h.sz g hg2; simp; omega
    · have := own_lt hown hg2; simpa using this
  · refine ⟨⟨hg.os.trans hb.os, hg.tape.trans hb.tape, hg.output.trans hb.output, by simp; omega, fun g h1 h2 => o g h1 (fun e => h2 (e ▸ h.sc)) (fun e => h2 (h.sa g e))⟩, fun g hg2 => ?_⟩
    rcases hg2 with hg2 | hg2
    · exact .inl hg2
    · exact hnew g hg2
theorem CG.congr (h : CG w c n k gu gh av ar CC hs ro rl S) {rl' : Nat → List Nat} (he : ∀ j, j < n + 3 → rl j = rl' j) : CG w c n k gu gh av ar CC hs ro rl' S :=
  { h with rows := fun j hj => by rw [← he j hj]; exact h.rows j hj }
/-- The family of a chase. -/
def roF (V : CV) (j : Nat) : Value := if j = 0 then V.fv else if j = 1 then V.lv else if j = 2 then V.tv else (V.ur[j - 3]?).getD (.slice none 0 0)
def rlF (R : List Hrl) (lk : Nat → Nat) (T : List Nat) (j : Nat) : List Nat := if j = 0 then freeF R else if j = 1 then (List.range R.length).map lk else if j = 2 then T else usesF R (j - 3)
theorem roF_u {V : CV} {i : Nat} {v : Value} (h : V.ur[i]? = some v) : roF V (3 + i) = v := by
  unfold roF
  rw [if_neg (by omega), if_neg (by omega), if_neg (by omega), show 3 + i - 3 = i by omega, h]
  rfl
theorem urF_roF {V : CV} {n : Nat} (h : V.ur.length = n) : urF (roF V) n = V.ur := by
  apply List.ext_getElem?
  intro i
  by_cases hi : i < n
  · rw [urF_get hi]
    obtain ⟨v, hv⟩ : ∃ v, V.ur[i]? = some v := ⟨_, List.getElem?_eq_getElem (by omega)⟩
    rw [hv, roF_u hv]
  · rw [List.getElem?_eq_none (by simp [urF]; omega), List.getElem?_eq_none (by omega)]
theorem CH.toG {R : List Hrl} {lk : Nat → Nat} {T : List Nat} {V : CV} (h : CH w c n R lk hs T k V S) : CG w c n k V.gu V.gh V.av V.ar (R.map Prod.snd) hs (roF V) (rlF R lk T) S := by
  have hu : ∀ j, j < n + 3 → ¬ j < 3 → ∃ v, V.ur[j - 3]? = some v ∧ roF V j = v := fun j hj h3 => by
    obtain ⟨v, hv⟩ : ∃ v, V.ur[j - 3]? = some v := ⟨_, List.getElem?_eq_getElem (by rw [h.ul]; omega)⟩
    exact ⟨v, hv, by have := roF_u hv; rwa [show 3 + (j - 3) = j by omega] at this⟩
  have c3 : ∀ {j : Nat}, j < 3 → j = 0 ∨ j = 1 ∨ j = 2 := fun h => by omega
  refine ⟨h.blk, by rw [urF_roF h.ul]; exact h.uu, fun j hj => ?_, fun i j hi hj hne g hg => ?_, by rw [List.length_map]; exact h.ad, fun i v q hv hq => ?_, h.ha, h.sc, h.su, h.sh, fun j hj g hg => ?_, h.sa, h.au, h.sz⟩
  · by_cases h3 : j < 3
    · rcases c3 h3 with rfl | rfl | rfl
      · exact h.fr
      · have := h.la
        simp only [roF, rlF]
        simpa [lks] using this
      · exact h.tr
    · obtain ⟨v, hv, e⟩ := hu j hj h3
      rw [e]
      have : rlF R lk T j = usesF R (j - 3) := by unfold rlF; rw [if_neg (by omega), if_neg (by omega), if_neg (by omega)]
      rw [this]
      exact h.us _ v hv
  · by_cases hi3 : i < 3
    · by_cases hj3 : j < 3
      · rcases c3 hi3 with rfl | rfl | rfl <;> rcases c3 hj3 with rfl | rfl | rfl
        · exact absurd rfl hne
        · exact h.fl g hg
        · exact h.ft g hg
        · exact fun e => h.fl g e hg
        · exact absurd rfl hne
        · exact h.lt g hg
        · exact fun e => h.ft g e hg
        · exact fun e => h.lt g e hg
        · exact absurd rfl hne
      · obtain ⟨v, hv, e⟩ := hu j hj hj3
        rw [e]
        rcases c3 hi3 with rfl | rfl | rfl
        · exact fun e2 => h.rf _ v hv g e2 hg
        · exact fun e2 => h.rl _ v hv g e2 hg
        · exact fun e2 => h.rt _ v hv g e2 hg
    · obtain ⟨u, hu2, e⟩ := hu i hi hi3
      rw [e] at hg
      by_cases hj3 : j < 3
      · rcases c3 hj3 with rfl | rfl | rfl
        · exact h.rf _ u hu2 g hg
        · exact h.rl _ u hu2 g hg
        · exact h.rt _ u hu2 g hg
      · obtain ⟨v, hv, e2⟩ := hu j hj hj3
        rw [e2]
        exact h.rr _ _ u v (by omega) hu2 hv g hg
  · rw [List.getElem?_map] at hq
    cases hR : R[i]? with
    | none => rw [hR] at hq; cases hq
    | some r =>
      rw [hR] at hq
      simp at hq
      subst hq
      have := h.ai i v hv
      rw [conc_of hR] at this
      exact this
  · by_cases h3 : j < 3
    · rcases c3 h3 with rfl | rfl | rfl
      · exact h.sf g hg
      · exact h.sl g hg
      · exact h.st g hg
    · obtain ⟨v, hv, e⟩ := hu j hj h3
      rw [e] at hg
      exact h.sr _ v hv g hg
theorem CG.toH {R : List Hrl} {lk : Nat → Nat} {T : List Nat} (h : CG w c n k gu gh av ar (R.map Prod.snd) hs ro (rlF R lk T) S) (nd : T.Nodup) (tn : ∀ x ∈ T, x < n) (rn : ∀ i x, i < R.length → x ∈ conc R i → x < n) (pn : ∀ i, i < R.length → (prem R i).Nodup ∧ ∀ x ∈ prem R i, x < n) (hal : ar.length = R.length) :
    CH w c n R lk hs T k ⟨ro 0, av, ro 1, ro 2, gu, gh, urF ro n, ar⟩ S := by
  have r0 := h.rows 0 (by omega)
  have r1 := h.rows 1 (by omega)
  have r2 := h.rows 2 (by omega)
  refine ⟨h.blk, r0, h.uu, by simp [urF], fun i v hv => ?_, by have := h.ad; rwa [List.length_map] at this, fun i v hv => ?_, ?_, h.ha, r2, h.sc, h.sr 0 (by omega), h.su, fun i v hv g hg => ?_, h.sa, h.sr 1 (by omega), h.sh, h.sr 2 (by omega), h.ap 0 1 (by omega) (by omega) (by omega), h.ap 0 2 (by omega) (by omega) (by omega), h.ap 1 2 (by omega) (by omega) (by omega),
    fun i v hv g hg => ?_, fun i v hv g hg => ?_, fun i v hv g hg => ?_, fun i j u v hne hu hv g hg => ?_, h.au, h.sz, nd, tn, rn, pn⟩
  · obtain ⟨hi, rfl⟩ := urF_inv hv
    have := h.rows (3 + i) (by omega)
    have e : rlF R lk T (3 + i) = usesF R i := by unfold rlF; rw [if_neg (by omega), if_neg (by omega), if_neg (by omega), show 3 + i - 3 = i by omega]
    rw [e] at this
    exact this
  · have hi9 : i < ar.length := (List.getElem?_eq_some_iff.1 hv).1
    have hi : i < R.length := by omega
    have hR : R[i]? = some R[i] := List.getElem?_eq_getElem hi
    have := h.ai i v R[i].2 hv (by simp [hR])
    rw [conc_of hR]; exact this
  · have e : rlF R lk T 1 = (List.range R.length).map lk := rfl
    rw [e] at r1
    simpa [lks] using r1
  · obtain ⟨hi, rfl⟩ := urF_inv hv
    exact h.sr (3 + i) (by omega) g hg
  · obtain ⟨hi, rfl⟩ := urF_inv hv
    exact h.ap (3 + i) 0 (by omega) (by omega) (by omega) g hg
  · obtain ⟨hi, rfl⟩ := urF_inv hv
    exact h.ap (3 + i) 1 (by omega) (by omega) (by omega) g hg
  · obtain ⟨hi, rfl⟩ := urF_inv hv
    exact h.ap (3 + i) 2 (by omega) (by omega) (by omega) g hg
  · obtain ⟨hi, rfl⟩ := urF_inv hu
    obtain ⟨hj, rfl⟩ := urF_inv hv
    exact h.ap (3 + i) (3 + j) (by omega) (by omega) (by omega) g hg
end
end Go.Proofs.Ytjponegeidiheaa
