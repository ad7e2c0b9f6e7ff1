/- addRule: the walk. Bounds on sizes alone. -/
import Derived.Test.YtjponegeidiheaaClsAdd
import Derived.Deep.RegionHeldLaw
namespace Go.Proofs.Ytjponegeidiheaa
open Go.RowKit

def AddP (zb : Nat) (w : World) (c n : Nat) (R : List Hrl) (off : Nat → Nat) (T p q : List Nat) (S : Nat → Prop) (e : Ending) (w' : World) : Prop :=
  e = .returned (.tuple #[]) ∧ ∃ V' S', CH w' c n (R ++ [(p, q)]) (lackR (R ++ [(p, q)]) off T) (memB T) T T.length V' S' ∧ Chg S S' w w' ∧ ∀ v ∈ V'.ar, ∀ g, v.ownBlock = some g → zb ≤ g
theorem alloc_cell {w : World} {b o : Nat} {v : Value} (ob : Obj) (h : w.cell? ⟨b, o, none⟩ = some v) : (w.alloc ob).cell? ⟨b, o, none⟩ = some v :=
  ((bel_alloc w ob).cell (p := ⟨b, o, none⟩) (World.block_lt_of_cell? w _ h)).trans h
theorem pcB_u (c gu a : Nat) : pcB c gu (3 + a) = gu := by unfold pcB; rw [if_neg (by omega)]
theorem pcO_u (a : Nat) : pcO (3 + a) = a := by unfold pcO; rw [if_neg (by omega), if_neg (by omega), if_neg (by omega)]; omega
section
variable {zb : Nat} {w0 wr : World} {c n k gu gh : Nat} {R : List Hrl} {lk : Nat → Nat} {T p x0 x1 : List Nat} {j : Nat} {CC : List (List Nat)} {S : Nat → Prop}
theorem alloc_drew (w : World) (o : Obj) : Below w.heap.size w (w.alloc o).drew := (bel_alloc w o).drew
theorem cell_new (w : World) (u : Value) (t : Nat) : (w.alloc (.cells #[u] t)).cell? ⟨w.heap.size, 0, none⟩ = some u := blk_cell (cs := [u]) (heap_alloc_new w (.cells #[u] t)) rfl
/-- The struct's row of rows. -/
theorem AdI.adds (h : AdI zb w0 c n k gu gh R lk T p x0 j x1 CC S wr) {m : Nat} (hmm : CC.length = m) {q : List Nat} {qo : Option Addr} {ql qc : Nat} (hS : ∀ g, S g → g < w0.heap.size) (hq : Rd w0 (.slice qo ql qc) (ints q)) (hqb : ∀ g, (Value.slice qo ql qc).ownBlock = some g → g < w0.heap.size ∧ ¬ S g) (hqz : ∀ g, (Value.slice qo ql qc).ownBlock = some g → zb ≤ g) :
    ∃ ao ac ar, wr.cell? ⟨c, 2, none⟩ = some (.slice ao m ac) ∧ (∀ b o, b < w0.heap.size → ¬ S b → w0.heap[b]? = some o → wr.heap[b]? = some o) ∧ (∀ w1, Below wr.heap.size wr w1 → w1.ownsRow 0 56 1 (.slice ao m ac) m ar) ∧
      ∀ w1 w4 ao2 cap2 m2, Below wr.heap.size wr w1 → m2 = m + 1 → w4.ownsRow 0 56 1 (.slice ao2 m2 cap2) m2 (ar ++ [.slice qo ql qc]) → w1.grownBy w4 (Value.slice ao m ac).ownBlock →
        ((Value.slice ao2 m2 cap2).ownBlock = (Value.slice ao m ac).ownBlock ∨ (Value.slice ao2 m2 cap2).ownBlock = some w1.heap.size) →
        (w4.cell? ⟨c, 2, none⟩ = some (.slice ao m ac) ∧ w4.frozen? ⟨c, 2, none⟩ = false) ∧ AdI zb w0 c n k gu gh R lk T p x0 j x1 (CC ++ [q]) S (w4.setCell ⟨c, 2, none⟩ (.slice ao2 m2 cap2)) := by
  subst hmm
  obtain ⟨ro, av, ar, S', h1, h2, h3⟩ := h
  obtain ⟨ao, ac, hav⟩ := own_shape h1.ad
  subst hav
  refine ⟨ao, ac, ar, blk_cell h1.blk rfl, fun b o hb hs ho => by rw [h2.kept.block b hb hs]; exact ho, fun w1 hb => own_same h1.ad fun g hg => hb.block g (own_lt h1.ad hg), fun w1 w4 ao2 cap2 m2 hb hm hown hg hf => ?_⟩
  subst hm
  have hqn : ∀ g, (Value.slice qo ql qc).ownBlock = some g → ¬ S' g := fun g hg2 h5 => by
    rcases h2.sub g h5 with h6 | h6
    · exact (hqb g hg2).2 h6
    · have := (hqb g hg2).1; omega
  obtain ⟨q1, q2⟩ := h1.pushA (q := q) (h2.rd hq fun g hg => (hqb g hg).2) (fun g hg2 => ⟨Nat.lt_of_lt_of_le (hqb g hg2).1 h2.kept.size, hqn g hg2⟩) h3.1 hb hown hg hf
  have hc2 : w4.heap[c]? = some (.cells (cgCells ro (.slice ao CC.length ac) gu gh n k).toArray 84 (0, 0)) := by
    rw [hg.block c (by have := h1.sz _ h1.sc; have := hb.size; omega) (fun e => own_ne h1.ad e.symm h1.blk (by decide) rfl), hb.block c (h1.sz _ h1.sc)]
    exact h1.blk
  exact ⟨⟨blk_cell hc2 rfl, blk_free hc2 2⟩, ro, _, _, _, q1, h2.trans q2, by simp [h3.1], fun v hv => by
    rcases List.mem_append.1 hv with hv | hv
    · exact h3.2 v hv
    · rw [List.mem_singleton.1 hv]; exact hqz⟩
/-- A row of the struct's own. -/
theorem AdI.row (h : AdI zb w0 c n k gu gh R lk T p x0 j x1 CC S wr) {i x : Nat} (hi : i < n + 3) {j' : Nat} {x0' x1' : List Nat} (hn : ∀ i', upd (rlS R lk T R.length p x0 j x1) i (rlS R lk T R.length p x0 j x1 i ++ [x]) i' = rlS R lk T R.length p x0' j' x1' i') :
    ∃ ao ac l, l = (rlS R lk T R.length p x0 j x1 i).length ∧ wr.cell? ⟨pcB c gu i, pcO i, none⟩ = some (.slice ao l ac) ∧ (∀ w1, Below wr.heap.size wr w1 → w1.ownsRow 0 3 1 (.slice ao l ac) l (ints (rlS R lk T R.length p x0 j x1 i))) ∧
      ∀ w1 w4 ao2 cap2 m2, Below wr.heap.size wr w1 → m2 = l + 1 → w4.ownsRow 0 3 1 (.slice ao2 m2 cap2) m2 (ints (rlS R lk T R.length p x0 j x1 i) ++ [.int .i64 (x : Int)]) → w1.grownBy w4 (Value.slice ao l ac).ownBlock →
        ((Value.slice ao2 m2 cap2).ownBlock = (Value.slice ao l ac).ownBlock ∨ (Value.slice ao2 m2 cap2).ownBlock = some w1.heap.size) →
        (w4.cell? ⟨pcB c gu i, pcO i, none⟩ = some (.slice ao l ac) ∧ w4.frozen? ⟨pcB c gu i, pcO i, none⟩ = false ∧ w4.cell? ⟨c, 1, none⟩ = some (.slice (some ⟨gu, 0, none⟩) n n)) ∧ AdI zb w0 c n k gu gh R lk T p x0' j' x1' CC S (w4.setCell ⟨pcB c gu i, pcO i, none⟩ (.slice ao2 m2 cap2)) := by
  obtain ⟨ro, av, ar, S', h1, h2, h3⟩ := h
  obtain ⟨ao, ac, hro⟩ := own_shape (h1.rows i hi)
  have hr := h1.rows i hi
  have hpc : ∀ (W : World), W.heap[c]? = some (.cells (cgCells ro av gu gh n k).toArray 84 (0, 0)) → W.heap[gu]? = some (.cells (urF ro n).toArray 56 (0, 0)) → W.cell? ⟨pcB c gu i, pcO i, none⟩ = some (ro i) ∧ W.frozen? ⟨pcB c gu i, pcO i, none⟩ = false := fun W e1 e2 => by
    by_cases h3 : i < 3
    · have e : pcB c gu i = c := by simp [pcB, h3]
      rw [e]
      refine ⟨blk_cell e1 ?_, blk_free e1 _⟩
      rcases (show i = 0 ∨ i = 1 ∨ i = 2 by omega) with rfl | rfl | rfl <;> simp [cgCells, pcO]
    · have e : pcB c gu i = gu := by simp [pcB, h3]
      rw [e]
      refine ⟨blk_cell e2 ?_, blk_free e2 _⟩
      have e2 : pcO i = i - 3 := by unfold pcO; rw [if_neg (by omega), if_neg (by omega), if_neg (by omega)]
      rw [e2, urF_get (by omega), show 3 + (i - 3) = i by omega]
  refine ⟨ao, ac, _, rfl, by rw [← hro]; exact (hpc wr h1.blk h1.uu).1, fun w1 hb => by rw [← hro]; exact own_same hr fun g hg => hb.block g (own_lt hr hg), fun w1 w4 ao2 cap2 m2 hb hm hown hg hf => ?_⟩
  subst hm
  rw [← hro] at hg hf
  obtain ⟨q1, q2⟩ := h1.push hi hb hown hg hf
  obtain ⟨e1, e2⟩ := h1.behind hi hb hg
  obtain ⟨e3, e4⟩ := hpc w4 e1 e2
  exact ⟨⟨by rw [← hro]; exact e3, e4, blk_cell e1 rfl⟩, _, av, ar, _, q1.congr (fun i' _ => hn i'), h2.trans q2, h3⟩
end

set_option maxRecDepth 100000 in
set_option maxHeartbeats 1600000 in
theorem add_any (zb c n : Nat) (R : List Hrl) (off : Nat → Nat) (T : List Nat) (V : CV) (S : Nat → Prop) (p q : List Nat) (pv cv : Value) (w : World) (h : CH w c n R (lackR R off T) (memB T) T T.length V S) (hp : p.Nodup) (hpn : ∀ x ∈ p, x < n) (hqn : ∀ x ∈ q, x < n)
    (Lp : Rd w pv (ints p)) (Lq : Rd w cv (ints q)) (hpb : ∀ g, pv.ownBlock = some g → g < w.heap.size ∧ ¬ S g) (hqb : ∀ g, cv.ownBlock = some g → g < w.heap.size ∧ ¬ S g) (hn : n ≤ 1000000) (hRl : R.length ≤ 1000000) (ho : off R.length = 0) (hza : ∀ v ∈ V.ar, ∀ g, v.ownBlock = some g → zb ≤ g) (hzq : ∀ g, cv.ownBlock = some g → zb ≤ g) :
    Calls Try.prog 66 #[.pointer (some ⟨c, 0, none⟩), .agg #[pv, cv]] w (AddP zb w c n R off T p q S) := by
  obtain ⟨po, pc, rfl, hp1, hp2, hp3⟩ := Lp
  obtain ⟨qo, qc, hcv, hq1, hq2, hq3⟩ := Lq
  have Lq : Rd w cv (ints q) := ⟨qo, qc, hcv, hq1, hq2, hq3⟩
  subst hcv
  rw [ints_length p] at hp1 hp3 hpb ⊢
  rw [ints_length q] at hq1 Lq hqb hzq ⊢
  obtain ⟨pl, hpl⟩ : ∃ pl, pl = p.length := ⟨_, rfl⟩
  obtain ⟨ql, hql⟩ : ∃ ql, ql = q.length := ⟨_, rfl⟩
  rw [← hpl] at hp1 hp3 hpb ⊢
  rw [← hql] at hq1 Lq hqb hzq ⊢
  obtain ⟨m, hm⟩ : ∃ m, m = R.length := ⟨_, rfl⟩
  have hcc : (R.map Prod.snd).length = m := by rw [List.length_map, hm]
  have B0 := bel_alloc w (.cells #[.slice po pl pc, .slice qo ql qc] 90)
  have HA0 : Hid (AdI zb (w.alloc (.cells #[.slice po pl pc, .slice qo ql qc] 90)) c n T.length V.gu V.gh R (lackR R off T) T p [] 0 [] (R.map Prod.snd) S (w.alloc (.cells #[.slice po pl pc, .slice qo ql qc] 90))) := hid_of ⟨roF V, V.av, V.ar, S, (h.at B0).toG.congr (fun i _ => rlS_start R _ T R.length p i), Chg.refl _ _, (by have := h.ad.1; rw [Nat.mul_one] at this; rw [List.length_map]; exact this), hza⟩
  have HQZ := hid_of hzq
  have HSZ : Hid (∀ g, S g → g < (w.alloc (.cells #[.slice po pl pc, .slice qo ql qc] 90)).heap.size) := hid_of (fun g hg => by have := h.sz g hg; simp; omega)
  have HLQ : Hid (Rd (w.alloc (.cells #[.slice po pl pc, .slice qo ql qc] 90)) (.slice qo ql qc) (ints q)) := hid_of (Lq.at B0)
  have HQB : Hid (∀ g, (Value.slice qo ql qc).ownBlock = some g → g < (w.alloc (.cells #[.slice po pl pc, .slice qo ql qc] 90)).heap.size ∧ ¬ S g) := hid_of (fun g hg => ⟨by have := (hqb g hg).1; simp; omega, (hqb g hg).2⟩)
  have HBX : Hid (w.heap.size < (w.alloc (.cells #[.slice po pl pc, .slice qo ql qc] 90)).heap.size ∧ ¬ S w.heap.size ∧ (w.alloc (.cells #[.slice po pl pc, .slice qo ql qc] 90)).heap[w.heap.size]? = some (.cells #[.slice po pl pc, .slice qo ql qc] 90 (0, 0))) := hid_of ⟨by simp, fun hs => by have := h.sz _ hs; omega, heap_alloc_new w _⟩
  have HBXC : Hid (∀ (wr : World) (x0 : List Nat) (j : Nat) (x1 : List Nat) (CC : List (List Nat)), AdI zb (w.alloc (.cells #[.slice po pl pc, .slice qo ql qc] 90)) c n T.length V.gu V.gh R (lackR R off T) T p x0 j x1 CC S wr → wr.cell? ⟨w.heap.size, 0, none⟩ = some (.slice po pl pc) ∧ wr.cell? ⟨w.heap.size, 1, none⟩ = some (.slice qo ql qc)) := hid_of (fun wr x0 j x1 CC hi => by
    obtain ⟨ro, av, ar, S', h1, h2, h3⟩ := hi
    have hb := h2.blk HBX.out.2.2 HBX.out.2.1
    exact ⟨blk_cell (cs := [.slice po pl pc, .slice qo ql qc]) hb rfl, blk_cell (cs := [.slice po pl pc, .slice qo ql qc]) hb rfl⟩)
  have HFIN : Hid (∀ wr, AdI zb (w.alloc (.cells #[.slice po pl pc, .slice qo ql qc] 90)) c n T.length V.gu V.gh R (lackR R off T) T p (if p = [] then [R.length] else []) p.length [lackF p T] (R.map Prod.snd ++ [q]) S wr → AddP zb w c n R off T p q S (.returned (.tuple #[])) wr) := hid_of (fun wr hi => by
    obtain ⟨ro, av, ar, S', h1, h2, h3⟩ := hi
    have e : R.map Prod.snd ++ [q] = (R ++ [(p, q)]).map Prod.snd := by simp
    rw [e] at h1 h3
    refine ⟨rfl, _, S', (h1.congr (fun i _ => rlS_end R off T p q ho i)).toH h.nd h.tn (fun i x hi hx => ?_) (fun i hi => ?_) (by rw [h3.1, List.length_map]), (Chg.ofBelow B0).trans h2, h3.2⟩
    · rw [conc_snoc] at hx
      split at hx
      · exact h.rn i x (by assumption) hx
      · split at hx
        · exact hqn x hx
        · simp at hx
    · rw [prem_snoc]
      split
      · exact h.pn i (by assumption)
      · split
        · exact ⟨hp, hpn⟩
        · exact ⟨by simp, by simp⟩)
  have HPL := hid_of hpl
  have HM := hid_of hm
  have HCC := hid_of hcc
  have HML : Hid (m ≤ 1000000) := hid_of (by omega)
  have HRF : Hid (∀ (x0 : List Nat) (j : Nat) (x1 : List Nat), (rlS R (lackR R off T) T R.length p x0 j x1 1).length = m + x1.length) := hid_of (fun x0 j x1 => by simp [rlS, hm])
  obtain ⟨ao0, ac0, hav⟩ := own_shape h.ad
  have k2 := (h.at B0).cell (j := 2) rfl
  rw [hav, ← hm] at k2
  have HPN := hid_of hpn
  have HPD := hid_of hp
  have HPR : Hid (∀ (wr : World) (x0 : List Nat) (j : Nat) (x1 : List Nat) (CC : List (List Nat)) (i a : Nat), AdI zb (w.alloc (.cells #[.slice po pl pc, .slice qo ql qc] 90)) c n T.length V.gu V.gh R (lackR R off T) T p x0 j x1 CC S wr → p[i]? = some a → ∃ g o, po = some ⟨g, o, none⟩ ∧ wr.cell? ⟨g, o + i, none⟩ = some (.int .i64 (a : Int))) := hid_of (fun wr x0 j x1 CC i a hi ha => by
    obtain ⟨ro, av, ar, S', h1, h2, h3⟩ := hi
    obtain ⟨g, o, e, hg, hc⟩ := hp3 (by have := (List.getElem?_eq_some_iff.1 ha).1; omega)
    refine ⟨g, o, e, ?_⟩
    have hb := hpb g (by rw [e]; rfl)
    have h5 := hc i _ (ints_get ha)
    have h6 := B0.block g hg
    unfold World.cell? at h5 ⊢
    rw [h2.kept.block g (by have := B0.size; omega) hb.2, h6]; exact h5)
  have HHS : Hid (∀ (wr : World) (x0 : List Nat) (j : Nat) (x1 : List Nat) (CC : List (List Nat)) (a : Nat), AdI zb (w.alloc (.cells #[.slice po pl pc, .slice qo ql qc] 90)) c n T.length V.gu V.gh R (lackR R off T) T p x0 j x1 CC S wr → a < n → wr.cell? ⟨c, 4, none⟩ = some (.slice (some ⟨V.gh, 0, none⟩) n n) ∧ wr.cell? ⟨V.gh, a, none⟩ = some (.bool (memB T a)) ∧ wr.cell? ⟨c, 1, none⟩ = some (.slice (some ⟨V.gu, 0, none⟩) n n)) := hid_of (fun wr x0 j x1 CC a hi ha => by
    obtain ⟨ro, av, ar, S', h1, h2, h3⟩ := hi
    exact ⟨blk_cell h1.blk rfl, blk_cell h1.ha (bools_get _ ha), blk_cell h1.blk rfl⟩)
  clear h Lq hav hpb hqb hpn hqn ho hRl hcc hm B0 hp hp3 hq3 hql hpl
  by_cases h0 : 0 < pl
  · have hd0 : ((pl : Int) == 0) = false := by simp; omega
    have HPE : Hid ((if p = [] then [R.length] else []) = ([] : List Nat)) := hid_of (by rw [if_neg]; rintro rfl; have := HPL.out; simp at this; omega)
    rw [HPE.out] at HFIN
    go_enter Try.func66, Try.ntmps66
    go_wp2
    go_loopw [5, 7, 30] (fun kv xv iv wr => ∃ (j y : Nat) (v : Value), kv = .int .i64 y ∧ xv = v ∧ j ≤ pl ∧ iv = .int .i64 j ∧ y ≤ j ∧ Hid (y = lackF (p.take j) T) ∧ Hid (AdI zb (w.alloc (.cells #[.slice po pl pc, .slice qo ql qc] 90)) c n T.length V.gu V.gh R (lackR R off T) T p [] j [] (R.map Prod.snd) S wr)) (fun _ _ iv _ => pl - (intOf iv).toNat)
    case atStart => exact ⟨0, 0, _, rfl, rfl, Nat.zero_le _, rfl, Nat.le_refl _, hid_of rfl, HA0⟩
    case round =>
      obtain ⟨j, y, v, rfl, rfl, hj, rfl, hyj, hy, hi⟩ := hrel
      by_cases hlt : j < pl
      · have hd : decide (j < pl) = true := by simp; omega
        obtain ⟨a, ha⟩ : ∃ a, p[j]? = some a := ⟨_, List.getElem?_eq_getElem (by have := HPL.out; omega)⟩
        have han : a < n := HPN.out a (List.mem_of_getElem? ha)
        obtain ⟨g, o, rfl, c1⟩ := HPR.out wr _ _ _ _ j a hi.out ha
        obtain ⟨h4, hA, h1⟩ := HHS.out wr _ _ _ _ a hi.out han
        obtain ⟨uo, uc, ul, u1, u2, u3, u4⟩ := AdI.row hi.out (i := 3 + a) (x := m) (by omega) (fun i' => by rw [HM.out]; exact rlS_next HPD.out ha i')
        rw [pcB_u, pcO_u] at u2 u4
        have HU4 := hid_of u4
        have HULE : Hid (ul ≤ m) := hid_of (by
          rw [u1]
          have e : rlS R (lackR R off T) T R.length p [] j [] (3 + a) = usesF R a ++ (if a ∈ p.take j then [R.length] else []) := by
            unfold rlS
            rw [if_neg (by omega), if_neg (by omega), if_neg (by omega), show 3 + a - 3 = a by omega]
          rw [e, if_neg (not_take HPD.out ha), List.append_nil, HM.out]
          unfold usesF
          exact Nat.le_trans (List.length_filter_le _ _) (by simp))
        have HOU : Hid (((wr.alloc (.cells #[.int .i64 (m : Int)] 3)).drew).ownsRow 0 3 1 (.slice uo ul uc) ul (ints (rlS R (lackR R off T) T R.length p [] j [] (3 + a)))) := hid_of (u3 _ (alloc_drew _ _))
        have HCU : Hid (((wr.alloc (.cells #[.int .i64 (m : Int)] 3)).drew).cell? ⟨wr.heap.size, 0, none⟩ = some (.int .i64 (m : Int))) := hid_of (cell_new _ _ _)
        have HDU : Hid (Below wr.heap.size wr ((wr.alloc (.cells #[.int .i64 (m : Int)] 3)).drew)) := hid_of (alloc_drew _ _)
        have HAJ := hid_of ha
        have HIO := hid_of hi.out
        obtain ⟨b, hb⟩ : ∃ b, b = memB T a := ⟨_, rfl⟩
        have HB := hid_of hb
        have u2a := alloc_cell (.cells #[.int .i64 (m : Int)] 3) u2
        have h1a := alloc_cell (.cells #[.int .i64 (m : Int)] 3) h1
        clear u1 u3 u4 ha hi hA hb
        go_wp2
        have HHN := hid_of han
        clear c1
        go_region_law ((refine step_own intsE (by rfl) _ _ (by rfl) (.slice uo ul uc) ul _ (by rfl) HOU.out wr.heap.size (.int .i64 (m : Int)) (by rfl) HCU.out rfl (by have := HML.out; have := HULE.out; omega) (by have := HML.out; have := HULE.out; omega) ?_; intro ao2 cap2 m2 w4 e1 e2 e3 e4; have PP := hid_of (HU4.out _ w4 ao2 cap2 m2 HDU.out e1 e2 e3 e4); clear e1 e2 e3 e4; have q5 := PP.out.1.1; have f5 := PP.out.1.2.1; have q6 := PP.out.1.2.2))
        all_goals
          obtain ⟨i4, iA, _⟩ := HHS.out _ _ _ _ _ a PP.out.2 HHN.out
          rw [← HB.out] at iA
          have HN := hid_of PP.out.2
          clear q5 f5 q6 u2 u2a h1 h1a h4
          generalize w4.setCell ⟨V.gu, a, none⟩ (.slice ao2 m2 cap2) = w5 at *
          cases b
          · go_wp2
            go_roundw
            case rel => exact ⟨j + 1, y + 1, _, by go_num, rfl, by omega, by go_num, by omega, hid_of (by rw [take_snoc_get HAJ.out, lackF_snoc, ← hy.out]; rw [if_neg (of_decide_eq_false HB.out.symm)]), HN⟩
            case measure => simp [intOf]; omega
          · go_wp2
            go_roundw
            case rel => exact ⟨j + 1, y, _, rfl, rfl, by omega, by go_num, by omega, hid_of (by rw [take_snoc_get HAJ.out, lackF_snoc, ← hy.out]; rw [if_pos (of_decide_eq_true HB.out.symm)]; rfl), HN⟩
            case measure => simp [intOf]; omega
      · have hd : decide (j < pl) = false := by simp; omega
        obtain rfl : pl = j := by omega
        have hy2 := hy.out
        rw [show p.take pl = p from List.take_of_length_le (by have := HPL.out; omega)] at hy2
        have HY := hid_of hy2
        have HIE : Hid (AdI zb (w.alloc (.cells #[.slice po pl pc, .slice qo ql qc] 90)) c n T.length V.gu V.gh R (lackR R off T) T p [] p.length [] (R.map Prod.snd) S wr) := hid_of (by rw [← HPL.out]; exact hi.out)
        rw [← HY.out] at HFIN
        clear hy2 hy hi hlt
        obtain ⟨ao, ac, ar, t1, t2, t3, t4⟩ := AdI.adds (HIE).out HCC.out HSZ.out HLQ.out HQB.out HQZ.out
        have HT4 := hid_of t4
        have tq := (HBXC.out _ _ _ _ _ (HIE).out).2
        have t1a := alloc_cell (.cells #[.slice qo ql qc] 56) t1
        have HOW : Hid (((wr.alloc (.cells #[.slice qo ql qc] 56)).drew).ownsRow 0 56 1 (.slice ao m ac) m ar) := hid_of (t3 _ (alloc_drew _ _))
        have HCN : Hid (((wr.alloc (.cells #[.slice qo ql qc] 56)).drew).cell? ⟨wr.heap.size, 0, none⟩ = some (.slice qo ql qc)) := hid_of (cell_new _ _ _)
        have HDS : Hid (Below wr.heap.size wr ((wr.alloc (.cells #[.slice qo ql qc] 56)).drew)) := hid_of (alloc_drew _ _)
        clear t2 t3 t4
        go_wp2
        go_region_law ((refine step_own rowsE (by rfl) _ _ (by rfl) (.slice ao m ac) m ar (by rfl) HOW.out wr.heap.size (.slice qo ql qc) (by rfl) HCN.out rfl (by have := HML.out; omega) (by have := HML.out; omega) ?_; intro ao2 cap2 m2 w4 e1 e2 e3 e4; have PP := hid_of (HT4.out _ w4 ao2 cap2 m2 HDS.out e1 e2 e3 e4); clear e1 e2 e3 e4; have q5 := PP.out.1.1; have f5 := PP.out.1.2))
        all_goals
          obtain ⟨lo, lc, ll, t5, t6, t7, t8⟩ := AdI.row PP.out.2 (i := 1) (x := y) (by omega) (fun i' => rlS_lack R (lackR R off T) T R.length p [] p.length y i')
          have HT8 := hid_of t8
          have HLL : Hid (ll = m) := hid_of (by rw [t5, HRF.out]; simp)
          have t6b : (w4.setCell ⟨c, 2, none⟩ (.slice ao2 m2 cap2)).cell? ⟨c, 3, none⟩ = some (.slice lo ll lc) := t6
          have HOL := hid_of (t7 ((w4.setCell ⟨c, 2, none⟩ (.slice ao2 m2 cap2)).alloc (.cells #[.int .i64 (y : Int)] 3)) (bel_alloc _ _))
          clear t5 t6 t7 t8 t1 t1a tq q5 f5
          generalize w4.setCell ⟨c, 2, none⟩ (.slice ao2 m2 cap2) = w5 at *
          have HCN2 := hid_of (cell_new w5 (.int .i64 (y : Int)) 3)
          go_wp2_with (at_builtin; refine wpList_own intsE rfl (.tmp 76) (.tmp 78) rfl (.slice lo ll lc) ll _ rfl HOL.out w5.heap.size (.int .i64 (y : Int)) rfl HCN2.out rfl (by have := HML.out; have := HLL.out; omega) (by have := HML.out; have := HLL.out; omega) ?_; intro ao3 cap3 m3 w6 e1 e2 e3 e4; have P3 := hid_of (HT8.out _ w6 ao3 cap3 m3 (bel_alloc _ _) e1 e2 e3 e4); clear e1 e2 e3 e4; have q7 : w6.cell? ⟨c, 3, none⟩ = some (.slice lo ll lc) := P3.out.1.1; have f7 : w6.frozen? ⟨c, 3, none⟩ = false := P3.out.1.2.1)
          go_end0
          exact HFIN.out _ P3.out.2
  · obtain rfl : pl = 0 := by omega
    have HP0 : Hid (p = []) := hid_of (List.eq_nil_of_length_eq_zero HPL.out.symm)
    rw [if_pos HP0.out] at HFIN
    obtain ⟨fo, fc, fl, u1, u2, u3, u4⟩ := AdI.row HA0.out (i := 0) (x := m) (by omega) (fun i' => by rw [HM.out]; exact rlS_free R (lackR R off T) T R.length p i')
    have HU4 := hid_of u4
    have u2b : (w.alloc (.cells #[.slice po 0 pc, .slice qo ql qc] 90)).cell? ⟨c, 0, none⟩ = some (.slice fo fl fc) := u2
    have HFL : Hid (fl ≤ m) := hid_of (by
      rw [u1]
      have e : rlS R (lackR R off T) T R.length p [] 0 [] 0 = freeF R := by simp [rlS]
      rw [e, HM.out]
      unfold freeF
      exact Nat.le_trans (List.length_filter_le _ _) (by simp))
    have HOF := hid_of (u3 ((w.alloc (.cells #[.slice po 0 pc, .slice qo ql qc] 90)).alloc (.cells #[.int .i64 (m : Int)] 3)) (bel_alloc _ _))
    have HCF := hid_of (cell_new (w.alloc (.cells #[.slice po 0 pc, .slice qo ql qc] 90)) (.int .i64 (m : Int)) 3)
    have hsz0 : (w.alloc (.cells #[.slice po 0 pc, .slice qo ql qc] 90)).heap.size = w.heap.size + 1 := by simp
    rw [hsz0] at HCF
    have HSZ0 := hid_of hsz0
    clear u1 u2 u3 u4 hsz0
    go_enter Try.func66, Try.ntmps66
    go_wp2_with (at_builtin; refine wpList_own intsE rfl (.tmp 21) (.tmp 23) rfl (.slice fo fl fc) fl _ rfl HOF.out (w.heap.size + 1) (.int .i64 (m : Int)) rfl HCF.out rfl (by have := HML.out; have := HFL.out; omega) (by have := HML.out; have := HFL.out; omega) ?_; intro ao2 cap2 m2 w4 e1 e2 e3 e4; have PP := hid_of (HU4.out _ w4 ao2 cap2 m2 (bel_alloc _ _) e1 e2 e3 e4); clear e1 e2 e3 e4; have q5 : w4.cell? ⟨c, 0, none⟩ = some (.slice fo fl fc) := PP.out.1.1; have f5 : w4.frozen? ⟨c, 0, none⟩ = false := PP.out.1.2.1; have q6 : (w4.setCell ⟨c, 0, none⟩ (.slice ao2 m2 cap2)).cell? ⟨w.heap.size, 0, none⟩ = some (.slice po 0 pc) := (HBXC.out _ _ _ _ _ PP.out.2).1)
    have HIB : Hid (AdI zb (w.alloc (.cells #[.slice po 0 pc, .slice qo ql qc] 90)) c n T.length V.gu V.gh R (lackR R off T) T p [m] p.length [] (R.map Prod.snd) S (w4.setCell ⟨c, 0, none⟩ (.slice ao2 m2 cap2))) := hid_of (by
      have h5 := PP.out.2
      have e : [R.length] = [m] := by rw [HM.out]
      rw [← HPL.out]
      rw [e] at h5; exact h5)
    clear q5 f5 PP k2 HA0
    generalize w4.setCell ⟨c, 0, none⟩ (.slice ao2 m2 cap2) = w7 at *
    go_loop [5, 7, 30] (fun kv xv iv => ∃ v : Value, kv = .int .i64 0 ∧ xv = v ∧ iv = .int .i64 0) (fun _ _ iv => 0)
    case atStart => exact ⟨_, rfl, rfl, rfl⟩
    case round =>
      obtain ⟨v, rfl, rfl, rfl⟩ := hrel
      have HL0 : Hid (lackF p T = 0) := hid_of (by rw [HP0.out]; rfl)
      rw [HL0.out, ← HM.out] at HFIN
      obtain ⟨ao, ac, ar, t1, t2, t3, t4⟩ := AdI.adds (HIB).out HCC.out HSZ.out HLQ.out HQB.out HQZ.out
      have HT4 := hid_of t4
      have tq := (HBXC.out _ _ _ _ _ (HIB).out).2
      have t1a := alloc_cell (.cells #[.slice qo ql qc] 56) t1
      have HOW : Hid (((w7.alloc (.cells #[.slice qo ql qc] 56)).drew).ownsRow 0 56 1 (.slice ao m ac) m ar) := hid_of (t3 _ (alloc_drew _ _))
      have HCN : Hid (((w7.alloc (.cells #[.slice qo ql qc] 56)).drew).cell? ⟨w7.heap.size, 0, none⟩ = some (.slice qo ql qc)) := hid_of (cell_new _ _ _)
      have HDS : Hid (Below w7.heap.size w7 ((w7.alloc (.cells #[.slice qo ql qc] 56)).drew)) := hid_of (alloc_drew _ _)
      clear t2 t3 t4
      go_wp2
      go_region_law ((refine step_own rowsE (by rfl) _ _ (by rfl) (.slice ao m ac) m ar (by rfl) HOW.out w7.heap.size (.slice qo ql qc) (by rfl) HCN.out rfl (by have := HML.out; omega) (by have := HML.out; omega) ?_; intro ao2 cap2 m2 w4 e1 e2 e3 e4; have PP := hid_of (HT4.out _ w4 ao2 cap2 m2 HDS.out e1 e2 e3 e4); clear e1 e2 e3 e4; have q5 := PP.out.1.1; have f5 := PP.out.1.2))
      all_goals
        obtain ⟨lo, lc, ll, t5, t6, t7, t8⟩ := AdI.row PP.out.2 (i := 1) (x := 0) (by omega) (fun i' => rlS_lack R (lackR R off T) T R.length p [m] p.length 0 i')
        have HT8 := hid_of t8
        have HLL : Hid (ll = m) := hid_of (by rw [t5, HRF.out]; simp)
        have t6b : (w4.setCell ⟨c, 2, none⟩ (.slice ao2 m2 cap2)).cell? ⟨c, 3, none⟩ = some (.slice lo ll lc) := t6
        have HOL := hid_of (t7 ((w4.setCell ⟨c, 2, none⟩ (.slice ao2 m2 cap2)).alloc (.cells #[.int .i64 ((0 : Nat) : Int)] 3)) (bel_alloc _ _))
        clear t5 t6 t7 t8 t1 t1a tq q5 f5
        generalize w4.setCell ⟨c, 2, none⟩ (.slice ao2 m2 cap2) = w5 at *
        have HCN2 := hid_of (cell_new w5 (.int .i64 ((0 : Nat) : Int)) 3)
        go_wp2_with (at_builtin; refine wpList_own intsE rfl (.tmp 76) (.tmp 78) rfl (.slice lo ll lc) ll _ rfl HOL.out w5.heap.size (.int .i64 ((0 : Nat) : Int)) rfl HCN2.out rfl (by have := HML.out; have := HLL.out; omega) (by have := HML.out; have := HLL.out; omega) ?_; intro ao3 cap3 m3 w6 e1 e2 e3 e4; have P3 := hid_of (HT8.out _ w6 ao3 cap3 m3 (bel_alloc _ _) e1 e2 e3 e4); clear e1 e2 e3 e4; have q7 : w6.cell? ⟨c, 3, none⟩ = some (.slice lo ll lc) := P3.out.1.1; have f7 : w6.frozen? ⟨c, 3, none⟩ = false := P3.out.1.2.1)
        go_end0
        exact HFIN.out _ P3.out.2
end Go.Proofs.Ytjponegeidiheaa
