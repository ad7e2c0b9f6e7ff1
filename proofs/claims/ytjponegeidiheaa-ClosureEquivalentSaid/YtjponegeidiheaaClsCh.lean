/- The chase in memory: its struct, its rows, and what a step does to them. -/
import Derived.Test.YtjponegeidiheaaClsMath
import Derived.Test.YtjponegeidiheaaRow
namespace Go.Proofs.Ytjponegeidiheaa
open Go.RowKit

def ints (l : List Nat) : List Value := l.map fun (n : Nat) => .int .i64 (n : Int)
theorem ints_length (l : List Nat) : (ints l).length = l.length := by simp [ints]
theorem ints_one (l : List Nat) : ∀ u ∈ ints l, u.oneCell' = true := by
  intro u hu
  obtain ⟨y, _, rfl⟩ := List.mem_map.1 hu
  rfl
theorem ints_append (a b : List Nat) : ints (a ++ b) = ints a ++ ints b := by simp [ints]
theorem ints_get {l : List Nat} {i x : Nat} (h : l[i]? = some x) : (ints l)[i]? = some (.int .i64 (x : Int)) := by simp [ints, h]
theorem ints_take (l : List Nat) (i : Nat) : (ints l).take i = ints (l.take i) := by simp [ints, List.map_take]
theorem ints_set (l : List Nat) (i x : Nat) : (ints l).set i (.int .i64 (x : Int)) = ints (l.set i x) := by simp [ints, List.map_set]
theorem own_blk {W : World} {B e n k : Nat} {v : Value} {xs : List Value} (ho : W.ownsRow B e 1 v n xs) (hk : v.ownBlock = some k) : ∃ cur, W.heap[k]? = some (.cells cur e (0, 0)) := by
  rcases ho.2 with ⟨e, _⟩ | ⟨q, cap, cur, e, _, h2, _⟩
  · rw [e] at hk; cases hk
  · rw [e] at hk
    simp only [Value.ownBlock, Option.some.injEq] at hk
    subst hk
    exact ⟨_, h2⟩
theorem own_lt {W : World} {B e n k : Nat} {v : Value} {xs : List Value} (ho : W.ownsRow B e 1 v n xs) (hk : v.ownBlock = some k) : k < W.heap.size := (ho.lt k hk).2
theorem own_type {W : World} {B B2 e e2 n n2 k : Nat} {v v2 : Value} {xs xs2 : List Value} (ho : W.ownsRow B e 1 v n xs) (hk : v.ownBlock = some k) (ho2 : W.ownsRow B2 e2 1 v2 n2 xs2) (he : e ≠ e2) : v2.ownBlock ≠ some k := by
  intro h
  obtain ⟨c1, h1⟩ := own_blk ho hk
  obtain ⟨c2, h2⟩ := own_blk ho2 h
  rw [h1] at h2
  simp only [Option.some.injEq, Obj.cells.injEq] at h2
  exact he h2.2.1
/-- A row of the call's own is not a block of another type. -/
theorem own_ne {W : World} {B e e2 n k b : Nat} {v : Value} {xs : List Value} {cs : Array Value} {m : Nat × Nat} (ho : W.ownsRow B e 1 v n xs) (hk : v.ownBlock = some k) (hb : W.heap[b]? = some (.cells cs e2 m)) (he : e ≠ e2) : k ≠ b := by
  rintro rfl
  obtain ⟨c1, h1⟩ := own_blk ho hk
  rw [h1] at hb
  simp only [Option.some.injEq, Obj.cells.injEq] at hb
  exact he hb.2.1
theorem blk_ne {W : World} {k b e e2 : Nat} {cs cs2 : Array Value} {m m2 : Nat × Nat} (h : W.heap[k]? = some (.cells cs e m)) (hb : W.heap[b]? = some (.cells cs2 e2 m2)) (he : e ≠ e2) : k ≠ b := by
  rintro rfl
  rw [h] at hb
  simp only [Option.some.injEq, Obj.cells.injEq] at hb
  exact he hb.2.1
/-- What is owned reads as a slice. -/
theorem own_rd {W : World} {B e n : Nat} {v : Value} {xs : List Value} (h : W.ownsRow B e 1 v n xs) : Rd W v xs := by
  obtain ⟨h1, h2⟩ := h
  rw [Nat.mul_one] at h1
  rcases h2 with ⟨rfl, rfl⟩ | ⟨g, c, cur, rfl, _, hg, hnc, hcm, _, ht⟩
  · exact ⟨none, 0, by rw [h1], by omega, by omega, fun h => by omega⟩
  · unfold maxLen at hcm
    refine ⟨_, c, by rw [h1], by rw [h1]; exact hnc, by omega, fun h0 => ⟨g, 0, rfl, lt_of_block hg, fun j u hu => ?_⟩⟩
    have := World.news_of_block hg j u (by
      rw [← ht, List.getElem?_take] at hu
      split at hu
      · exact hu
      · cases hu)
    rw [Addr.add_mid] at this
    exact this
theorem blk_cell {w : World} {g t : Nat} {cs : List Value} (h : w.heap[g]? = some (.cells cs.toArray t (0, 0))) {j : Nat} {u : Value} (hu : cs[j]? = some u) : w.cell? ⟨g, j, none⟩ = some u := by
  have := World.news_of_block h j u hu
  rw [Addr.add_mid, Nat.zero_add] at this
  exact this
theorem blk_free {w : World} {g t : Nat} {cs : List Value} (h : w.heap[g]? = some (.cells cs.toArray t (0, 0))) (j : Nat) : w.frozen? ⟨g, j, none⟩ = false := by
  simp [World.frozen?, h]
theorem own_cell {W : World} {B e n cap g : Nat} {xs : List Value} (h : W.ownsRow B e 1 (.slice (some ⟨g, 0, none⟩) n cap) n xs) {j : Nat} {u : Value} (hu : xs[j]? = some u) : W.cell? ⟨g, j, none⟩ = some u := by
  have := h.cells (g := g) rfl j u hu
  rw [Addr.add_mid, Nat.zero_add] at this
  exact this
theorem own_free {W : World} {B e n cap g : Nat} {xs : List Value} (h : W.ownsRow B e 1 (.slice (some ⟨g, 0, none⟩) n cap) n xs) (j : Nat) : W.frozen? ⟨g, j, none⟩ = false := by
  obtain ⟨cur, hc⟩ := own_blk h (k := g) rfl
  simp [World.frozen?, hc]
theorem own_set {w : World} {B E n j : Nat} {cap : Nat} {g : Nat} {xs : List Value} (h : w.ownsRow B E 1 (.slice (some ⟨g, 0, none⟩) n cap) n xs) (u : Value) :
    (w.setCell ⟨g, j, none⟩ u).ownsRow B E 1 (.slice (some ⟨g, 0, none⟩) n cap) n (xs.set j u) := by
  obtain ⟨h1, h2⟩ := h
  refine ⟨by rw [List.length_set]; exact h1, ?_⟩
  rcases h2 with ⟨h2, _⟩ | ⟨g2, cap2, cur, hv, hb, hg, hnc, hcm, hsz, ht⟩
  · cases h2
  · simp only [Value.slice.injEq, Option.some.injEq, Addr.mk.injEq] at hv
    obtain ⟨⟨rfl, _⟩, _, rfl⟩ := hv
    have hg' : w.heap[g]? = some (.cells (cur.toList).toArray E (0, 0)) := by simpa using hg
    have h3 := blk_setCell (k := j) (u := u) hg'
    refine .inr ⟨g, cap, (cur.toList.set j u).toArray, rfl, hb, h3, hnc, hcm, by simpa using hsz, ?_⟩
    rw [List.take_set, ht]
theorem own_shape2 {W : World} {B e n : Nat} {v : Value} {xs : List Value} (h : W.ownsRow B e 1 v n xs) : (v = .slice none 0 0 ∧ n = 0) ∨ ∃ g cap, v = .slice (some ⟨g, 0, none⟩) n cap ∧ g < W.heap.size ∧ n ≤ cap ∧ cap ≤ 9223372036854775807 := by
  rcases h.2 with h | ⟨g, cap, cur, h1, _, h2, h3, h4, _⟩
  · exact .inl h
  · unfold maxLen at h4
    exact .inr ⟨g, cap, h1, lt_of_block h2, h3, h4⟩
/-- A part of a row of the call's own, from its beginning. -/
theorem own_take {W : World} {B e n cap m : Nat} {ao : Option Addr} {xs : List Value} (h : W.ownsRow B e 1 (.slice ao n cap) n xs) (hm : m ≤ n) : W.ownsRow B e 1 (.slice ao m cap) m (xs.take m) := by
  obtain ⟨h1, h2⟩ := h
  refine ⟨by rw [List.length_take]; omega, ?_⟩
  rcases h2 with ⟨h2, h3⟩ | ⟨g2, cap2, cur, hv, hb, hg, hnc, hcm, hsz, ht⟩
  · simp only [Value.slice.injEq] at h2
    exact .inl ⟨by rw [h2.1, h2.2.2, show m = 0 by omega], by omega⟩
  · simp only [Value.slice.injEq] at hv
    obtain ⟨rfl, _, rfl⟩ := hv
    refine .inr ⟨g2, cap, cur, rfl, hb, hg, by omega, hcm, hsz, ?_⟩
    rw [← ht, List.take_take]
    congr 1
    omega

/-- What has turned from w to w': blocks of S and new ones; what S' has is S's, or new. -/
structure Chg (S S' : Nat → Prop) (w w' : World) : Prop where
  kept : Kept S w w'
  sub : ∀ k, S' k → S k ∨ w.heap.size ≤ k
theorem Chg.refl (S : Nat → Prop) (w : World) : Chg S S w w := ⟨Kept.refl _ _, fun _ h => .inl h⟩
theorem Chg.trans {S S1 S2 : Nat → Prop} {w w1 w2 : World} (h : Chg S S1 w w1) (h2 : Chg S1 S2 w1 w2) : Chg S S2 w w2 := by
  refine ⟨⟨h2.kept.os.trans h.kept.os, h2.kept.tape.trans h.kept.tape, h2.kept.output.trans h.kept.output, Nat.le_trans h.kept.size h2.kept.size, fun k hk hs => ?_⟩, fun k hk => ?_⟩
  · rw [h2.kept.block k (Nat.lt_of_lt_of_le hk h.kept.size) (fun h1 => by rcases h.sub k h1 with h3 | h3; exact hs h3; omega), h.kept.block k hk hs]
  · rcases h2.sub k hk with h1 | h1
    · exact h.sub k h1
    · exact .inr (Nat.le_trans h.kept.size h1)
theorem Chg.below {S S' : Nat → Prop} {w w' : World} {B : Nat} (h : Chg S S' w w') (hB : B ≤ w.heap.size) (hS : ∀ k, S k → B ≤ k) : Below B w w' := h.kept.below hB hS
theorem Chg.ofBelow {S : Nat → Prop} {w w' : World} (h : Below w.heap.size w w') : Chg S S w w' := ⟨Kept.ofBelow h, fun _ h => .inl h⟩
theorem Chg.drew {S S' : Nat → Prop} {w w' : World} (h : Chg S S' w w') : Chg S S' w w'.drew := ⟨h.kept.drew, h.sub⟩
theorem Chg.own {S S' : Nat → Prop} {w w' : World} {B e n : Nat} {v : Value} {xs : List Value} (h : Chg S S' w w') (ho : w.ownsRow B e 1 v n xs) (hn : ∀ g, v.ownBlock = some g → ¬ S g) : w'.ownsRow B e 1 v n xs :=
  own_same ho fun k hk => h.kept.block k (own_lt ho hk) (hn k hk)
theorem Chg.rd {S S' : Nat → Prop} {w w' : World} {v : Value} {xs : List Value} (h : Chg S S' w w') (hr : Rd w v xs) (hn : ∀ g, v.ownBlock = some g → ¬ S g) : Rd w' v xs := by
  obtain ⟨ao, cap, rfl, h2, h3, h4⟩ := hr
  refine ⟨ao, cap, rfl, h2, h3, fun h0 => ?_⟩
  obtain ⟨g, o, rfl, q2, q3⟩ := h4 h0
  refine ⟨g, o, rfl, Nat.lt_of_lt_of_le q2 h.kept.size, fun j u hu => ?_⟩
  have := q3 j u hu
  unfold World.cell? at this ⊢
  rw [h.kept.block g q2 (hn g rfl)]
  exact this
theorem Chg.blk {S S' : Nat → Prop} {w w' : World} (h : Chg S S' w w') {k : Nat} {ob : Obj} (hk : w.heap[k]? = some ob) (hs : ¬ S k) : w'.heap[k]? = some ob := by
  rw [h.kept.block k (Array.getElem?_eq_some_iff.1 hk).1 hs]; exact hk

/-- The values of the fields of a chase. -/
structure CV where
  fv : Value
  av : Value
  lv : Value
  tv : Value
  gu : Nat
  gh : Nat
  ur : List Value
  ar : List Value
def bools (n : Nat) (hs : Nat → Bool) : List Value := (List.range n).map fun i => .bool (hs i)
theorem bools_get {n i : Nat} (hs : Nat → Bool) (h : i < n) : (bools n hs)[i]? = some (.bool (hs i)) := by simp [bools, h]
theorem bools_set {m : Nat} (hs : Nat → Bool) (i : Nat) (x : Bool) : (bools m hs).set i (.bool x) = bools m (fun j => if j = i then x else hs j) := by
  unfold bools
  apply List.ext_getElem?
  intro j
  rw [List.getElem?_set]
  by_cases hj : j < m
  · by_cases e : i = j
    · subst e; simp [hj]
    · simp [hj, e, Ne.symm e]
  · by_cases e : i = j
    · subst e; rw [if_pos rfl, if_neg (by simpa using hj), List.getElem?_eq_none (by simp; omega)]
    · rw [if_neg e, List.getElem?_eq_none (by simp; omega), List.getElem?_eq_none (by simp; omega)]
theorem bools_congr {m : Nat} {f g : Nat → Bool} (h : ∀ i, i < m → f i = g i) : bools m f = bools m g := by
  unfold bools
  exact List.map_congr_left fun x hx => by rw [h x (by simpa using hx)]
def lks (m : Nat) (lk : Nat → Nat) : List Value := ints ((List.range m).map lk)
theorem lks_get {m i : Nat} (lk : Nat → Nat) (h : i < m) : (lks m lk)[i]? = some (.int .i64 (lk i : Int)) := by simp [lks, ints, h]
theorem lks_set {m : Nat} (lk : Nat → Nat) (i x : Nat) : (lks m lk).set i (.int .i64 (x : Int)) = lks m (fun j => if j = i then x else lk j) := by
  unfold lks
  rw [ints_set]
  congr 1
  apply List.ext_getElem?
  intro j
  rw [List.getElem?_set]
  by_cases hj : j < m
  · by_cases e : i = j
    · subst e; simp [hj]
    · simp [hj, e, Ne.symm e]
  · by_cases e : i = j
    · subst e; rw [if_pos rfl, if_neg (by simpa using hj), List.getElem?_eq_none (by simp; omega)]
    · rw [if_neg e, List.getElem?_eq_none (by simp; omega), List.getElem?_eq_none (by simp; omega)]
theorem lks_congr {m : Nat} {f g : Nat → Nat} (h : ∀ i, i < m → f i = g i) : lks m f = lks m g := by
  unfold lks
  congr 1
  exact List.map_congr_left fun x hx => h x (by simpa using hx)
/-- The rules without premises. -/
def freeF (R : List Hrl) : List Nat := (List.range R.length).filter fun i => decide (prem R i = [])
def cvCells (V : CV) (n k : Nat) : List Value := [V.fv, .slice (some ⟨V.gu, 0, none⟩) n n, V.av, V.lv, .slice (some ⟨V.gh, 0, none⟩) n n, V.tv, .int .i64 (k : Int)]
/-- A chase in block c: n names, rules R, lk what they lack, the trail T, of which k are counted; S: the blocks that are its own. -/
structure CH (w : World) (c n : Nat) (R : List Hrl) (lk : Nat → Nat) (hs : Nat → Bool) (T : List Nat) (k : Nat) (V : CV) (S : Nat → Prop) : Prop where
  blk : w.heap[c]? = some (.cells (cvCells V n k).toArray 84 (0, 0))
  fr : w.ownsRow 0 3 1 V.fv (freeF R).length (ints (freeF R))
  uu : w.heap[V.gu]? = some (.cells V.ur.toArray 56 (0, 0))
  ul : V.ur.length = n
  us : ∀ (i : Nat) (v : Value), V.ur[i]? = some v → w.ownsRow 0 3 1 v (usesF R i).length (ints (usesF R i))
  ad : w.ownsRow 0 56 1 V.av R.length V.ar
  ai : ∀ (i : Nat) (v : Value), V.ar[i]? = some v → Rd w v (ints (conc R i)) ∧ ∀ g, v.ownBlock = some g → g < w.heap.size ∧ ¬ S g
  la : w.ownsRow 0 3 1 V.lv R.length (lks R.length lk)
  ha : w.heap[V.gh]? = some (.cells (bools n hs).toArray 4 (0, 0))
  tr : w.ownsRow 0 3 1 V.tv T.length (ints T)
  sc : S c
  sf : ∀ g, V.fv.ownBlock = some g → S g
  su : S V.gu
  sr : ∀ (i : Nat) (v : Value), V.ur[i]? = some v → ∀ g, v.ownBlock = some g → S g
  sa : ∀ g, V.av.ownBlock = some g → S g
  sl : ∀ g, V.lv.ownBlock = some g → S g
  sh : S V.gh
  st : ∀ g, V.tv.ownBlock = some g → S g
  fl : ∀ g, V.fv.ownBlock = some g → V.lv.ownBlock ≠ some g
  ft : ∀ g, V.fv.ownBlock = some g → V.tv.ownBlock ≠ some g
  lt : ∀ g, V.lv.ownBlock = some g → V.tv.ownBlock ≠ some g
  rf : ∀ (i : Nat) (v : Value), V.ur[i]? = some v → ∀ g, v.ownBlock = some g → V.fv.ownBlock ≠ some g
  rl : ∀ (i : Nat) (v : Value), V.ur[i]? = some v → ∀ g, v.ownBlock = some g → V.lv.ownBlock ≠ some g
  rt : ∀ (i : Nat) (v : Value), V.ur[i]? = some v → ∀ g, v.ownBlock = some g → V.tv.ownBlock ≠ some g
  rr : ∀ (i j : Nat) (u v : Value), i ≠ j → V.ur[i]? = some u → V.ur[j]? = some v → ∀ g, u.ownBlock = some g → v.ownBlock ≠ some g
  au : ∀ g, V.av.ownBlock = some g → g ≠ V.gu
  sz : ∀ g, S g → g < w.heap.size
  nd : T.Nodup
  tn : ∀ x ∈ T, x < n
  rn : ∀ i x, i < R.length → x ∈ conc R i → x < n
  pn : ∀ i, i < R.length → (prem R i).Nodup ∧ ∀ x ∈ prem R i, x < n
section
variable {w w' : World} {c n : Nat} {R : List Hrl} {lk : Nat → Nat} {hs : Nat → Bool} {T : List Nat} {k : Nat} {V : CV} {S : Nat → Prop}
/-- What happens elsewhere. -/
theorem CH.same (h : CH w c n R lk hs T k V S) (hq : ∀ g, S g → w'.heap[g]? = w.heap[g]?) (hr : ∀ (i : Nat) (v : Value), V.ar[i]? = some v → Rd w' v (ints (conc R i))) (hz : w.heap.size ≤ w'.heap.size) : CH w' c n R lk hs T k V S :=
  ⟨(hq _ h.sc).trans h.blk, own_same h.fr fun g hg => hq g (h.sf g hg), (hq _ h.su).trans h.uu, h.ul, fun i v hv => own_same (h.us i v hv) fun g hg => hq g (h.sr i v hv g hg), own_same h.ad fun g hg => hq g (h.sa g hg),
   fun i v hv => ⟨hr i v hv, fun g hg => ⟨Nat.lt_of_lt_of_le ((h.ai i v hv).2 g hg).1 hz, ((h.ai i v hv).2 g hg).2⟩⟩, own_same h.la fun g hg => hq g (h.sl g hg), (hq _ h.sh).trans h.ha, own_same h.tr fun g hg => hq g (h.st g hg),
   h.sc, h.sf, h.su, h.sr, h.sa, h.sl, h.sh, h.st, h.fl, h.ft, h.lt, h.rf, h.rl, h.rt, h.rr, h.au, fun g hg => Nat.lt_of_lt_of_le (h.sz g hg) hz, h.nd, h.tn, h.rn, h.pn⟩
theorem CH.at (h : CH w c n R lk hs T k V S) (hb : Below w.heap.size w w') : CH w' c n R lk hs T k V S :=
  h.same (fun g hg => hb.block g (h.sz g hg)) (fun i v hv => (h.ai i v hv).1.at hb) hb.size
/-- What another's change has let alone. -/
theorem CH.chg {F F' : Nat → Prop} (h : CH w c n R lk hs T k V S) (hc : Chg F F' w w') (hF : ∀ g, S g → ¬ F g) (hA : ∀ (i : Nat) (v : Value), V.ar[i]? = some v → ∀ g, v.ownBlock = some g → ¬ F g) : CH w' c n R lk hs T k V S :=
  h.same (fun g hg => hc.kept.block g (h.sz g hg) (hF g hg)) (fun i v hv => hc.rd (h.ai i v hv).1 (hA i v hv)) hc.kept.size
theorem CH.cell (h : CH w c n R lk hs T k V S) {j : Nat} {u : Value} (hu : (cvCells V n k)[j]? = some u) : w.cell? ⟨c, j, none⟩ = some u := blk_cell h.blk hu
theorem CH.free (h : CH w c n R lk hs T k V S) (j : Nat) : w.frozen? ⟨c, j, none⟩ = false := blk_free h.blk j
theorem CH.hasc (h : CH w c n R lk hs T k V S) {i : Nat} (hi : i < n) : w.cell? ⟨V.gh, i, none⟩ = some (.bool (hs i)) := blk_cell h.ha (bools_get hs hi)
theorem CH.hasf (h : CH w c n R lk hs T k V S) (i : Nat) : w.frozen? ⟨V.gh, i, none⟩ = false := blk_free h.ha i

/-- A store into the block b of S: all but that block is as it was. -/
theorem set_other {b j : Nat} {u : Value} {g : Nat} (hg : g ≠ b) : (w.setCell ⟨b, j, none⟩ u).heap[g]? = w.heap[g]? := Below.heap_setCell _ _ _ _ hg
theorem rd_set {b j : Nat} {u v : Value} {xs : List Value} (hr : Rd w v xs) (hn : ∀ g, v.ownBlock = some g → g ≠ b) : Rd (w.setCell ⟨b, j, none⟩ u) v xs := by
  obtain ⟨ao, cap, rfl, h2, h3, h4⟩ := hr
  refine ⟨ao, cap, rfl, h2, h3, fun h0 => ?_⟩
  obtain ⟨g, o, rfl, q2, q3⟩ := h4 h0
  refine ⟨g, o, rfl, by simpa using q2, fun i u hu => ?_⟩
  have := q3 i u hu
  unfold World.cell? at this ⊢
  rw [set_other (hn g rfl)]
  exact this
theorem chg_set {b j : Nat} {u : Value} (hb : S b) : Chg S S w (w.setCell ⟨b, j, none⟩ u) :=
  ⟨⟨rfl, rfl, rfl, by simp, fun g _ hs => set_other (fun e => hs (e ▸ hb))⟩, fun _ h => .inl h⟩

/-- lacking[i] is stored. -/
theorem CH.setLack (h : CH w c n R lk hs T k V S) {g cap i x : Nat} (hv : V.lv = .slice (some ⟨g, 0, none⟩) R.length cap) : CH (w.setCell ⟨g, i, none⟩ (.int .i64 (x : Int))) c n R (fun j => if j = i then x else lk j) hs T k V S := by
  have hlb : V.lv.ownBlock = some g := by rw [hv]; rfl
  have o : ∀ a, a ≠ g → (w.setCell ⟨g, i, none⟩ (.int .i64 (x : Int))).heap[a]? = w.heap[a]? := fun a ha => set_other ha
  have hl := h.la
  rw [hv] at hl
  have tI : ∀ {b e : Nat} {cs : Array Value} {m : Nat × Nat}, w.heap[b]? = some (.cells cs e m) → 3 ≠ e → b ≠ g := fun hb he => (own_ne h.la hlb hb he).symm
  refine ⟨(o _ (tI h.blk (by decide))).trans h.blk, own_same h.fr fun a ha => o a (fun e => h.fl a ha (by rw [hlb, e])), (o _ (tI h.uu (by decide))).trans h.uu, h.ul,
    fun j v hj => own_same (h.us j v hj) fun a ha => o a (fun e => h.rl j v hj a ha (by rw [hlb, e])), own_same h.ad fun a ha => o a (fun e => own_type h.ad ha h.la (by decide) (by rw [hlb, e])),
    fun j v hj => ⟨rd_set (h.ai j v hj).1 fun a ha e => ((h.ai j v hj).2 a ha).2 (h.sl a (by rw [hlb, e])), fun a ha => by have := (h.ai j v hj).2 a ha; simpa using this⟩, ?_, (o _ (tI h.ha (by decide))).trans h.ha, own_same h.tr fun a ha => o a (fun e => h.lt g hlb (by rw [← e]; exact ha)),
    h.sc, h.sf, h.su, h.sr, h.sa, h.sl, h.sh, h.st, h.fl, h.ft, h.lt, h.rf, h.rl, h.rt, h.rr, h.au, fun a ha => by have := h.sz a ha; simpa using this, h.nd, h.tn, h.rn, h.pn⟩
  rw [hv, ← lks_set]
  exact own_set hl _
/-- counted is stored. -/
theorem CH.setCount (h : CH w c n R lk hs T k V S) (k' : Nat) : CH (w.setCell ⟨c, 6, none⟩ (.int .i64 (k' : Int))) c n R lk hs T k' V S := by
  have o : ∀ a, a ≠ c → (w.setCell ⟨c, 6, none⟩ (.int .i64 (k' : Int))).heap[a]? = w.heap[a]? := fun a ha => set_other ha
  have tO : ∀ {B e m a : Nat} {v : Value} {xs : List Value}, w.ownsRow B e 1 v m xs → e ≠ 84 → v.ownBlock = some a → a ≠ c := fun ho he ha => own_ne ho ha h.blk he
  refine ⟨?_, own_same h.fr fun a ha => o a (tO h.fr (by decide) ha), (o _ (blk_ne h.uu h.blk (by decide))).trans h.uu, h.ul,
    fun j v hj => own_same (h.us j v hj) fun a ha => o a (tO (h.us j v hj) (by decide) ha), own_same h.ad fun a ha => o a (tO h.ad (by decide) ha),
    fun j v hj => ⟨rd_set (h.ai j v hj).1 fun a ha e => ((h.ai j v hj).2 a ha).2 (by rw [e]; exact h.sc), fun a ha => by have := (h.ai j v hj).2 a ha; simpa using this⟩, own_same h.la fun a ha => o a (tO h.la (by decide) ha), (o _ (blk_ne h.ha h.blk (by decide))).trans h.ha, own_same h.tr fun a ha => o a (tO h.tr (by decide) ha),
    h.sc, h.sf, h.su, h.sr, h.sa, h.sl, h.sh, h.st, h.fl, h.ft, h.lt, h.rf, h.rl, h.rt, h.rr, h.au, fun a ha => by have := h.sz a ha; simpa using this, h.nd, h.tn, h.rn, h.pn⟩
  exact blk_setCell (k := 6) (u := .int .i64 (k' : Int)) h.blk
/-- has[i] is stored. -/
theorem CH.setHas (h : CH w c n R lk hs T k V S) (i : Nat) (b : Bool) : CH (w.setCell ⟨V.gh, i, none⟩ (.bool b)) c n R lk (fun j => if j = i then b else hs j) T k V S := by
  have o : ∀ a, a ≠ V.gh → (w.setCell ⟨V.gh, i, none⟩ (.bool b)).heap[a]? = w.heap[a]? := fun a ha => set_other ha
  have tO : ∀ {B e m a : Nat} {v : Value} {xs : List Value}, w.ownsRow B e 1 v m xs → e ≠ 4 → v.ownBlock = some a → a ≠ V.gh := fun ho he ha => own_ne ho ha h.ha he
  refine ⟨(o _ (blk_ne h.blk h.ha (by decide))).trans h.blk, own_same h.fr fun a ha => o a (tO h.fr (by decide) ha), (o _ (blk_ne h.uu h.ha (by decide))).trans h.uu, h.ul,
    fun j v hj => own_same (h.us j v hj) fun a ha => o a (tO (h.us j v hj) (by decide) ha), own_same h.ad fun a ha => o a (tO h.ad (by decide) ha),
    fun j v hj => ⟨rd_set (h.ai j v hj).1 fun a ha e => ((h.ai j v hj).2 a ha).2 (by rw [e]; exact h.sh), fun a ha => by have := (h.ai j v hj).2 a ha; simpa using this⟩, own_same h.la fun a ha => o a (tO h.la (by decide) ha), ?_, own_same h.tr fun a ha => o a (tO h.tr (by decide) ha),
    h.sc, h.sf, h.su, h.sr, h.sa, h.sl, h.sh, h.st, h.fl, h.ft, h.lt, h.rf, h.rl, h.rt, h.rr, h.au, fun a ha => by have := h.sz a ha; simpa using this, h.nd, h.tn, h.rn, h.pn⟩
  rw [← bools_set]
  exact blk_setCell (k := i) (u := .bool b) h.ha
theorem CH.conv (h : CH w c n R lk hs T k V S) {lk' : Nat → Nat} {hs' : Nat → Bool} (h1 : ∀ i, i < R.length → lk i = lk' i) (h2 : ∀ i, i < n → hs i = hs' i) : CH w c n R lk' hs' T k V S :=
  { h with la := by rw [← lks_congr h1]; exact h.la, ha := by rw [← bools_congr h2]; exact h.ha }
/-- Another trail: the append of one name. -/
theorem CH.push (h : CH w c n R lk hs T k V S) {x : Nat} (hx : x ∉ T) (hn : x < n) {w1 w2 : World} {v' : Value} (hb : Below w.heap.size w w1) (hown : w2.ownsRow 0 3 1 v' (T.length + 1) (ints T ++ [.int .i64 (x : Int)])) (hg : w1.grownBy w2 V.tv.ownBlock)
    (hf : v'.ownBlock = V.tv.ownBlock ∨ v'.ownBlock = some w1.heap.size) :
    CH (w2.setCell ⟨c, 5, none⟩ v') c n R lk hs (T ++ [x]) k { V with tv := v' } (fun g => S g ∨ v'.ownBlock = some g) ∧ Chg S (fun g => S g ∨ v'.ownBlock = some g) w (w2.setCell ⟨c, 5, none⟩ v') := by
  have hz := hb.size
  have hz2 := hg.size
  have o : ∀ a, a < w.heap.size → a ≠ c → V.tv.ownBlock ≠ some a → (w2.setCell ⟨c, 5, none⟩ v').heap[a]? = w.heap[a]? := fun a h1 h2 h3 => by
    rw [set_other h2, hg.block a (by omega) (fun e => h3 e.symm), hb.block a h1]
  have tC : ∀ {B e m a : Nat} {v : Value} {xs : List Value}, w.ownsRow B e 1 v m xs → e ≠ 84 → v.ownBlock = some a → a ≠ c := fun ho he ha => own_ne ho ha h.blk he
  have hnew : ∀ g, v'.ownBlock = some g → S g ∨ w.heap.size ≤ g := fun g hg2 => by
    rcases hf with hf | hf
    · exact .inl (h.st g (by rw [← hf]; exact hg2))
    · rw [hf] at hg2; simp only [Option.some.injEq] at hg2; exact .inr (by omega)
  have hlow : ∀ g, g < w.heap.size → V.tv.ownBlock ≠ some g → v'.ownBlock ≠ some g := fun g hl hne e => by
    rcases hf with hf | hf
    · exact hne (by rw [← hf]; exact e)
    · rw [hf] at e; simp only [Option.some.injEq] at e; omega
  have hblk : w2.heap[c]? = some (.cells (cvCells V n k).toArray 84 (0, 0)) := by
    rw [hg.block c (by have := lt_of_block h.blk; omega) (fun e => own_ne h.tr e.symm h.blk (by decide) rfl), hb.block c (lt_of_block h.blk)]
    exact h.blk
  have rdn : ∀ (j : Nat) (v : Value), V.ar[j]? = some v → Rd (w2.setCell ⟨c, 5, none⟩ v') v (ints (conc R j)) := fun j v hj => by
    refine rd_set ?_ fun a ha e => ((h.ai j v hj).2 a ha).2 (by rw [e]; exact h.sc)
    obtain ⟨ao, cap, rfl, h2, h3, h4⟩ := (h.ai j v hj).1
    refine ⟨ao, cap, rfl, h2, h3, fun h0 => ?_⟩
    obtain ⟨g, o, rfl, q2, q3⟩ := h4 h0
    refine ⟨g, o, rfl, by omega, fun i u hu => ?_⟩
    have := q3 i u hu
    unfold World.cell? at this ⊢
    rw [hg.block g (by omega) (fun e => ((h.ai j _ hj).2 g rfl).2 (h.st g e.symm)), hb.block g q2]
    exact this
  refine ⟨⟨?_, own_same h.fr fun a ha => o a (own_lt h.fr ha) (tC h.fr (by decide) ha) (h.ft a ha), ?_, h.ul, fun j v hj => own_same (h.us j v hj) fun a ha => o a (own_lt (h.us j v hj) ha) (tC (h.us j v hj) (by decide) ha) (h.rt j v hj a ha),
    own_same h.ad fun a ha => o a (own_lt h.ad ha) (tC h.ad (by decide) ha) (own_type h.ad ha h.tr (by decide)), fun j v hj => ⟨rdn j v hj, fun g hg2 => ⟨by have := ((h.ai j v hj).2 g hg2).1; simp; omega, fun hs2 => ?_⟩⟩,
    own_same h.la fun a ha => o a (own_lt h.la ha) (tC h.la (by decide) ha) (h.lt a ha), ?_, ?_, .inl h.sc, fun g hg => .inl (h.sf g hg), .inl h.su, fun j v hj g hg => .inl (h.sr j v hj g hg), fun g hg => .inl (h.sa g hg), fun g hg => .inl (h.sl g hg), .inl h.sh, fun g hg => .inr hg,
    h.fl, fun g hg => hlow g (own_lt h.fr hg) (h.ft g hg), fun g hg => hlow g (own_lt h.la hg) (h.lt g hg), h.rf, h.rl, fun j v hj g hg => hlow g (own_lt (h.us j v hj) hg) (h.rt j v hj g hg), h.rr, h.au, fun g hg => ?_, ?_, fun y hy => ?_, h.rn, h.pn⟩, ?_⟩
  · have := blk_setCell (k := 5) (u := v') hblk
    exact this
  · exact (o _ (lt_of_block h.uu) (blk_ne h.uu h.blk (by decide)) (fun e => own_ne h.tr e h.uu (by decide) rfl)).trans h.uu
  · have h6 := (h.ai j v hj).2 g hg2
    rcases hs2 with hs2 | hs2
    · exact h6.2 hs2
    · rcases hnew g hs2 with h5 | h5
      · exact h6.2 h5
      · have := h6.1; omega
  · exact (o _ (lt_of_block h.ha) (blk_ne h.ha h.blk (by decide)) (fun e => own_ne h.tr e h.ha (by decide) rfl)).trans h.ha
  · rw [List.length_append, List.length_singleton, ints_append]
    exact own_same hown fun a ha => set_other (fun e => by
      obtain ⟨cur, hc⟩ := own_blk hown ha
      rw [e, hblk] at hc
      simp only [Option.some.injEq, Obj.cells.injEq] at hc
      exact absurd hc.2.1 (by decide))
  · rcases hg with hg | hg
    · have := h.sz g hg; simp; omega
    · have := own_lt hown hg; simpa using this
  · rw [List.nodup_append]
    exact ⟨h.nd, by simp, by rintro a ha b hb rfl; simp at hb; exact hx (hb ▸ ha)⟩
  · rcases List.mem_append.1 hy with hy | hy
    · exact h.tn y hy
    · rw [List.mem_singleton.1 hy]; exact hn
  · refine ⟨⟨hg.os.trans hb.os, hg.tape.trans hb.tape, hg.output.trans hb.output, by simp; omega, fun g h1 h2 => o g h1 (fun e => h2 (e ▸ h.sc)) (fun e => h2 (h.st g e))⟩, fun g hg2 => ?_⟩
    rcases hg2 with hg2 | hg2
    · exact .inl hg2
    · exact hnew g hg2
/-- Another trail: a part of it, from its beginning. -/
theorem CH.cut (h : CH w c n R lk hs T k V S) {ao : Option Addr} {cap m : Nat} (hv : V.tv = .slice ao T.length cap) (hm : m ≤ T.length) : CH (w.setCell ⟨c, 5, none⟩ (.slice ao m cap)) c n R lk hs (T.take m) k { V with tv := .slice ao m cap } S := by
  have o : ∀ a, a ≠ c → (w.setCell ⟨c, 5, none⟩ (.slice ao m cap)).heap[a]? = w.heap[a]? := fun a ha => set_other ha
  have tO : ∀ {B e m a : Nat} {v : Value} {xs : List Value}, w.ownsRow B e 1 v m xs → e ≠ 84 → v.ownBlock = some a → a ≠ c := fun ho he ha => own_ne ho ha h.blk he
  have hob : ∀ g, (Value.slice ao m cap).ownBlock = some g → V.tv.ownBlock = some g := fun g hg => by rw [hv]; cases ao <;> exact hg
  have ht := h.tr
  rw [hv] at ht
  refine ⟨?_, own_same h.fr fun a ha => o a (tO h.fr (by decide) ha), (o _ (blk_ne h.uu h.blk (by decide))).trans h.uu, h.ul,
    fun j v hj => own_same (h.us j v hj) fun a ha => o a (tO (h.us j v hj) (by decide) ha), own_same h.ad fun a ha => o a (tO h.ad (by decide) ha),
    fun j v hj => ⟨rd_set (h.ai j v hj).1 fun a ha e => ((h.ai j v hj).2 a ha).2 (by rw [e]; exact h.sc), fun a ha => by have := (h.ai j v hj).2 a ha; simpa using this⟩, own_same h.la fun a ha => o a (tO h.la (by decide) ha), (o _ (blk_ne h.ha h.blk (by decide))).trans h.ha, ?_,
    h.sc, h.sf, h.su, h.sr, h.sa, h.sl, h.sh, fun g hg => h.st g (hob g hg), h.fl, fun g hg e => h.ft g hg (hob g e), fun g hg e => h.lt g hg (hob g e), h.rf, h.rl, fun j v hj g hg e => h.rt j v hj g hg (hob g e), h.rr, h.au, fun a ha => by have := h.sz a ha; simpa using this,
    List.Nodup.sublist (List.take_sublist _ _) h.nd, fun x hx => h.tn x (List.mem_of_mem_take hx), h.rn, h.pn⟩
  · exact blk_setCell (k := 5) (u := .slice ao m cap) h.blk
  · have := own_take ht hm
    rw [List.length_take, Nat.min_eq_left hm, ← ints_take]
    exact own_same this fun a ha => o a (own_ne h.tr (hob a ha) h.blk (by decide))
end
end Go.Proofs.Ytjponegeidiheaa
