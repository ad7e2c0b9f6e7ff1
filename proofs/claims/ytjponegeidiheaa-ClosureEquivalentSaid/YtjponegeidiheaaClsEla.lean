/- The identity of a rule; entailAll: do rules entail each rule of a list; Equivalent. Bounds on sizes alone. -/
import Derived.Test.YtjponegeidiheaaClsMpi
import Derived.Test.YtjponegeidiheaaPrRow
import Derived.Test.YtjponegeidiheaaClsCh
import Derived.Deep.RegionHeldLaw
import Derived.Test.YtjponegeidiheaaClsREq
namespace Go.Proofs.Ytjponegeidiheaa
open Go.RowKit
set_option maxRecDepth 100000
set_option maxHeartbeats 1600000

theorem infoIdy : (Try.prog.info? 106).map (·.size) = some 2 := by kernel_rfl
/-- The contract of strings.Join, for names of at most 16 bytes. -/
def JoinC : Prop := ∀ (xo : Option Addr) (n xc : Nat) (l : List Str) (w : World), Rd w (.slice xo n xc) (ss l) → (∀ x ∈ l, x.length ≤ 16) → l.length ≤ 10000 →
    Calls Try.prog 88 #[.slice xo n xc, .string ⟨#[44]⟩] w fun e w' => e = .returned (.string (ba (jn l))) ∧ Below w.heap.size w w'

theorem idy_any (JC : JoinC) (po : Option Addr) (pn pc : Nat) (p : List Str) (x : Str) (w : World) (hp : Rd w (.slice po pn pc) (ss p)) (h1 : ∀ y ∈ p, y.length ≤ 16) (h2 : p.length ≤ 10000) :
    Calls Try.prog 73 #[.agg #[.slice po pn pc, .string (ba x)]] w fun e w' => e = .returned (Ky.v (jn p, x)) ∧ Below w.heap.size w w' := by
  obtain ⟨bx, hbx⟩ : ∃ bx, bx = ba x := ⟨_, rfl⟩
  rw [← hbx]
  obtain ⟨W, hW⟩ : ∃ W, W = ((w.alloc (.cells #[.slice po pn pc, .string bx] 41)).alloc (.cells #[.string { data := #[] }, .string { data := #[] }] 106)).drew := ⟨_, rfl⟩
  have z1 : (w.alloc (.cells #[.slice po pn pc, .string bx] 41)).heap.size = w.heap.size + 1 := by simp
  have b1 : W.heap[w.heap.size]? = some (.cells #[.slice po pn pc, .string bx] 41 (0, 0)) := by
    rw [hW]
    have e := (bel_alloc (w.alloc (.cells #[.slice po pn pc, .string bx] 41)) (.cells #[.string { data := #[] }, .string { data := #[] }] 106)).block w.heap.size (by rw [z1]; omega)
    exact e.trans (heap_alloc_new w _)
  have b2 : W.heap[w.heap.size + 1]? = some (.cells #[.string { data := #[] }, .string { data := #[] }] 106 (0, 0)) := by
    rw [hW]
    have e := heap_alloc_new (w.alloc (.cells #[.slice po pn pc, .string bx] 41)) (.cells #[.string { data := #[] }, .string { data := #[] }] 106)
    rw [z1] at e
    exact e
  have B : Below w.heap.size w W := by
    rw [hW]
    exact ((bel_alloc w _).alloc (by rw [z1]; omega) _).drew
  have zW : W.heap.size = w.heap.size + 2 := by rw [hW]; simp
  have CB : Hid (∀ X, Below (w.heap.size + 1) W X → X.cell? ⟨w.heap.size, 0, none⟩ = some (.slice po pn pc) ∧ X.cell? ⟨w.heap.size, 1, none⟩ = some (.string bx)) := hid_of (fun X hb => by
    have e := (hb.block _ (by omega)).trans b1
    exact ⟨blk_cell (cs := [.slice po pn pc, .string bx]) e (j := 0) rfl, blk_cell (cs := [.slice po pn pc, .string bx]) e (j := 1) rfl⟩)
  obtain ⟨bj, hbj⟩ : ∃ bj, bj = ba (jn p) := ⟨_, rfl⟩
  have HC : Hid (Calls Try.prog 88 #[.slice po pn pc, .string ⟨#[44]⟩] W fun e w1 => e = .returned (.string bj) ∧ w.heap.size + 1 < w1.heap.size ∧ Below (w.heap.size + 1) W w1 ∧ w1.cell? ⟨w.heap.size + 1, 0, none⟩ = some (.string { data := #[] }) ∧ w1.cell? ⟨w.heap.size + 1, 1, none⟩ = some (.string { data := #[] }) ∧ (w1.frozen? ⟨w.heap.size + 1, 0, none⟩ = false ∧ w1.frozen? ⟨w.heap.size + 1, 1, none⟩ = false) ∧
      Hid (Below (w.heap.size + 1) W ((w1.setCell ⟨w.heap.size + 1, 0, none⟩ (.string bj)).setCell ⟨w.heap.size + 1, 1, none⟩ (.string bx)) ∧ ((w1.setCell ⟨w.heap.size + 1, 0, none⟩ (.string bj)).setCell ⟨w.heap.size + 1, 1, none⟩ (.string bx)).heap[w.heap.size + 1]? = some (.cells #[.string bj, .string bx] 106 (0, 0)))) := hid_of ((JC po pn pc p W (hp.at B) h1 h2).mono (by
    rintro e w1 ⟨rfl, hb⟩
    have e1 : w1.heap[w.heap.size + 1]? = some (.cells [Value.string { data := #[] }, .string { data := #[] }].toArray 106 (0, 0)) := (hb.block _ (by omega)).trans b2
    have hb' : Below (w.heap.size + 1) W w1 := hb.mono (by omega)
    refine ⟨by rw [hbj], by have := hb.size; omega, hb', blk_cell (cs := [.string { data := #[] }, .string { data := #[] }]) e1 (j := 0) rfl, blk_cell (cs := [.string { data := #[] }, .string { data := #[] }]) e1 (j := 1) rfl, ⟨by simp [World.frozen?, e1], by simp [World.frozen?, e1]⟩, hid_of ⟨⟨hb'.os, hb'.tape, hb'.output, by simpa using hb'.size, fun k hk => ?_⟩, blk_setCell (k := 1) (u := .string bx) (blk_setCell (k := 0) (u := .string bj) e1)⟩⟩
    exact (Below.heap_setCell _ _ _ _ (by show k ≠ w.heap.size + 1; omega)).trans ((Below.heap_setCell _ _ _ _ (by show k ≠ w.heap.size + 1; omega)).trans (hb'.block k hk))))
  clear b1 b2 z1 zW
  have K0 : Hid (W.cell? ⟨w.heap.size, 0, none⟩ = some (.slice po pn pc) ∧ W.cell? ⟨w.heap.size, 1, none⟩ = some (.string bx)) := hid_of (CB.out W (Below.refl _ _))
  rw [hW] at K0 HC CB
  have HV : Hid (Ky.v (jn p, x) = .agg #[.string bj, .string bx]) := hid_of (by rw [hbj, hbx]; rfl)
  have HBB := hid_of B
  rw [hW] at HBB
  clear B JC hp h1 h2 hbx hbj hW
  go_enter Try.func73, Try.ntmps73
  go_wp2
  go_region_held3 (fun X => X.cell? ⟨w.heap.size, 0, none⟩ = some (.slice po pn pc) ∧ X.cell? ⟨w.heap.size, 1, none⟩ = some (.string bx)) (first | with_reducible exact K0.out | with_reducible exact K1.out | with_reducible exact K2.out) (first
    | (go_at_call 88; ((with_reducible refine (HC.out).mono ?_); (rintro ee w1 ⟨rfl, hs, q1, k0, k1, ⟨f0, f1⟩, q2⟩; have B1 := hid_of q1; have K1 := hid_of (CB.out w1 q1); have K2 := hid_of (CB.out _ q2.out.1); have R2 := q2; clear q1 q2))))
  go_wp2
  refine bodyPost_ret (results_cell_row rfl _ _ (w.heap.size + 1) 106 #[.string bj, .string bx] (0, 0) _ rfl R2.out.2 Try.underlying106 rfl infoIdy) rfl ⟨by rw [HV.out], ?_⟩
  exact HBB.out.trans (R2.out.1.mono (by omega))

def idK (r : Gr) : Ky := (jn r.1, r.2)
theorem nm_ok {U : List Str} {rs : List Gr} (h : chkE U rs = 0) : ∀ x ∈ U, Wd x ∧ x.length ≤ 16 := fun x hx => by
  unfold chkE at h
  by_cases h1 : U.all nameB = false
  · rw [if_pos h1] at h; omega
  · have h2 : U.all nameB = true := by simpa using h1
    exact wd_of_name (List.all_eq_true.1 h2 x hx)
theorem idK_ok {U : List Str} {rs : List Gr} (h : chkE U rs = 0) (hl : ∀ r ∈ rs, r.1.length ≤ 10000) {r : Gr} (hr : r ∈ rs) : (idK r).ok := by
  have h1 := nm_ok h
  obtain ⟨_, h2, h3⟩ := (chk_ok h).2 r hr
  have h4 := jn_len (m := 16) r.1 fun x hx => (h1 x (h2 x hx)).2
  have h5 := hl r hr
  have h6 := (h1 r.2 h3).2
  exact ⟨by show (jn r.1).length ≤ _; omega, by show r.2.length ≤ _; omega⟩
theorem idK_inj {U : List Str} {rs qs : List Gr} (h : chkE U rs = 0) (h' : chkE U qs = 0) {r q : Gr} (hr : r ∈ rs) (hq : q ∈ qs) (e : idK r = idK q) : r = q := by
  have h1 := nm_ok h
  have e1 : jn r.1 = jn q.1 := congrArg (fun p : Ky => p.1) e
  have e2 : r.2 = q.2 := congrArg (fun p : Ky => p.2) e
  exact Prod.ext (jn_inj (fun x hx => (h1 x (((chk_ok h).2 r hr).2.1 x hx)).1) (fun x hx => (h1 x (((chk_ok h').2 q hq).2.1 x hx)).1) e1) e2
/-- What a round reads and its identity. -/
def IdR (w : World) (ao : Option Addr) (an : Nat) (A : List Gr) : Prop :=
  ∀ k wr, k < an → Below w.heap.size w wr → ∃ g o a c m bx r kv, ao = some ⟨g, o, none⟩ ∧ A[k]? = some r ∧ wr.cell? ⟨g, o + k * 2, none⟩ = some (.slice a m c) ∧ wr.cell? ⟨g, o + k * 2 + 1, none⟩ = some (.string bx) ∧ kv = (idK r).v ∧ (idK r).ok ∧ (Rd w (.slice a m c) (ss r.1) ∧ bx = ba r.2) ∧
    Hid (Calls Try.prog 73 #[.agg #[.slice a m c, .string bx]] (wr.alloc (.cells #[.slice a m c, .string bx] 41)) fun e w' => e = .returned kv ∧ Below wr.heap.size wr w' ∧ wr.heap.size < w'.heap.size ∧ w'.cell? ⟨wr.heap.size, 0, none⟩ = some (.slice a m c) ∧ w'.cell? ⟨wr.heap.size, 1, none⟩ = some (.string bx))
theorem idr_of (JC : JoinC) {ao : Option Addr} {an ac : Nat} {A : List Gr} {U : List Str} {w : World} (hA : RuR w (.slice ao an ac) A) (h : chkE U A = 0) (hl : ∀ r ∈ A, r.1.length ≤ 10000) : IdR w ao an A := fun k wr hk hb => by
  obtain ⟨g, o, a, c, r, e, hr, _, _, rr⟩ := hA.cel hk
  obtain ⟨g', o', a', c', r', e', hr', c0, c1, rr'⟩ := (hA.at hb).cel hk
  have er : r' = r := by rw [hr] at hr'; cases hr'; rfl
  subst er
  obtain ⟨g2, o2, a2, c2, e2, d0, d1, rr2⟩ := hA.get hr
  rw [e'] at e2
  cases e2
  have f0 := (hb.cell (p := ⟨g', o' + k * 2, none⟩) (World.block_lt_of_cell? _ _ d0)).trans d0
  rw [c0] at f0
  simp only [Option.some.injEq, Value.slice.injEq] at f0
  obtain ⟨rfl, _, rfl⟩ := f0
  have hm := List.mem_of_getElem? hr
  have h1 := nm_ok h
  have B1 := bel_alloc wr (.cells #[.slice a' r'.1.length c', .string (ba r'.2)] 41)
  refine ⟨g', o', a', c', _, _, r', _, e', hr, c0, c1, rfl, idK_ok h hl hm, ⟨rr2, rfl⟩, hid_of ?_⟩
  refine (idy_any JC a' _ c' r'.1 r'.2 _ (rr'.at B1) (fun y hy => (h1 y (((chk_ok h).2 r' hm).2.1 y hy)).2) (hl r' hm)).mono ?_
  rintro e w' ⟨rfl, hb2⟩
  have e0 := heap_alloc_new wr (.cells #[.slice a' r'.1.length c', .string (ba r'.2)] 41)
  have e1 := (hb2.block wr.heap.size (by simp)).trans e0
  exact ⟨rfl, B1.trans (hb2.mono B1.size), by have := hb2.size; simp at this; omega, blk_cell (cs := [.slice a' r'.1.length c', .string (ba r'.2)]) e1 (j := 0) rfl, blk_cell (cs := [.slice a' r'.1.length c', .string (ba r'.2)]) e1 (j := 1) rfl⟩
theorem bel_by {w wr w2 : World} {b : Nat} (h : Below w.heap.size w wr) (hg : wr.grownBy w2 (some b)) (hb : w.heap.size ≤ b) : Below w.heap.size w w2 :=
  h.grown hg h.size (fun k hk => by cases hk; exact hb)

theorem ruE2 : Elem2 Try.prog 23 41 (.agg #[.slice none 0 0, .string ⟨#[]⟩]) 40 := ⟨Try.underlying23, by kernel_rfl, rfl⟩
theorem rus_all {U : List Str} : ∀ {rs : List Gr}, rusE U rs = 0 → ∀ r ∈ rs, ruE U r = 0
  | [], _, r, hr => by cases hr
  | a :: rs, h, r, hr => by
    rw [rusE] at h
    by_cases e : ruE U a = 0
    · rw [if_pos e] at h
      rcases List.mem_cons.1 hr with rfl | hr
      · exact e
      · exact rus_all h r hr
    · rw [if_neg e] at h; exact absurd h e
theorem chk_sub {U : List Str} {rs qs : List Gr} (h : chkE U rs = 0) (hs : ∀ r ∈ qs, r ∈ rs) : chkE U qs = 0 := by
  unfold chkE at h ⊢
  by_cases h1 : U.all nameB = false
  · rw [if_pos h1] at h; omega
  · rw [if_neg h1] at h ⊢
    by_cases h2 : ¬ SS U
    · rw [if_pos h2] at h; omega
    · rw [if_neg h2] at h ⊢
      exact rusE_zero fun r hr => rus_all h r (hs r hr)
/-- The rules that are not yet known. -/
def flK (rs B : List Gr) : List Gr := B.filter fun r => decide (idK r ∉ rs.map idK)
theorem flK_next {rs B : List Gr} {j : Nat} {r : Gr} (h : B[j]? = some r) : flK rs (B.take (j + 1)) = flK rs (B.take j) ++ (if idK r ∈ rs.map idK then [] else [r]) := by
  unfold flK
  rw [take_snoc_get h, List.filter_append]
  by_cases e : idK r ∈ rs.map idK <;> simp [e]
theorem flK_mem {rs B : List Gr} {r : Gr} (h : r ∈ flK rs B) : r ∈ B := (List.mem_filter.1 h).1
theorem entB_iff {U : List Str} {rs : List Gr} (h0 : chkE U rs = 0) {r : Gr} (hr : ruE U r = 0) : entB U rs r = true ↔ DerS rs (fun x => x ∈ r.1) r.2 := by
  have hpu : SS r.1 ∧ ∀ y ∈ r.1, y ∈ U := by
    by_cases h1 : SS r.1
    · by_cases h2 : ∀ y ∈ r.1, y ∈ U
      · exact ⟨h1, h2⟩
      · rw [ruE, if_neg (not_not_intro h1), if_pos h2] at hr; omega
    · rw [ruE, if_pos h1] at hr; omega
  unfold entB
  rw [decide_eq_true_iff, mem_clF (cws_mk h0 hpu.1 hpu.2)]
theorem flK_all {U : List Str} {rs B : List Gr} (h0 : chkE U rs = 0) (h1 : chkE U B = 0) : (flK rs B).all (entB U rs) = B.all (entB U rs) := by
  have hru : ∀ r ∈ B, ruE U r = 0 := by
    unfold chkE at h1
    split at h1
    · omega
    · split at h1
      · omega
      · exact rus_all h1
  rw [Bool.eq_iff_iff, List.all_eq_true, List.all_eq_true]
  refine ⟨fun h r hr => ?_, fun h r hr => h r (flK_mem hr)⟩
  by_cases e : idK r ∈ rs.map idK
  · obtain ⟨q, hq, e2⟩ := List.mem_map.1 e
    have : q = r := idK_inj h0 h1 hq hr e2
    subst this
    exact (entB_iff h0 (hru q hr)).2 (.rule hq fun y hy => .base hy)
  · exact h r (List.mem_filter.2 ⟨hr, by simp [e]⟩)
/-- The rows of the rules that are left. -/
structure OthP (w : World) (lo : List PV) (L : List Gr) : Prop where
  len : lo.length = L.length
  at_ : ∀ (i : Nat) (t : PV) (r : Gr), lo[i]? = some t → L[i]? = some r → Rd w t.1 (ss r.1) ∧ t.2 = .string (ba r.2)
theorem OthP.snoc {w : World} {lo : List PV} {L : List Gr} (h : OthP w lo L) {t : PV} {r : Gr} (h1 : Rd w t.1 (ss r.1)) (h2 : t.2 = .string (ba r.2)) : OthP w (lo ++ [t]) (L ++ [r]) := by
  refine ⟨by simp [h.len], fun i t' r' ht hr => ?_⟩
  by_cases e : i < lo.length
  · rw [List.getElem?_append_left e] at ht
    rw [List.getElem?_append_left (by rw [← h.len]; exact e)] at hr
    exact h.at_ i t' r' ht hr
  · rw [List.getElem?_append_right (by omega)] at ht
    rw [List.getElem?_append_right (by rw [← h.len]; omega)] at hr
    have hi : i = lo.length := by have := (List.getElem?_eq_some_iff.1 ht).1; simp at this; omega
    rw [hi, Nat.sub_self] at ht
    rw [hi, h.len, Nat.sub_self] at hr
    simp only [List.getElem?_cons_zero, Option.some.injEq] at ht hr
    rw [← ht, ← hr]; exact ⟨h1, h2⟩
theorem OthP.ru {w w' : World} {lo : List PV} {L : List Gr} (h : OthP w lo L) {v : Value} (hp : PRd w' v lo) (hb : Below w.heap.size w w') : RuR w' v L :=
  ⟨lo, hp, h.len, fun i t r ht hr => ⟨(h.at_ i t r ht hr).1.at hb, (h.at_ i t r ht hr).2⟩⟩
/-- The chase in the last loop. -/
def E3 (c un : Nat) (R : List Hrl) (w6 wz : World) : Prop := ∃ (T : List Nat) (kk : Nat) (V : CV) (S : Nat → Prop), CH wz c un R (lackR R off0 (T.take kk)) (memB T) T kk V S ∧ kk ≤ T.length ∧ Below w6.heap.size w6 wz ∧ ∀ b, S b → w6.heap.size ≤ b
theorem e3_round {U : List Str} {rs L : List Gr} {R1 R2 : List Hrl} {c un n : Nat} {ao2 : Option Addr} {cap2 B0 : Nat} {w6 wz : World} (h0 : chkE U rs = 0) (hc1 : Cmp U rs R1) (hL : chkE U L = 0) (hc2 : Cmp U L R2) (hco : CoR B0 w6 (.slice ao2 n cap2) R2) (hun : un ≤ 1000000) (hul : un = U.length) (he : E3 c un R1 w6 wz) {k : Nat} (hk : k < n) :
    ∃ g o a1 n1 d1 a2 n2 d2 r, ao2 = some ⟨g, o, none⟩ ∧ L[k]? = some r ∧ wz.cell? ⟨g, o + k * 2, none⟩ = some (.slice a1 n1 d1) ∧ wz.cell? ⟨g, o + k * 2 + 1, none⟩ = some (.slice a2 n2 d2) ∧
      Hid (Calls Try.prog 52 #[.pointer (some ⟨c, 0, none⟩), .agg #[.slice a1 n1 d1, .slice a2 n2 d2]] (wz.alloc (.cells #[.slice a1 n1 d1, .slice a2 n2 d2] 90)) fun e w' => e = .returned (.bool (entB U rs r)) ∧ E3 c un R1 w6 w') := by
  obtain ⟨T, kk, V, S, q1, q2, q3, q4⟩ := he
  obtain ⟨l, p1, p2⟩ := hco
  have hcut := p1.cut
  have hlR := p2.1
  have hRL := hc2.len
  obtain ⟨t, ht⟩ : ∃ t, l[k]? = some t := ⟨_, List.getElem?_eq_getElem (by omega)⟩
  obtain ⟨z, hz⟩ : ∃ z, R2[k]? = some z := ⟨_, List.getElem?_eq_getElem (by omega)⟩
  obtain ⟨r, hr⟩ : ∃ r, L[k]? = some r := ⟨_, List.getElem?_eq_getElem (by omega)⟩
  obtain ⟨g, o, e, c0, c1⟩ := (p1.at q3).get ht
  obtain ⟨o1, o2⟩ := p2.2 k t z ht hz
  obtain ⟨i1, i2⟩ := hc2.at_ k r z hr hz
  obtain ⟨t1, t2⟩ := t
  obtain ⟨a1, d1, rfl⟩ : ∃ a d, t1 = .slice a z.1.length d := own_shape o1
  obtain ⟨a2, d2, rfl⟩ : ∃ a d, t2 = .slice a z.2.length d := own_shape o2
  have B := bel_alloc wz (.cells #[.slice a1 z.1.length d1, .slice a2 z.2.length d2] 90)
  have bb := q3.trans (B.mono q3.size)
  have o1' := own_same o1 fun k hk => bb.block k (own_lt o1 hk)
  have o2' := own_same o2 fun k hk => bb.block k (own_lt o2 hk)
  refine ⟨g, o, a1, _, d1, a2, _, d2, r, e, hr, c0, c1, hid_of ?_⟩
  refine (ent_any c un kk R1 off0 T V S z.1 z.2 (.slice a1 z.1.length d1) (.slice a2 z.2.length d2) _ (q1.at B) q2 (own_rd o1') (own_rd o2') (fun g hg => ⟨own_lt o1' hg, fun hs => by have := own_lt o1 hg; have := q4 g hs; omega⟩) (fun g hg => ⟨own_lt o2' hg, fun hs => by have := own_lt o2 hg; have := q4 g hs; omega⟩)
    (fun y hy => by rw [hul]; exact i1.lt hy) (fun y hy => by rw [hul]; exact i2.lt hy) hun (fun _ => by unfold off0; omega)).mono ?_
  rintro e w4 ⟨b, T', tv, S', rfl, hb2, hch, hcg⟩
  have hru : ruE U r = 0 := by
    unfold chkE at hL
    split at hL
    · omega
    · split at hL
      · omega
      · exact rus_all hL r (List.mem_of_getElem? hr)
  obtain ⟨hU, hok⟩ := chk_ok h0
  have hbe : b = entB U rs r := by
    rw [Bool.eq_iff_iff, entB_iff h0 hru, hb2]
    constructor
    · intro hall
      obtain ⟨i, hi1, hi2⟩ := i2.mem_back (x := r.2) (by simp)
      exact der_toS hc1 i1 (hall i hi1) r.2 hi2
    · intro hd y hy
      obtain ⟨i, k1, k2⟩ := derS_to hU hc1 i1 (fun r hr => ⟨(hok r hr).2.1, (hok r hr).2.2⟩) hd
      obtain ⟨x', k3, k4⟩ := i2.mem hy
      rw [List.mem_singleton.1 k3] at k4
      rw [ss_inj hU k4 k1]; exact k2
  refine ⟨by rw [hbe], T', T'.length, _, S', hch, Nat.le_refl _, bb.trans (hcg.below bb.size q4), fun k hk => ?_⟩
  rcases hcg.sub k hk with h1 | h1
  · exact q4 k h1
  · exact Nat.le_trans bb.size h1

theorem ela_any (JC : JoinC) (uo : Option Addr) (un uc : Nat) (U : List Str) (ro : Option Addr) (rn rc : Nat) (rs : List Gr) (bo : Option Addr) (bn bc : Nat) (B : List Gr) (w : World) (h : InU w uo un uc U ro rn rc rs) (h' : InU w uo un uc U bo bn bc B) (hl : ∀ r ∈ rs, r.1.length ≤ 10000) (hl' : ∀ r ∈ B, r.1.length ≤ 10000) (h0 : chkE U rs = 0) (h1 : chkE U B = 0) (q : Bool) (hq : q = B.all (entB U rs)) :
    Calls Try.prog 56 #[.slice uo un uc, .slice ro rn rc, .slice bo bn bc] w fun e w' => e = .returned (.bool q) ∧ Below w.heap.size w w' := by
  have I1 := hid_of (idr_of JC h.rr h0 hl)
  have I2 := hid_of (idr_of JC h'.rr h1 hl')
  have hrn := h.rn
  have hbn := h'.rn
  have hun := h.un
  have hr9 := (RuR.len h.rr).2
  have hb9 := (RuR.len h'.rr).2
  have HA := hid_of (RuR.len h.rr).1
  have HB := hid_of (RuR.len h'.rr).1
  have HQ := hid_of hq
  have HI := hid_of h
  have HI' := hid_of h'
  have H0 := hid_of h0
  have H1 := hid_of h1
  have HL' := hid_of hl'
  clear h h' hl hl' h0 h1 hq JC
  have hmm := @run_makeMap Try.prog
  go_enter Try.func56, Try.ntmps56
  go_wp2
  clear hmm
  go_loopw [9, 23] (fun bv iv wr => ∃ (k : Nat) (v : Value), bv = v ∧ k ≤ rn ∧ iv = .int .i64 k ∧ Hid (Below w.heap.size w wr) ∧ Hid (MapI wr w.heap.size k ((rs.take k).map idK))) (fun _ iv _ => rn - (intOf iv).toNat)
  case atStart => exact ⟨0, _, rfl, Nat.zero_le _, rfl, hid_of (bel_alloc w _), hid_of (mapI_made w)⟩
  case round =>
    obtain ⟨k, v, rfl, hk, rfl, hb, hmp⟩ := hrel
    by_cases hlt : k < rn
    · have hd : decide (k < rn) = true := by simp; omega
      obtain ⟨g, o, a, c, m, bx, r, kv, rfl, hr, c0, c1, hkv, hok, -, HE⟩ := I1.out k wr hlt hb.out
      have HR := hid_of hr
      have HKV := hid_of hkv
      have HOK := hid_of hok
      clear hr hkv hok
      have hk9 : k ≤ 1000000 := by omega
      go_wp2_with (first
        | (go_at_call 73; ((with_reducible refine (HE.out).mono ?_); (rintro ee w2 ⟨rfl, q1, q2, q3, q4⟩)); have B2 := hid_of q1; have BW2 := hid_of (hb.out.trans (q1.mono hb.out.size)); have M2 := hid_of (hmp.out.same (q1.block _ hmp.out.lt)); clear q1)
        | (at_mapUpdate; ((refine wpList_putI rfl _ _ _ rfl w.heap.size k ((rs.take k).map idK) (idK r) rfl (by rw [← HKV.out]; rfl) rfl M2.out hk9 HOK.out ?_); intro w3 hm3 hg3; have M3 := hid_of hm3; have B3 := hid_of (bel_by BW2.out hg3 (Nat.le_refl _)); clear hm3 hg3)))
      go_roundw
      case rel => exact ⟨k + 1, _, rfl, by omega, by go_num, B3, hid_of (by rw [take_snoc_get HR.out, List.map_append]; exact M3.out)⟩
      case measure => simp [intOf]; omega
    · have hd : decide (k < rn) = false := by simp; omega
      have hkr : k = rn := by omega
      have HMF : Hid (MapI wr w.heap.size rn (rs.map idK)) := hid_of (by
        have h5 := hmp.out
        rw [List.take_of_length_le (by have := HA.out; omega), hkr] at h5
        exact h5)
      have hn9 : (0 : Nat) ≤ 1000000 := by omega
      clear hkr hmp
      go_wp2
      generalize wr = w5 at *
      go_loopw [10, 12, 33] (fun ov bv iv wq => ∃ (j : Nat) (oo : Option Addr) (n oc : Nat) (v : Value) (lo : List PV), ov = .slice oo n oc ∧ bv = v ∧ n ≤ j ∧ j ≤ bn ∧ iv = .int .i64 j ∧ Hid (lo.length = n) ∧ Hid (OP 41 w5.heap.size w5 wq (.slice oo n oc) lo) ∧ Hid (OthP w lo (flK rs (B.take j)))) (fun _ _ iv _ => bn - (intOf iv).toNat)
      case atStart => exact ⟨0, _, 0, 0, _, [], rfl, rfl, Nat.le_refl _, Nat.zero_le _, rfl, hid_of rfl, hid_of (op_nil _ _), hid_of ⟨rfl, fun i t r ht => (by simp at ht)⟩⟩
      case round =>
        obtain ⟨j, oo, n, oc, v2, lo, rfl, rfl, hnj, hj, rfl, hll, how, hot⟩ := hrel
        have BWQ : Hid (Below w.heap.size w _) := hid_of (hb.out.trans (how.out.bel.mono hb.out.size))
        by_cases hlt2 : j < bn
        · have hd2 : decide (j < bn) = true := by simp; omega
          obtain ⟨g, o, a, c, m, bx, r, kv, rfl, hr, c0, c1, hkv, hok, hrd, HE⟩ := I2.out j _ hlt2 BWQ.out
          have HR := hid_of hr
          have HKV := hid_of hkv
          have HRD := hid_of hrd
          obtain ⟨b, hb2⟩ : ∃ b, b = decide (idK r ∈ rs.map idK) := ⟨_, rfl⟩
          have HBB := hid_of hb2
          have LK : Hid (∀ W, Below w5.heap.size w5 W → (Instr.lookup 104 (.map (some w.heap.size)) kv false).run Try.prog W = .ok (.bool b) W) := hid_of (fun W hw => by
            rw [hkv, hb2]
            exact (HMF.out.same (hw.block _ HMF.out.lt)).look (idK r) hok)
          clear hr hkv hok hrd hb2
          cases b
          · have HNX : Hid (flK rs (B.take (j + 1)) = flK rs (B.take j) ++ [r]) := hid_of (by rw [flK_next HR.out, if_neg (of_decide_eq_false HBB.out.symm)])
            go_wp2_with (first
              | (go_at_call 73; ((with_reducible refine (HE.out).mono ?_); (rintro ee w2 ⟨rfl, q1, q2, q3, q4⟩)); have B2 := hid_of q1; have O2 := hid_of (how.out.later q1); have lk := LK.out w2 O2.out.bel; clear q1)
              | (at_builtin; (refine wpList_pr ruE2 rfl (.tmp 42) (.tmp 44) rfl (v := .slice oo n oc) (l := lo) rfl (O2.out.later (bel_alloc _ _)) (vx := .slice (some ⟨w2.heap.size, 0, none⟩) 1 1) (m := [(.slice a m c, .string bx)]) rfl prd_new (by intro u hu; simp [prs] at hu; rcases hu with rfl | rfl <;> rfl) (by rw [hll.out]; simp only [List.length_singleton]; omega) (by rw [hll.out]; simp only [List.length_singleton]; omega) ?_); intro ao2 n2 cap2 w4 e1 h5 _; have HN2 : Hid (n2 = n + 1) := hid_of (by rw [hll.out] at e1; simpa using e1); have HO2 := hid_of h5; clear e1 h5))
            go_roundw
            case rel => exact ⟨j + 1, ao2, n2, cap2, _, lo ++ [(.slice a m c, .string bx)], rfl, rfl, by have := HN2.out; omega, by omega, by go_num, hid_of (by rw [List.length_append, hll.out, HN2.out]; rfl), HO2, hid_of (by rw [HNX.out]; exact hot.out.snoc HRD.out.1 (by rw [HRD.out.2]))⟩
            case measure => simp [intOf]; omega
          · have HNX : Hid (flK rs (B.take (j + 1)) = flK rs (B.take j)) := hid_of (by rw [flK_next HR.out, if_pos (of_decide_eq_true HBB.out.symm), List.append_nil])
            go_wp2_with (go_at_call 73; ((with_reducible refine (HE.out).mono ?_); (rintro ee w2 ⟨rfl, q1, q2, q3, q4⟩)); have B2 := hid_of q1; have O2 := hid_of (how.out.later q1); have lk := LK.out w2 O2.out.bel; clear q1)
            go_roundw
            case rel => exact ⟨j + 1, oo, n, oc, _, lo, rfl, rfl, by omega, by omega, by go_num, hll, O2, hid_of (by rw [HNX.out]; exact hot.out)⟩
            case measure => simp [intOf]; omega
        · have hd2 : decide (j < bn) = false := by simp; omega
          have hjb : j = bn := by omega
          have hn6 : n ≤ 1000000 := by omega
          have HOT : Hid (OthP w lo (flK rs B)) := hid_of (by
            have h5 := hot.out
            rw [List.take_of_length_le (by have := HB.out; omega)] at h5
            exact h5)
          obtain ⟨L, hL⟩ : ∃ L, L = flK rs B := ⟨_, rfl⟩
          rw [← hL] at HOT
          have HLB : Hid (∀ r ∈ L, r ∈ B) := hid_of (by rw [hL]; exact fun r hr => flK_mem hr)
          have HCL : Hid (chkE U L = 0) := hid_of (chk_sub H1.out HLB.out)
          have HQL : Hid (q = L.all (entB U rs)) := hid_of (by rw [HQ.out, hL, flK_all H0.out H1.out])
          have HNL : Hid (n = L.length) := hid_of (by rw [← HOT.out.len, hll.out])
          have HC1 := hid_of (cmp_good (HI.out.at BWQ.out) H0.out)
          have HC2 : Hid (∀ W, Below wr.heap.size wr W → Calls Try.prog 44 #[.slice uo un uc, .slice oo n oc] W fun e w' => ∃ (R : List Hrl) (ao : Option Addr) (cap : Nat), e = .returned (.tuple #[.slice ao n cap, .int .i64 0]) ∧ Cmp U L R ∧ CoR W.heap.size w' (.slice ao n cap) R ∧ Below W.heap.size W w') := hid_of (fun W hW => by
            have hb9 := BWQ.out.trans (hW.mono BWQ.out.size)
            have hi := HI.out.at hb9
            exact cmp_good ⟨hi.ru, HOT.out.ru (how.out.prd.at hW) hb9, hi.hz, hi.un, hn6, fun r hr => by have := HL'.out r (HLB.out r hr); omega⟩ HCL.out)
          have HNC : Hid (∀ W R ao cap B0, CoR B0 W (.slice ao rn cap) R → Cmp U rs R → Calls Try.prog 46 #[.int .i64 un, .slice ao rn cap] W fun e w' => ∃ c, e = .returned (.pointer (some ⟨c, 0, none⟩)) ∧ E3 c un R W w') := hid_of (fun W R ao cap B0 hco hcm => (new_any B0 un R ao rn cap W hco (by rw [HI.out.ul]; exact cmp_ok (chk_ok H0.out).1 hcm fun r hr => ((chk_ok H0.out).2 r hr).1) hun hrn).mono (by
            rintro e w3 ⟨c, rfl, _, V, S, n1, n2, n3, _⟩
            exact ⟨c, rfl, [], 0, V, S, n1, Nat.le_refl _, n2, n3⟩))
          have HUL := hid_of HI.out.ul
          have BWR : Hid (Below w.heap.size w wr) := BWQ
          clear hjb hL hot hll how
          go_wp2_with (first
            | (go_at_call 44; ((with_reducible refine (HC1.out).mono ?_); (rintro e w6 ⟨R1, ao1, cap1, rfl, q1, q2, q3⟩)); have C1 := hid_of q1; have O1 := hid_of q2; have B6 := hid_of q3; clear q1 q2 q3)
            | (go_at_call 44; ((with_reducible refine (HC2.out w6 B6.out).mono ?_); (rintro e w7 ⟨R2, ao2, cap2, rfl, q1, q2, q3⟩)); have C2 := hid_of q1; have O2 := hid_of q2; have B7 := hid_of q3; clear q1 q2 q3)
            | (go_at_call 46; ((with_reducible refine (HNC.out w7 R1 ao1 cap1 _ (O1.out.at B7.out) C1.out).mono ?_); (rintro e w8 ⟨c, rfl, q1⟩)); have E8 := hid_of q1; clear q1))
          have BW7 : Hid (Below w.heap.size w w7) := hid_of (by
            have h5 := BWR.out.trans (B6.out.mono BWR.out.size)
            exact h5.trans (B7.out.mono h5.size))
          have ER : Hid (∀ wz k, E3 c un R1 w7 wz → k < n → ∃ g o a1 n1 d1 a2 n2 d2 r, ao2 = some ⟨g, o, none⟩ ∧ L[k]? = some r ∧ wz.cell? ⟨g, o + k * 2, none⟩ = some (.slice a1 n1 d1) ∧ wz.cell? ⟨g, o + k * 2 + 1, none⟩ = some (.slice a2 n2 d2) ∧
              Hid (Calls Try.prog 52 #[.pointer (some ⟨c, 0, none⟩), .agg #[.slice a1 n1 d1, .slice a2 n2 d2]] (wz.alloc (.cells #[.slice a1 n1 d1, .slice a2 n2 d2] 90)) fun e w' => e = .returned (.bool (entB U rs r)) ∧ E3 c un R1 w7 w')) := hid_of (fun wz k he hk => e3_round H0.out C1.out HCL.out C2.out O2.out hun HUL.out he hk)
          have HEB : Hid (∀ wz, E3 c un R1 w7 wz → Below w.heap.size w wz) := hid_of (fun wz he => by
            obtain ⟨_, _, _, _, _, _, h6, _⟩ := he
            exact BW7.out.trans (h6.mono BW7.out.size))
          obtain ⟨f, hf⟩ : ∃ f, f = entB U rs := ⟨_, rfl⟩
          rw [← hf] at ER HQL
          clear hf
          have hn8 : n ≤ 9223372036854775807 := by omega
          go_loopw [19, 65] (fun bv iv wz => ∃ (k : Nat) (v : Value), bv = v ∧ k ≤ n ∧ iv = .int .i64 k ∧ Hid (E3 c un R1 w7 wz) ∧ Hid ((L.take k).all f = true)) (fun _ iv _ => n - (intOf iv).toNat)
          case atStart => exact ⟨0, _, rfl, Nat.zero_le _, rfl, E8, hid_of rfl⟩
          case round =>
            obtain ⟨k, v, rfl, hk, rfl, he, hx⟩ := hrel
            by_cases hlt3 : k < n
            · have hd3 : decide (k < n) = true := by simp; omega
              obtain ⟨g, o, a1, n1, d1, a2, n2, d2, r, rfl, hr, c0, c1, HE⟩ := ER.out _ k he.out hlt3
              have HR := hid_of hr
              obtain ⟨b, hb⟩ : ∃ b, b = f r := ⟨_, rfl⟩
              rw [← hb] at HE
              have HF := hid_of hb
              clear hr hb
              cases b
              · have RF : Hid (q = false) := hid_of (by
                  rw [HQL.out, Bool.eq_false_iff]
                  intro h1
                  have := List.all_eq_true.1 h1 r (List.mem_of_getElem? HR.out)
                  rw [← HF.out] at this
                  cases this)
                go_wp2_with (go_at_call 52; ((with_reducible refine (HE.out).mono ?_); (rintro ee w9 ⟨rfl, q1⟩)); have E9 := hid_of q1; clear q1)
                go_ret
                exact ⟨by rw [RF.out] <;> rfl, HEB.out _ E9.out⟩
              · have HN : Hid ((L.take (k + 1)).all f = true) := hid_of (by rw [take_snoc_get HR.out, List.all_append, hx.out]; simp [HF.out.symm])
                go_wp2_with (go_at_call 52; ((with_reducible refine (HE.out).mono ?_); (rintro ee w9 ⟨rfl, q1⟩)); have E9 := hid_of q1; clear q1)
                go_roundw
                case rel => exact ⟨k + 1, _, rfl, by omega, by go_num, E9, HN⟩
                case measure => simp [intOf]; omega
            · have hd3 : decide (k < n) = false := by simp; omega
              have RF : Hid (q = true) := hid_of (by
                rw [HQL.out]
                have h1 := hx.out
                rw [List.take_of_length_le (by have := HNL.out; omega)] at h1
                exact h1)
              go_wp2
              go_ret
              exact ⟨by rw [RF.out] <;> rfl, HEB.out _ he.out⟩

set_option maxRecDepth 100000 in
set_option maxHeartbeats 1600000 in
theorem eqv_err1 (uo : Option Addr) (un uc : Nat) (U : List Str) (ao : Option Addr) (an ac : Nat) (A : List Gr) (bo : Option Addr) (bn bc : Nat) (B : List Gr) (w : World) (hA : InU w uo un uc U ao an ac A) (hB : InU w uo un uc U bo bn bc B) (q : Nat) (hq : chkE U A = q) (hq0 : q ≠ 0) :
    Calls Try.prog 31 #[.slice uo un uc, .slice ao an ac, .slice bo bn bc] w fun e w' => e = .returned (.tuple #[.bool false, .int .i64 (q : Int)]) ∧ Below w.heap.size w w' := by
  have CKA : Hid (∀ W, Below w.heap.size w W → Calls Try.prog 18 #[.slice uo un uc, .slice ao an ac] W fun e w' => e = .returned (.int .i64 q) ∧ Below w.heap.size w w') := hid_of (fun W hb => by
    have h := check_any uo un uc U ao an ac A W (hA.at hb)
    rw [hq] at h
    exact h.mono fun e w' ⟨h1, h2⟩ => ⟨h1, hb.trans (h2.mono hb.size)⟩)
  have t1 : ((q : Int) != 0) = true := by simp; omega
  have t2 : ((q : Int) == 0) = false := by simp; omega
  clear hA hB hq hq0
  go_enter Try.func31, Try.ntmps31
  go_wp2_with ((go_at_call 18; ((with_reducible refine (CKA.out w (Below.refl _ _)).mono ?_); (rintro ee w1 ⟨rfl, q1⟩)); have B1 := hid_of q1; clear q1))
  go_ret2
  exact ⟨rfl, B1.out⟩
set_option maxRecDepth 100000 in
set_option maxHeartbeats 1600000 in
theorem eqv_err2 (uo : Option Addr) (un uc : Nat) (U : List Str) (ao : Option Addr) (an ac : Nat) (A : List Gr) (bo : Option Addr) (bn bc : Nat) (B : List Gr) (w : World) (hA : InU w uo un uc U ao an ac A) (hB : InU w uo un uc U bo bn bc B) (h0 : chkE U A = 0) (q : Nat) (hq : chkE U B = q) (hq0 : q ≠ 0) :
    Calls Try.prog 31 #[.slice uo un uc, .slice ao an ac, .slice bo bn bc] w fun e w' => e = .returned (.tuple #[.bool false, .int .i64 (q : Int)]) ∧ Below w.heap.size w w' := by
  have CKA : Hid (∀ W, Below w.heap.size w W → Calls Try.prog 18 #[.slice uo un uc, .slice ao an ac] W fun e w' => e = .returned (.int .i64 0) ∧ Below w.heap.size w w') := hid_of (fun W hb => by
    have h := check_any uo un uc U ao an ac A W (hA.at hb)
    rw [h0] at h
    exact h.mono fun e w' ⟨h1, h2⟩ => ⟨h1, hb.trans (h2.mono hb.size)⟩)
  have CKB : Hid (∀ W, Below w.heap.size w W → Calls Try.prog 18 #[.slice uo un uc, .slice bo bn bc] W fun e w' => e = .returned (.int .i64 q) ∧ Below w.heap.size w w') := hid_of (fun W hb => by
    have h := check_any uo un uc U bo bn bc B W (hB.at hb)
    rw [hq] at h
    exact h.mono fun e w' ⟨h1, h2⟩ => ⟨h1, hb.trans (h2.mono hb.size)⟩)
  have t1 : ((q : Int) != 0) = true := by simp; omega
  have t2 : ((q : Int) == 0) = false := by simp; omega
  clear hA hB hq hq0 h0
  go_enter Try.func31, Try.ntmps31
  go_wp2_with (first
    | (go_at_call 18; ((with_reducible refine (CKA.out w (Below.refl _ _)).mono ?_); (rintro ee w1 ⟨rfl, q1⟩)); have B1 := hid_of q1; clear q1)
    | (go_at_call 18; ((with_reducible refine (CKB.out w1 B1.out).mono ?_); (rintro ee w2 ⟨rfl, q1⟩)); have B2 := hid_of q1; clear q1))
  go_ret2
  exact ⟨rfl, B2.out⟩
set_option maxRecDepth 100000 in
set_option maxHeartbeats 1600000 in
theorem eqv_good (JC : JoinC) (uo : Option Addr) (un uc : Nat) (U : List Str) (ao : Option Addr) (an ac : Nat) (A : List Gr) (bo : Option Addr) (bn bc : Nat) (B : List Gr) (w : World) (hA : InU w uo un uc U ao an ac A) (hB : InU w uo un uc U bo bn bc B) (la : ∀ r ∈ A, r.1.length ≤ 10000) (lb : ∀ r ∈ B, r.1.length ≤ 10000) (h0 : chkE U A = 0) (h1 : chkE U B = 0) :
    Calls Try.prog 31 #[.slice uo un uc, .slice ao an ac, .slice bo bn bc] w fun e w' => e = .returned (.tuple #[.bool (eqvB U A B), .int .i64 0]) ∧ Below w.heap.size w w' := by
  have CKA : Hid (∀ W, Below w.heap.size w W → Calls Try.prog 18 #[.slice uo un uc, .slice ao an ac] W fun e w' => e = .returned (.int .i64 0) ∧ Below w.heap.size w w') := hid_of (fun W hb => by
    have h := check_any uo un uc U ao an ac A W (hA.at hb)
    rw [h0] at h
    exact h.mono fun e w' ⟨h1, h2⟩ => ⟨h1, hb.trans (h2.mono hb.size)⟩)
  have CKB : Hid (∀ W, Below w.heap.size w W → Calls Try.prog 18 #[.slice uo un uc, .slice bo bn bc] W fun e w' => e = .returned (.int .i64 0) ∧ Below w.heap.size w w') := hid_of (fun W hb => by
    have h := check_any uo un uc U bo bn bc B W (hB.at hb)
    rw [h1] at h
    exact h.mono fun e w' ⟨h1, h2⟩ => ⟨h1, hb.trans (h2.mono hb.size)⟩)
  obtain ⟨x, hx⟩ : ∃ x, x = B.all (entB U A) := ⟨_, rfl⟩
  obtain ⟨y, hy⟩ : ∃ y, y = A.all (entB U B) := ⟨_, rfl⟩
  have HV : Hid (eqvB U A B = (y && x)) := hid_of (by rw [hx, hy]; rfl)
  have EA : Hid (∀ W, Below w.heap.size w W → Calls Try.prog 56 #[.slice uo un uc, .slice ao an ac, .slice bo bn bc] W fun e w' => e = .returned (.bool x) ∧ Below w.heap.size w w') := hid_of (fun W hb => by
    exact (ela_any JC uo un uc U ao an ac A bo bn bc B W (hA.at hb) (hB.at hb) la lb h0 h1 x hx).mono fun e w' ⟨h1, h2⟩ => ⟨h1, hb.trans (h2.mono hb.size)⟩)
  have EB : Hid (∀ W, Below w.heap.size w W → Calls Try.prog 56 #[.slice uo un uc, .slice bo bn bc, .slice ao an ac] W fun e w' => e = .returned (.bool y) ∧ Below w.heap.size w w') := hid_of (fun W hb => by
    exact (ela_any JC uo un uc U bo bn bc B ao an ac A W (hB.at hb) (hA.at hb) lb la h1 h0 y hy).mono fun e w' ⟨h1, h2⟩ => ⟨h1, hb.trans (h2.mono hb.size)⟩)
  obtain ⟨v, hv⟩ : ∃ v, v = eqvB U A B := ⟨_, rfl⟩
  rw [← hv] at HV ⊢
  clear hA hB la lb h0 h1 hx hy hv JC
  cases x
  all_goals
    go_enter Try.func31, Try.ntmps31
    go_wp2_with (first
      | (go_at_call 18; ((with_reducible refine (CKA.out w (Below.refl _ _)).mono ?_); (rintro ee w1 ⟨rfl, q1⟩)); have B1 := hid_of q1; clear q1)
      | (go_at_call 18; ((with_reducible refine (CKB.out w1 B1.out).mono ?_); (rintro ee w2 ⟨rfl, q1⟩)); have B2 := hid_of q1; clear q1)
      | (go_at_call 56; ((with_reducible refine (EA.out w2 B2.out).mono ?_); (rintro ee w3 ⟨rfl, q1⟩)); have B3 := hid_of q1; clear q1)
      | (go_at_call 56; ((with_reducible refine (EB.out w3 B3.out).mono ?_); (rintro ee w4 ⟨rfl, q1⟩)); have B4 := hid_of q1; clear q1))
    go_ret2
    first
      | exact ⟨by rw [HV.out, Bool.and_false] <;> rfl, B3.out⟩
      | exact ⟨by rw [HV.out, Bool.and_true] <;> rfl, B4.out⟩
end Go.Proofs.Ytjponegeidiheaa
