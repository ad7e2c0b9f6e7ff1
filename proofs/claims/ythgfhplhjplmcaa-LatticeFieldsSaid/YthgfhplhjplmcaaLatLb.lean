/- Descriptions whose rows lie at or above a block; what keeps them. Bounds on sizes alone. -/
import Derived.Test.YthgfhplhjplmcaaLatCln
import Derived.Test.YthgfhplhjplmcaaHldT
namespace Go.Proofs.Ythgfhplhjplmcaa
open Go.RowKit

/-- The row of a slice lies in a block at or above B. -/
def Ge (B : Nat) (v : Value) : Prop := ∀ (a : Addr) (n c : Nat), v = .slice (some a) n c → B ≤ a.block
theorem Ge.mono {B B' : Nat} {v : Value} (h : Ge B v) (hb : B' ≤ B) : Ge B' v := fun a n c e => Nat.le_trans hb (h a n c e)
theorem Rd.keep {B : Nat} {w w' : World} {v : Value} {l : List Value} (h : Rd w v l) (hB : Ge B v) (hs : w.heap.size ≤ w'.heap.size) (hk : ∀ k, B ≤ k → k < w.heap.size → w'.heap[k]? = w.heap[k]?) : Rd w' v l := by
  obtain ⟨ao, cap, e, h2, h3, h4⟩ := h
  refine ⟨ao, cap, e, h2, h3, fun h0 => ?_⟩
  obtain ⟨g, o, rfl, hg, hc⟩ := h4 h0
  have hb := hk g (hB _ _ _ e) hg
  exact ⟨g, o, rfl, by omega, fun i t ht => (World.cell?_of_block (w := w) hb).trans (hc i t ht)⟩
theorem PRd.keep {B : Nat} {w w' : World} {v : Value} {l : List PV} (h : PRd w v l) (hB : Ge B v) (hs : w.heap.size ≤ w'.heap.size) (hk : ∀ k, B ≤ k → k < w.heap.size → w'.heap[k]? = w.heap[k]?) : PRd w' v l := by
  obtain ⟨ao, cap, e, h2, h3, h4⟩ := h
  refine ⟨ao, cap, e, h2, h3, fun h0 => ?_⟩
  obtain ⟨g, o, rfl, hg, hc⟩ := h4 h0
  have hb := hk g (hB _ _ _ e) hg
  refine ⟨g, o, rfl, by omega, fun i t ht => ?_⟩
  obtain ⟨c0, c1⟩ := hc i t ht
  exact ⟨(World.cell?_of_block (w := w) hb).trans c0, (World.cell?_of_block (w := w) hb).trans c1⟩
theorem SxRd.keep {B : Nat} {w w' : World} {v : Value} {l : List SxV} (h : SxRd w v l) (hB : Ge B v) (hs : w.heap.size ≤ w'.heap.size) (hk : ∀ k, B ≤ k → k < w.heap.size → w'.heap[k]? = w.heap[k]?) : SxRd w' v l := by
  obtain ⟨ao, cap, e, h2, h3, h4⟩ := h
  refine ⟨ao, cap, e, h2, h3, fun h0 => ?_⟩
  obtain ⟨g, o, rfl, hg, hc⟩ := h4 h0
  have hb := hk g (hB _ _ _ e) hg
  refine ⟨g, o, rfl, by omega, fun i t ht => ?_⟩
  obtain ⟨c0, c1, c2, c3, c4, c5⟩ := hc i t ht
  exact ⟨(World.cell?_of_block (w := w) hb).trans c0, (World.cell?_of_block (w := w) hb).trans c1, (World.cell?_of_block (w := w) hb).trans c2, (World.cell?_of_block (w := w) hb).trans c3, (World.cell?_of_block (w := w) hb).trans c4, (World.cell?_of_block (w := w) hb).trans c5⟩
/-- Rules in rows at or above B. -/
def RuB (B : Nat) (w : World) (v : Value) (rs : List Gr) : Prop := ∃ l : List PV, PRd w v l ∧ Ge B v ∧ l.length = rs.length ∧ ∀ (i : Nat) (t : PV) (r : Gr), l[i]? = some t → rs[i]? = some r → Rd w t.1 (ss r.1) ∧ Ge B t.1 ∧ t.2 = .string (ba r.2)
theorem RuB.keep {B : Nat} {w w' : World} {v : Value} {rs : List Gr} (h : RuB B w v rs) (hs : w.heap.size ≤ w'.heap.size) (hk : ∀ k, B ≤ k → k < w.heap.size → w'.heap[k]? = w.heap[k]?) : RuB B w' v rs := by
  obtain ⟨l, h1, h2, h3, h4⟩ := h
  exact ⟨l, h1.keep h2 hs hk, h2, h3, fun i t r ht hr => ⟨(h4 i t r ht hr).1.keep (h4 i t r ht hr).2.1 hs hk, (h4 i t r ht hr).2⟩⟩
theorem RuB.mono {B B' : Nat} {w : World} {v : Value} {rs : List Gr} (h : RuB B w v rs) (hb : B' ≤ B) : RuB B' w v rs := by
  obtain ⟨l, h1, h2, h3, h4⟩ := h
  exact ⟨l, h1, h2.mono hb, h3, fun i t r ht hr => ⟨(h4 i t r ht hr).1, (h4 i t r ht hr).2.1.mono hb, (h4 i t r ht hr).2.2⟩⟩
theorem RuB.ru {B : Nat} {w : World} {v : Value} {rs : List Gr} (h : RuB B w v rs) : RuR w v rs := by
  obtain ⟨l, h1, h2, h3, h4⟩ := h
  exact ⟨l, h1, h3, fun i t r ht hr => ⟨(h4 i t r ht hr).1, (h4 i t r ht hr).2.2⟩⟩
/-- The cells x are the description t, all of its rows at or above B. -/
inductive LB (B : Nat) (w : World) : LX → Lat → Prop
  | mk {x : LX} {t : Lat} (ps : List LX) (hk : x.k = t.k) (hlo : x.lo = t.lo) (hhi : x.hi = t.hi) (rk : R64 x.k) (rlo : R64 x.lo) (rhi : R64 x.hi)
      (hn : Rd w x.vn (ss t.ns)) (bn : Ge B x.vn) (on : Ok t.ns) (hr : RuB B w x.vr t.rs) (or : OkR t.rs) (hp : SxRd w x.vp (ps.map LX.q)) (bp : Ge B x.vp) (hl : ps.length = t.ps.length)
      (hd : ∀ (i : Nat) (y : LX) (u : Lat), ps[i]? = some y → t.ps[i]? = some u → LB B w y u) : LB B w x t
theorem LB.keep {B : Nat} {w w' : World} {x : LX} {t : Lat} (h : LB B w x t) (hs : w.heap.size ≤ w'.heap.size) (hk : ∀ k, B ≤ k → k < w.heap.size → w'.heap[k]? = w.heap[k]?) : LB B w' x t := by
  induction h with
  | mk ps h1 h2 h3 rk rlo rhi hn bn on hr or hp bp hl hd ih => exact .mk ps h1 h2 h3 rk rlo rhi (hn.keep bn hs hk) bn on (hr.keep hs hk) or (hp.keep bp hs hk) bp hl ih
theorem LB.mono {B B' : Nat} {w : World} {x : LX} {t : Lat} (h : LB B w x t) (hb : B' ≤ B) : LB B' w x t := by
  induction h with
  | mk ps h1 h2 h3 rk rlo rhi hn bn on hr or hp bp hl hd ih => exact .mk ps h1 h2 h3 rk rlo rhi hn (bn.mono hb) on (hr.mono hb) or hp (bp.mono hb) hl ih
theorem LB.ld {B : Nat} {w : World} {x : LX} {t : Lat} (h : LB B w x t) : LD w x t := by
  induction h with
  | mk ps h1 h2 h3 rk rlo rhi hn bn on hr or hp bp hl hd ih => exact .mk ps h1 h2 h3 rk rlo rhi hn on hr.ru or hp hl ih
/-- A store into a row of the call's own, whose elements may have more cells than one. -/
theorem own_setN {w : World} {B E n j s : Nat} {cap : Nat} {g : Nat} {xs : List Value} (h : w.ownsRow B E s (.slice (some ⟨g, 0, none⟩) n cap) n xs) (u : Value) :
    (w.setCell ⟨g, j, none⟩ u).ownsRow B E s (.slice (some ⟨g, 0, none⟩) n cap) n (xs.set j u) := by
  obtain ⟨h1, h2⟩ := h
  refine ⟨by rw [List.length_set]; exact h1, ?_⟩
  rcases h2 with ⟨h2, _⟩ | ⟨g2, cap2, cur, hv, hb, hg, hnc, hcm, hsz, ht⟩
  · cases h2
  · simp only [Value.slice.injEq, Option.some.injEq, Addr.mk.injEq] at hv
    obtain ⟨⟨rfl, _⟩, _, rfl⟩ := hv
    have hg' : w.heap[g]? = some (.cells (cur.toList).toArray E (0, 0)) := by simpa using hg
    have h3 := blk_setCell (k := j) (u := u) hg'
    refine .inr ⟨g, cap, (cur.toList.set j u).toArray, rfl, hb, h3, hnc, hcm, by simpa using hsz, ?_⟩
    rw [List.take_set, ht]
/-- What such a row is in memory. -/
theorem own_at {w : World} {B E n s : Nat} {cap : Nat} {xo : Option Addr} {xs : List Value} (h : w.ownsRow B E s (.slice xo n cap) n xs) (h0 : 0 < n) : ∃ g, xo = some ⟨g, 0, none⟩ ∧ B ≤ g ∧ g < w.heap.size ∧ ∀ j u, xs[j]? = some u → w.cell? ⟨g, j, none⟩ = some u ∧ w.frozen? ⟨g, j, none⟩ = false := by
  obtain ⟨h1, h2⟩ := h
  rcases h2 with ⟨_, h2⟩ | ⟨g, cap2, cur, hv, hb, hg, hnc, hcm, hsz, ht⟩
  · omega
  · cases hv
    refine ⟨g, rfl, hb, lt_of_block hg, fun j u hu => ⟨?_, by simp [World.frozen?, hg]⟩⟩
    have := World.news_of_block hg j u (by
      rw [← ht, List.getElem?_take] at hu
      split at hu
      · exact hu
      · cases hu)
    rw [Addr.add_mid, Nat.zero_add] at this
    exact this
theorem own_lens {w : World} {B E n s : Nat} {cap : Nat} {xo : Option Addr} {xs : List Value} (h : w.ownsRow B E s (.slice xo n cap) n xs) : n ≤ cap ∧ cap ≤ 9223372036854775807 := by
  rcases h.2 with ⟨h1, h2⟩ | ⟨g, cap2, cur, hv, hb, hg, hnc, hcm, hsz, ht⟩
  · cases h1
    exact ⟨by omega, by omega⟩
  · cases hv
    unfold maxLen at hcm
    omega
theorem own_lt {w : World} {base e size n cap g : Nat} {xo : Option Addr} {xs : List Value} (h : w.ownsRow base e size (.slice xo n cap) n xs) (hg : (Value.slice xo n cap).ownBlock = some g) : base ≤ g ∧ g < w.heap.size := h.lt g hg
theorem own_ge {w : World} {base e size n cap : Nat} {xo : Option Addr} {xs : List Value} (h : w.ownsRow base e size (.slice xo n cap) n xs) : Ge base (.slice xo n cap) := fun a n' c e => by
  cases e
  exact (h.lt a.block rfl).1
theorem own_set6 {w : World} {B E n i : Nat} {cap : Nat} {g : Nat} {qs tl : List SxV} {p y : SxV} (h : w.ownsRow B E 6 (.slice (some ⟨g, 0, none⟩) n cap) n (sxds (qs ++ p :: tl))) (hi : qs.length = i) :
    ((((((w.setCell ⟨g, i * 6, none⟩ y.a).setCell ⟨g, i * 6 + 1, none⟩ y.b).setCell ⟨g, i * 6 + 2, none⟩ y.c).setCell ⟨g, i * 6 + 3, none⟩ y.d).setCell ⟨g, i * 6 + 4, none⟩ y.e).setCell ⟨g, i * 6 + 5, none⟩ y.f).ownsRow B E 6 (.slice (some ⟨g, 0, none⟩) n cap) n (sxds (qs ++ [y] ++ tl)) := by
  have e : (((((((sxds (qs ++ p :: tl)).set (i * 6) y.a).set (i * 6 + 1) y.b).set (i * 6 + 2) y.c).set (i * 6 + 3) y.d).set (i * 6 + 4) y.e).set (i * 6 + 5) y.f) = sxds (qs ++ [y] ++ tl) := by
    have hl : (sxds qs).length = i * 6 := by rw [sxds_length, hi]
    have e1 : sxds (qs ++ p :: tl) = sxds qs ++ p.a :: p.b :: p.c :: p.d :: p.e :: p.f :: sxds tl := by rw [sxds_append]; rfl
    have e2 : sxds (qs ++ [y] ++ tl) = sxds qs ++ y.a :: y.b :: y.c :: y.d :: y.e :: y.f :: sxds tl := by rw [sxds_append, sxds_append]; simp [sxds, SxV.cs]
    rw [e1, e2]
    simp [List.set_append, hl]
  rw [← e]
  exact own_setN (own_setN (own_setN (own_setN (own_setN (own_setN h _) _) _) _) _) _
theorem own_set2 {w : World} {B E n j : Nat} {cap : Nat} {g : Nat} {ds tl : List PV} {p : PV} {v : Value} (h : w.ownsRow B E 2 (.slice (some ⟨g, 0, none⟩) n cap) n (prs (ds ++ p :: tl))) (hi : ds.length = j) :
    (w.setCell ⟨g, j * 2, none⟩ v).ownsRow B E 2 (.slice (some ⟨g, 0, none⟩) n cap) n (prs (ds ++ [(v, p.2)] ++ tl)) := by
  have e : (prs (ds ++ p :: tl)).set (j * 2) v = prs (ds ++ [(v, p.2)] ++ tl) := by
    have hl : (prs ds).length = j * 2 := by rw [prs_length, hi]
    have e1 : prs (ds ++ p :: tl) = prs ds ++ p.1 :: p.2 :: prs tl := by rw [prs_append]; rfl
    have e2 : prs (ds ++ [(v, p.2)] ++ tl) = prs ds ++ v :: p.2 :: prs tl := by rw [prs_append, prs_append]; simp [prs]
    rw [e1, e2]
    simp [List.set_append, hl]
  rw [← e]
  exact own_setN h _
def zCells : Array Value := #[.int .i64 0, .int .i64 0, .int .i64 0, .slice none 0 0, .slice none 0 0, .slice none 0 0]
/-- What clone's loops keep. -/
structure KI (w : World) (D : Nat) (k lo hi : Int) (xo : Option Addr) (nn xc : Nat) (yo : Option Addr) (np yc : Nat) (zo : Option Addr) (nr zc : Nat) (t : Lat) (ps : List SxV) (ls : List PV) (qs : List SxV) (i : Nat) (ds : List PV) (j : Nat) (wr : World) : Prop where
  bel : Below w.heap.size w wr
  d1 : w.heap.size + 2 ≤ D
  d2 : D ≤ wr.heap.size
  box : wr.heap[w.heap.size]? = some (.cells #[.int .i64 k, .int .i64 lo, .int .i64 hi, .slice xo nn xc, .slice yo np yc, .slice zo nr zc] 26 (0, 0))
  res : wr.heap[w.heap.size + 1]? = some (.cells #[.int .i64 0, .int .i64 0, .int .i64 0, .slice none 0 0, .slice none 0 0, .slice none 0 0] 26 (0, 0))
  nam : wr.ownsRow (w.heap.size + 2) 9 1 (.slice xo nn xc) nn (ss t.ns)
  par : wr.ownsRow (w.heap.size + 2) 26 6 (.slice yo np yc) np (sxds (qs ++ ps.drop i))
  rul : wr.ownsRow (w.heap.size + 2) 49 2 (.slice zo nr zc) nr (prs (ds ++ ls.drop j))
  ltx : ∀ g, (Value.slice xo nn xc).ownBlock = some g → g < D
  lty : ∀ g, (Value.slice yo np yc).ownBlock = some g → g < D ∧ (Value.slice xo nn xc).ownBlock ≠ some g ∧ (Value.slice zo nr zc).ownBlock ≠ some g
  ltz : ∀ g, (Value.slice zo nr zc).ownBlock = some g → g < D ∧ (Value.slice xo nn xc).ownBlock ≠ some g
  ql : qs.length = i
  dl : ds.length = j
  kids : ∀ (m : Nat) (y : SxV) (u : Lat), qs[m]? = some y → t.ps[m]? = some u → ∃ x : LX, y = x.q ∧ LB D wr x u
  ruls : ∀ (m : Nat) (d : PV) (r : Gr), ds[m]? = some d → t.rs[m]? = some r → Rd wr d.1 (ss r.1) ∧ Ge D d.1 ∧ d.2 = .string (ba r.2)
section
variable {w : World} {D : Nat} {k lo hi : Int} {xo : Option Addr} {nn xc : Nat} {yo : Option Addr} {np yc : Nat} {zo : Option Addr} {nr zc : Nat} {t : Lat} {ps : List SxV} {ls : List PV} {qs : List SxV} {i : Nat} {ds : List PV} {j : Nat} {wr w2 : World}
theorem KI.call (h : KI w D k lo hi xo nn xc yo np yc zo nr zc t ps ls qs i ds j wr) (hb : Below wr.heap.size wr w2) : KI w D k lo hi xo nn xc yo np yc zo nr zc t ps ls qs i ds j w2 := by
  have h1 := h.d1
  have h2 := h.d2
  have hs : ∀ g, g < D → w2.heap[g]? = wr.heap[g]? := fun g hg => hb.block _ (by omega)
  exact ⟨h.bel.trans (hb.mono h.bel.size), h.d1, Nat.le_trans h.d2 hb.size, (hs _ (by omega)).trans h.box, (hs _ (by omega)).trans h.res, own_same h.nam fun g hg => hs g (h.ltx g hg), own_same h.par fun g hg => hs g (h.lty g hg).1, own_same h.rul fun g hg => hs g (h.ltz g hg).1,
    h.ltx, h.lty, h.ltz, h.ql, h.dl, fun m y u hy hu => (by obtain ⟨x, e, hx⟩ := h.kids m y u hy hu; exact ⟨x, e, hx.keep hb.size fun k _ hk => hb.block k hk⟩),
    fun m d r hd hr => ⟨(h.ruls m d r hd hr).1.keep (h.ruls m d r hd hr).2.1 hb.size fun k _ hk => hb.block k hk, (h.ruls m d r hd hr).2⟩⟩
/-- Stores into one own row leave all else. -/
theorem KI.other (h : KI w D k lo hi xo nn xc yo np yc zo nr zc t ps ls qs i ds j wr) {g : Nat} (hg : w.heap.size + 2 ≤ g) (hgD : g < D) (hsz : w2.heap.size = wr.heap.size) (ho : ∀ b, b ≠ g → w2.heap[b]? = wr.heap[b]?) (hos : w2.os = wr.os ∧ w2.tape = wr.tape ∧ w2.output = wr.output) :
    Below w.heap.size w w2 ∧ D ≤ w2.heap.size ∧ w2.heap[w.heap.size]? = wr.heap[w.heap.size]? ∧ w2.heap[w.heap.size + 1]? = wr.heap[w.heap.size + 1]? ∧
    (∀ (m : Nat) (y : SxV) (u : Lat), qs[m]? = some y → t.ps[m]? = some u → ∃ x : LX, y = x.q ∧ LB D w2 x u) ∧ (∀ (m : Nat) (d : PV) (r : Gr), ds[m]? = some d → t.rs[m]? = some r → Rd w2 d.1 (ss r.1) ∧ Ge D d.1 ∧ d.2 = .string (ba r.2)) := by
  have h2 := h.d2
  have hk : ∀ b, D ≤ b → b < wr.heap.size → w2.heap[b]? = wr.heap[b]? := fun b hb _ => ho b (by omega)
  refine ⟨⟨hos.1.trans h.bel.os, hos.2.1.trans h.bel.tape, hos.2.2.trans h.bel.output, by rw [hsz]; exact h.bel.size, fun b hb => (ho b (by omega)).trans (h.bel.block b hb)⟩, by omega, ho _ (by omega), ho _ (by omega), fun m y u hy hu => ?_, fun m d r hd hr => ?_⟩
  · obtain ⟨x, e, hx⟩ := h.kids m y u hy hu
    exact ⟨x, e, hx.keep (by omega) hk⟩
  · exact ⟨(h.ruls m d r hd hr).1.keep (h.ruls m d r hd hr).2.1 (by omega) hk, (h.ruls m d r hd hr).2⟩
end
end Go.Proofs.Ythgfhplhjplmcaa
