/- Texts in one: LatLs, LatLp, LatRd, LatRdy, LatRfu. -/
import Derived.Test.YtdmonbcinlmljaaMgNE
import Derived.Deep.CutRange
import Derived.Deep.RegionLaw
set_option linter.unusedVariables false
set_option linter.unusedSimpArgs false
/- Descriptions whose rows lie in given blocks; the boxes of read. Bounds on sizes alone. -/
namespace Go.Proofs.Ytdmonbcinlmljaa
open Go.RowKit

theorem In.mono {S T : Nat → Prop} {v : Value} (h : In S v) (hs : ∀ k, S k → T k) : In T v := fun a n c e => hs _ (h a n c e)
theorem in_nil (S : Nat → Prop) : In S (.slice none 0 0) := fun a n c e => by cases e
theorem Rd.keepS {S : Nat → Prop} {w w' : World} {v : Value} {l : List Value} (h : Rd w v l) (hB : In S v) (hs : w.heap.size ≤ w'.heap.size) (hk : ∀ k, S k → k < w.heap.size → w'.heap[k]? = w.heap[k]?) : Rd w' v l := by
  obtain ⟨ao, cap, e, h2, h3, h4⟩ := h
  refine ⟨ao, cap, e, h2, h3, fun h0 => ?_⟩
  obtain ⟨g, o, rfl, hg, hc⟩ := h4 h0
  have hb := hk g (hB _ _ _ e) hg
  exact ⟨g, o, rfl, by omega, fun i t ht => (World.cell?_of_block (w := w) hb).trans (hc i t ht)⟩
theorem PRd.keepS {S : Nat → Prop} {w w' : World} {v : Value} {l : List PV} (h : PRd w v l) (hB : In S v) (hs : w.heap.size ≤ w'.heap.size) (hk : ∀ k, S k → k < w.heap.size → w'.heap[k]? = w.heap[k]?) : PRd w' v l := by
  obtain ⟨ao, cap, e, h2, h3, h4⟩ := h
  refine ⟨ao, cap, e, h2, h3, fun h0 => ?_⟩
  obtain ⟨g, o, rfl, hg, hc⟩ := h4 h0
  have hb := hk g (hB _ _ _ e) hg
  refine ⟨g, o, rfl, by omega, fun i t ht => ?_⟩
  obtain ⟨c0, c1⟩ := hc i t ht
  exact ⟨(World.cell?_of_block (w := w) hb).trans c0, (World.cell?_of_block (w := w) hb).trans c1⟩
theorem SxRd.keepS {S : Nat → Prop} {w w' : World} {v : Value} {l : List SxV} (h : SxRd w v l) (hB : In S v) (hs : w.heap.size ≤ w'.heap.size) (hk : ∀ k, S k → k < w.heap.size → w'.heap[k]? = w.heap[k]?) : SxRd w' v l := by
  obtain ⟨ao, cap, e, h2, h3, h4⟩ := h
  refine ⟨ao, cap, e, h2, h3, fun h0 => ?_⟩
  obtain ⟨g, o, rfl, hg, hc⟩ := h4 h0
  have hb := hk g (hB _ _ _ e) hg
  refine ⟨g, o, rfl, by omega, fun i t ht => ?_⟩
  obtain ⟨c0, c1, c2, c3, c4, c5⟩ := hc i t ht
  exact ⟨(World.cell?_of_block (w := w) hb).trans c0, (World.cell?_of_block (w := w) hb).trans c1, (World.cell?_of_block (w := w) hb).trans c2, (World.cell?_of_block (w := w) hb).trans c3, (World.cell?_of_block (w := w) hb).trans c4, (World.cell?_of_block (w := w) hb).trans c5⟩
/-- Names in a row of S. -/
def NS (S : Nat → Prop) (w : World) (v : Value) (ns : List Str) : Prop := Rd w v (ss ns) ∧ In S v
def Keeps (S : Nat → Prop) (w w' : World) : Prop := w.heap.size ≤ w'.heap.size ∧ ∀ k, S k → k < w.heap.size → w'.heap[k]? = w.heap[k]?
theorem NS.keep {S : Nat → Prop} {w w' : World} {v : Value} {ns : List Str} (h : NS S w v ns) (k : Keeps S w w') : NS S w' v ns := ⟨h.1.keepS h.2 k.1 k.2, h.2⟩
theorem NS.mono {S T : Nat → Prop} {w : World} {v : Value} {ns : List Str} (h : NS S w v ns) (hs : ∀ k, S k → T k) : NS T w v ns := ⟨h.1, h.2.mono hs⟩
theorem ns_nil (S : Nat → Prop) (w : World) : NS S w (.slice none 0 0) [] := ⟨⟨none, 0, rfl, Nat.le_refl _, by omega, fun h => by simp [ss] at h⟩, in_nil S⟩
/-- Rules in rows of S. -/
def RuS (S : Nat → Prop) (w : World) (v : Value) (rs : List Gr) : Prop := ∃ l : List PV, PRd w v l ∧ In S v ∧ l.length = rs.length ∧ ∀ (i : Nat) (t : PV) (r : Gr), l[i]? = some t → rs[i]? = some r → NS S w t.1 r.1 ∧ t.2 = .string (ba r.2)
theorem RuS.keep {S : Nat → Prop} {w w' : World} {v : Value} {rs : List Gr} (h : RuS S w v rs) (k : Keeps S w w') : RuS S w' v rs := by
  obtain ⟨l, h1, h2, h3, h4⟩ := h
  exact ⟨l, h1.keepS h2 k.1 k.2, h2, h3, fun i t r ht hr => ⟨(h4 i t r ht hr).1.keep k, (h4 i t r ht hr).2⟩⟩
theorem RuS.mono {S T : Nat → Prop} {w : World} {v : Value} {rs : List Gr} (h : RuS S w v rs) (hs : ∀ k, S k → T k) : RuS T w v rs := by
  obtain ⟨l, h1, h2, h3, h4⟩ := h
  exact ⟨l, h1, h2.mono hs, h3, fun i t r ht hr => ⟨(h4 i t r ht hr).1.mono hs, (h4 i t r ht hr).2⟩⟩
theorem RuS.ru {S : Nat → Prop} {w : World} {v : Value} {rs : List Gr} (h : RuS S w v rs) : RuR w v rs := by
  obtain ⟨l, h1, h2, h3, h4⟩ := h
  exact ⟨l, h1, h3, fun i t r ht hr => ⟨(h4 i t r ht hr).1.1, (h4 i t r ht hr).2⟩⟩
theorem rus_nil (S : Nat → Prop) (w : World) : RuS S w (.slice none 0 0) [] := ⟨[], ⟨none, 0, rfl, Nat.le_refl _, by omega, fun h => by simp at h⟩, in_nil S, rfl, fun i t r h => by simp at h⟩
/-- The cells x are the description t, all of its rows in S. -/
inductive LS (S : Nat → Prop) (w : World) : LX → Lat → Prop
  | mk {x : LX} {t : Lat} (ps : List LX) (hk : x.k = t.k) (hlo : x.lo = t.lo) (hhi : x.hi = t.hi) (rk : R64 x.k) (rlo : R64 x.lo) (rhi : R64 x.hi)
      (hn : NS S w x.vn t.ns) (on : Ok t.ns) (hr : RuS S w x.vr t.rs) (or : OkR t.rs) (hp : SxRd w x.vp (ps.map LX.q)) (bp : In S x.vp) (hl : ps.length = t.ps.length)
      (hd : ∀ (i : Nat) (y : LX) (u : Lat), ps[i]? = some y → t.ps[i]? = some u → LS S w y u) : LS S w x t
theorem LS.keep {S : Nat → Prop} {w w' : World} {x : LX} {t : Lat} (h : LS S w x t) (k : Keeps S w w') : LS S w' x t := by
  induction h with
  | mk ps h1 h2 h3 rk rlo rhi hn on hr or hp bp hl hd ih => exact .mk ps h1 h2 h3 rk rlo rhi (hn.keep k) on (hr.keep k) or (hp.keepS bp k.1 k.2) bp hl ih
theorem LS.mono {S T : Nat → Prop} {w : World} {x : LX} {t : Lat} (h : LS S w x t) (hs : ∀ k, S k → T k) : LS T w x t := by
  induction h with
  | mk ps h1 h2 h3 rk rlo rhi hn on hr or hp bp hl hd ih => exact .mk ps h1 h2 h3 rk rlo rhi (hn.mono hs) on (hr.mono hs) or hp (bp.mono hs) hl ih
theorem LS.ld {S : Nat → Prop} {w : World} {x : LX} {t : Lat} (h : LS S w x t) : LD w x t := by
  induction h with
  | mk ps h1 h2 h3 rk rlo rhi hn on hr or hp bp hl hd ih => exact .mk ps h1 h2 h3 rk rlo rhi hn.1 on hr.ru or hp hl ih
/-- Descriptions in a row of S. -/
def PS (S : Nat → Prop) (w : World) (v : Value) (ts : List Lat) : Prop := ∃ ps : List LX, SxRd w v (ps.map LX.q) ∧ In S v ∧ ps.length = ts.length ∧ ∀ (i : Nat) (y : LX) (u : Lat), ps[i]? = some y → ts[i]? = some u → LS S w y u
theorem PS.keep {S : Nat → Prop} {w w' : World} {v : Value} {ts : List Lat} (h : PS S w v ts) (k : Keeps S w w') : PS S w' v ts := by
  obtain ⟨ps, h1, h2, h3, h4⟩ := h
  exact ⟨ps, h1.keepS h2 k.1 k.2, h2, h3, fun i y u hy hu => (h4 i y u hy hu).keep k⟩
theorem PS.mono {S T : Nat → Prop} {w : World} {v : Value} {ts : List Lat} (h : PS S w v ts) (hs : ∀ k, S k → T k) : PS T w v ts := by
  obtain ⟨ps, h1, h2, h3, h4⟩ := h
  exact ⟨ps, h1, h2.mono hs, h3, fun i y u hy hu => (h4 i y u hy hu).mono hs⟩
theorem ps_nil (S : Nat → Prop) (w : World) : PS S w (.slice none 0 0) [] := ⟨[], sxrd_nil w, in_nil S, rfl, fun i y u h => by simp at h⟩
theorem keeps_bel {S : Nat → Prop} {B : Nat} {w w' : World} (h : Below B w w') (hs : ∀ k, S k → k < B) : Keeps S w w' := ⟨h.size, fun k hk _ => h.block k (hs k hk)⟩
theorem keeps_alloc (S : Nat → Prop) (w : World) (o : Obj) : Keeps S w (w.alloc o) := ⟨(bel_alloc w o).size, fun k _ hk => (bel_alloc w o).block k hk⟩
theorem keeps_set {S : Nat → Prop} (w : World) (p j : Nat) (v : Value) (hs : ¬ S p) : Keeps S w (w.setCell ⟨p, j, none⟩ v) := ⟨by simp, fun k hk _ => Below.heap_setCell _ _ _ _ (fun e => hs ((show k = p from e) ▸ hk))⟩
theorem keeps_rg {S : Nat → Prop} {b g : Nat} {d : List Int} {w w' : World} {off : Nat} (h : RG b g d w w' off) (hs : ¬ S b) : Keeps S w w' := ⟨h.size, fun k hk hlt => h.blk hlt (fun e => hs (by rw [← e]; exact hk))⟩
theorem keeps_grown {S : Nat → Prop} {w w' : World} {row : Option Nat} (h : w.grownBy w' row) (hs : ∀ k, S k → row ≠ some k) : Keeps S w w' := ⟨h.size, fun k hk hlt => h.block k hlt (fun e => hs k hk e.symm)⟩
theorem Keeps.trans {S : Nat → Prop} {w w1 w2 : World} (h : Keeps S w w1) (k : Keeps S w1 w2) : Keeps S w w2 := ⟨Nat.le_trans h.1 k.1, fun x hx hl => (k.2 x hx (Nat.lt_of_lt_of_le hl h.1)).trans (h.2 x hx hl)⟩
/-- The blocks behind p of now. -/
abbrev Bh (p : Nat) (w : World) : Nat → Prop := fun k => p < k ∧ k < w.heap.size
theorem bh_mono {p : Nat} {w w' : World} (h : w.heap.size ≤ w'.heap.size) : ∀ k, Bh p w k → Bh p w' k := fun k hk => ⟨hk.1, by omega⟩
theorem ps_one {S T : Nat → Prop} {w4 : World} {x : LX} {u : Lat} (h : LS S w4 x u) (hST : ∀ k, S k → T k) (hT : T w4.heap.size) (E : TypeId) : PS T (w4.alloc (.cells #[x.q.a, x.q.b, x.q.c, x.q.d, x.q.e, x.q.f] E)) (.slice (some ⟨w4.heap.size, 0, none⟩) 1 1) [u] := by
  refine ⟨[x], sxrd_new, fun a n c e => by cases e; exact hT, rfl, fun i y v hy hv => ?_⟩
  have hi : i = 0 := by have := (List.getElem?_eq_some_iff.1 hy).1; simp at this; omega
  subst hi
  simp at hy hv
  subst hy hv
  exact (h.keep (keeps_alloc S w4 _)).mono hST
theorem sxrd_all {w : World} {l : List SxV} {E : TypeId} {m : Nat × Nat} (hl : l.length ≤ 9223372036854775807) : SxRd (w.alloc (.cells (sxds l).toArray E m)) (.slice (some ⟨w.heap.size, 0, none⟩) l.length l.length) l := by
  refine ⟨_, _, rfl, Nat.le_refl _, hl, fun _ => ⟨_, _, rfl, by simp, fun i u hi => ?_⟩⟩
  obtain ⟨g0, g1, g2, g3, g4, g5⟩ := sxds_get l i u hi
  have hc : ∀ j v, (sxds l)[j]? = some v → (w.alloc (.cells (sxds l).toArray E m)).cell? ⟨w.heap.size, 0 + j, none⟩ = some v := fun j v hv => by
    have := World.news_of_block (heap_alloc_new w (.cells (sxds l).toArray E m)) j v (by simpa using hv)
    rw [Addr.add_mid] at this
    exact this
  exact ⟨hc _ _ g0, hc _ _ g1, hc _ _ g2, hc _ _ g3, hc _ _ g4, hc _ _ g5⟩
theorem ps_two {S S2 T : Nat → Prop} {w4 : World} {x y : LX} {u v : Lat} (h : LS S w4 x u) (h2 : LS S2 w4 y v) (hST : ∀ k, S k → T k) (hST2 : ∀ k, S2 k → T k) (hT : T w4.heap.size) (E : TypeId) : PS T (w4.alloc (.cells #[x.q.a, x.q.b, x.q.c, x.q.d, x.q.e, x.q.f, y.q.a, y.q.b, y.q.c, y.q.d, y.q.e, y.q.f] E)) (.slice (some ⟨w4.heap.size, 0, none⟩) 2 2) [u, v] := by
  refine ⟨[x, y], sxrd_all (l := [x.q, y.q]) (by simp), fun a n c e => by cases e; exact hT, rfl, fun i z t hy hv => ?_⟩
  match i with
  | 0 => simp at hy hv; subst hy hv; exact (h.keep (keeps_alloc S w4 _)).mono hST
  | 1 => simp at hy hv; subst hy hv; exact (h2.keep (keeps_alloc S2 w4 _)).mono hST2
  | n + 2 => simp at hy
theorem ns_mk {S T : Nat → Prop} {w : World} {v : Value} {ns : List Str} (h : Rd w v (ss ns)) (h2 : In S v) (hs : ∀ k, S k → T k) : NS T w v ns := ⟨h, h2.mono hs⟩
theorem NS.setBox {p : Nat} {w : World} {v : Value} {ns : List Str} (h : NS (Bh p w) w v ns) (j : Nat) (u : Value) : NS (Bh p (w.setCell ⟨p, j, none⟩ u)) (w.setCell ⟨p, j, none⟩ u) v ns :=
  (h.keep (keeps_set w p j u (fun hk => by have := hk.1; omega))).mono fun k hk => ⟨hk.1, by simpa using hk.2⟩
theorem PS.setBox {p : Nat} {w : World} {v : Value} {ts : List Lat} (h : PS (Bh p w) w v ts) (j : Nat) (u : Value) : PS (Bh p (w.setCell ⟨p, j, none⟩ u)) (w.setCell ⟨p, j, none⟩ u) v ts :=
  (h.keep (keeps_set w p j u (fun hk => by have := hk.1; omega))).mono fun k hk => ⟨hk.1, by simpa using hk.2⟩
theorem RuS.setBox {p : Nat} {w : World} {v : Value} {rs : List Gr} (h : RuS (Bh p w) w v rs) (j : Nat) (u : Value) : RuS (Bh p (w.setCell ⟨p, j, none⟩ u)) (w.setCell ⟨p, j, none⟩ u) v rs :=
  (h.keep (keeps_set w p j u (fun hk => by have := hk.1; omega))).mono fun k hk => ⟨hk.1, by simpa using hk.2⟩
theorem NS.alloc {p : Nat} {w : World} {v : Value} {ns : List Str} (h : NS (Bh p w) w v ns) (o : Obj) : NS (Bh p (w.alloc o)) (w.alloc o) v ns := (h.keep (keeps_alloc _ w o)).mono (bh_mono (bel_alloc w o).size)
/-- What read gives. -/
def RdP (b g : Nat) (d : List Int) (t : Lat) (off : Nat) (w : World) (e : Ending) (w' : World) : Prop := ∃ (xo : Option Addr) (xc : Nat) (yo : Option Addr) (yc : Nat) (zo : Option Addr) (zc : Nat), e = .returned (.agg #[.int .i64 t.k, .int .i64 t.lo, .int .i64 t.hi, .slice xo t.ns.length xc, .slice yo t.ps.length yc, .slice zo t.rs.length zc]) ∧
  LS (fun k => w.heap.size ≤ k ∧ k < w'.heap.size) w' ⟨t.k, t.lo, t.hi, .slice xo t.ns.length xc, .slice yo t.ps.length yc, .slice zo t.rs.length zc⟩ t ∧ RG b g d w w' (off + (encL t).length)
/-- read's boxes: the result's, untouched, and the description's in block p. -/
structure RS (b g : Nat) (d : List Int) (w : World) (p : Nat) (x0 x1 x2 x3 x4 x5 : Value) (off : Nat) (wr : World) : Prop where
  rg : RG b g d w wr off
  hb : b < w.heap.size ∧ g < w.heap.size
  hp : w.heap.size < p ∧ p < wr.heap.size
  res : wr.heap[w.heap.size]? = some (.cells [.int .i64 0, .int .i64 0, .int .i64 0, .slice none 0 0, .slice none 0 0, .slice none 0 0].toArray 26 (0, 0))
  box : wr.heap[p]? = some (.cells [x0, x1, x2, x3, x4, x5].toArray 26 (0, 0))
section
variable {b g : Nat} {d : List Int} {w : World} {p : Nat} {x0 x1 x2 x3 x4 x5 : Value} {off off' : Nat} {wr w2 : World}
theorem RS.call (h : RS b g d w p x0 x1 x2 x3 x4 x5 off wr) (k : RG b g d wr w2 off') : RS b g d w p x0 x1 x2 x3 x4 x5 off' w2 := by
  have h1 := h.hb
  have h2 := h.hp
  exact ⟨h.rg.trans k, h1, ⟨h2.1, Nat.lt_of_lt_of_le h2.2 k.size⟩, (k.blk (by omega) (by omega)).trans h.res, (k.blk h2.2 (by omega)).trans h.box⟩
theorem RS.bel {B : Nat} (h : RS b g d w p x0 x1 x2 x3 x4 x5 off wr) (hb : Below B wr w2) (hB : p < B) : RS b g d w p x0 x1 x2 x3 x4 x5 off w2 := by
  have h1 := h.hb
  have h2 := h.hp
  exact ⟨h.rg.bel hb (by omega) (by omega) (by omega), h1, ⟨h2.1, Nat.lt_of_lt_of_le h2.2 hb.size⟩, (hb.block _ (by omega)).trans h.res, (hb.block _ hB).trans h.box⟩
theorem RS.alloc (h : RS b g d w p x0 x1 x2 x3 x4 x5 off wr) (o : Obj) : RS b g d w p x0 x1 x2 x3 x4 x5 off (wr.alloc o) := h.bel (bel_alloc wr o) h.hp.2
theorem RS.drew (h : RS b g d w p x0 x1 x2 x3 x4 x5 off wr) : RS b g d w p x0 x1 x2 x3 x4 x5 off wr.drew := h.bel (B := wr.heap.size) (Below.refl _ _).drew h.hp.2
theorem RS.set (h : RS b g d w p x0 x1 x2 x3 x4 x5 off wr) (j : Nat) (v : Value) {y0 y1 y2 y3 y4 y5 : Value} (e : [x0, x1, x2, x3, x4, x5].set j v = [y0, y1, y2, y3, y4, y5]) : RS b g d w p y0 y1 y2 y3 y4 y5 off (wr.setCell ⟨p, j, none⟩ v) := by
  have h1 := h.hb
  have h2 := h.hp
  obtain ⟨⟨last, s⟩, k⟩ := h.rg
  refine ⟨⟨⟨last, s.same (set_blk 0 (by omega)) (set_blk 0 (by omega))⟩, ⟨k.os, k.tape, k.output, by simpa using k.size, fun x hx hn => (set_blk 0 (by omega)).trans (k.block x hx hn)⟩⟩, h1, ⟨h2.1, by simpa using h2.2⟩, (set_blk 0 (by omega)).trans h.res, ?_⟩
  rw [← e]
  exact Go.Proofs.Ytdmonbcinlmljaa.blk_setCell (k := j) h.box
theorem RS.cells (h : RS b g d w p x0 x1 x2 x3 x4 x5 off wr) : wr.cell? ⟨p, 0, none⟩ = some x0 ∧ wr.cell? ⟨p, 1, none⟩ = some x1 ∧ wr.cell? ⟨p, 2, none⟩ = some x2 ∧ wr.cell? ⟨p, 3, none⟩ = some x3 ∧ wr.cell? ⟨p, 4, none⟩ = some x4 ∧ wr.cell? ⟨p, 5, none⟩ = some x5 :=
  ⟨cell_blk h.box rfl, cell_blk h.box rfl, cell_blk h.box rfl, cell_blk h.box rfl, cell_blk h.box rfl, cell_blk h.box rfl⟩
theorem RS.free (h : RS b g d w p x0 x1 x2 x3 x4 x5 off wr) (j : Nat) : wr.frozen? ⟨p, j, none⟩ = false := fr_blk h.box j
theorem NS.call {v : Value} {ns : List Str} (n : NS (Bh p wr) wr v ns) (h : RS b g d w p x0 x1 x2 x3 x4 x5 off wr) (k : RG b g d wr w2 off') : NS (Bh p w2) w2 v ns :=
  (n.keep (keeps_rg k (fun hk => by have := hk.1; have := h.hp; have := h.hb; omega))).mono (bh_mono k.size)
/-- Behind the first number. -/
theorem RS.start {w1 : World} (h : RG b g d (w.alloc (.cells [.int .i64 0, .int .i64 0, .int .i64 0, .slice none 0 0, .slice none 0 0, .slice none 0 0].toArray 26 (0, 0))) w1 off) (hb : b < w.heap.size ∧ g < w.heap.size) (k : Value) :
    RS b g d w w1.heap.size k (.int .i64 0) (.int .i64 0) (.slice none 0 0) (.slice none 0 0) (.slice none 0 0) off (w1.alloc (.cells [k, .int .i64 0, .int .i64 0, .slice none 0 0, .slice none 0 0, .slice none 0 0].toArray 26 (0, 0))) := by
  have hs : (w.alloc (.cells [.int .i64 0, .int .i64 0, .int .i64 0, .slice none 0 0, .slice none 0 0, .slice none 0 0].toArray 26 (0, 0))).heap.size = w.heap.size + 1 := by simp
  have h1 := h.size
  rw [hs] at h1
  refine ⟨h.of_alloc.alloc _, hb, ⟨by omega, by simp⟩, ?_, heap_alloc_new w1 _⟩
  exact ((bel_alloc w1 _).block _ (by omega)).trans ((h.blk (by omega) (by omega)).trans (heap_alloc_new w _))
/-- All stands: the result box is filled. -/
theorem RS.fin {t : Lat} {xo : Option Addr} {xc : Nat} {yo : Option Addr} {yc : Nat} {zo : Option Addr} {zc : Nat} (h : RS b g d w p (.int .i64 t.k) (.int .i64 t.lo) (.int .i64 t.hi) (.slice xo t.ns.length xc) (.slice yo t.ps.length yc) (.slice zo t.rs.length zc) (off + (encL t).length) wr) (hok : Okay t)
    (hn : NS (Bh p wr) wr (.slice xo t.ns.length xc) t.ns) (hp : PS (Bh p wr) wr (.slice yo t.ps.length yc) t.ps) (hr : RuS (Bh p wr) wr (.slice zo t.rs.length zc) t.rs) (cs : Array Value) {e : Ending} (he : e = .returned (.agg #[.int .i64 t.k, .int .i64 t.lo, .int .i64 t.hi, .slice xo t.ns.length xc, .slice yo t.ps.length yc, .slice zo t.rs.length zc])) : RdP b g d t off w e (wr.setRow w.heap.size cs) := by
  subst he
  have h1 := h.hb
  have h2 := h.hp
  have hN := hok.node
  have hlo := hN.lo
  have hhi := hN.hi
  have hkk := hN.kk
  have hK : Keeps (Bh p wr) wr (wr.setRow w.heap.size cs) := ⟨by simp [World.setRow], fun k hk _ => setRow_other _ _ _ _ (by have := hk.1; omega)⟩
  have hM : ∀ k, Bh p wr k → w.heap.size ≤ k ∧ k < (wr.setRow w.heap.size cs).heap.size := fun k hk => ⟨by have := hk.1; omega, by have := hk.2; simp [World.setRow]; omega⟩
  obtain ⟨ps, p1, p2, p3, p4⟩ := (hp.keep hK).mono hM
  refine ⟨xo, xc, yo, yc, zo, zc, rfl, .mk ps rfl rfl rfl ⟨by simp only; omega, by simp only; omega⟩ ⟨by simp only; omega, by simp only; omega⟩ ⟨by simp only; omega, by simp only; omega⟩ ((hn.keep hK).mono hM) (fun y hy => by have := hN.nm y hy; omega) ((hr.keep hK).mono hM) (fun r hr => ⟨fun y hy => by have := (hN.ru r hr).1.2 y hy; omega, by have := (hN.ru r hr).2; omega, by have := (hN.ru r hr).1.1; omega⟩) p1 p2 p3 p4, ?_⟩
  obtain ⟨⟨last, s⟩, k⟩ := h.rg
  exact ⟨⟨last, s.same (setRow_other _ _ _ _ (by omega)) (setRow_other _ _ _ _ (by omega))⟩, ⟨k.os, k.tape, k.output, by simpa [World.setRow] using k.size, fun x hx hn => (setRow_other _ _ _ _ (by omega)).trans (k.block x hx hn)⟩⟩
end
end Go.Proofs.Ytdmonbcinlmljaa

/- The loops of read: rows that grow, and what hangs on them. Bounds on sizes alone. -/
namespace Go.Proofs.Ytdmonbcinlmljaa
open Go.RowKit

theorem own_blkL {W : World} {B e s n k : Nat} {v : Value} {xs : List Value} (ho : W.ownsRow B e s v n xs) (hk : v.ownBlock = some k) : ∃ cur, W.heap[k]? = some (.cells cur e (0, 0)) := by
  rcases ho.2 with ⟨e, _⟩ | ⟨q, cap, cur, e, _, h2, _⟩
  · rw [e] at hk; cases hk
  · rw [e] at hk
    simp only [Value.ownBlock, Option.some.injEq] at hk
    subst hk
    exact ⟨_, h2⟩
theorem latL6 : Elem6 Try.prog 23 26 (.agg #[.int .i64 0, .int .i64 0, .int .i64 0, .slice none 0 0, .slice none 0 0, .slice none 0 0]) 96 := ⟨Try.underlying23, by kernel_rfl, rfl⟩
theorem rulL2 : Elem2 Try.prog 24 47 (.agg #[.slice none 0 0, .string ⟨#[]⟩]) 40 := ⟨Try.underlying24, by kernel_rfl, rfl⟩
/-- A row has grown, in its block or in a new one. -/
structure GA (B : Nat) (E : TypeId) (sz : Nat) (W w4 : World) (v v' : Value) (n : Nat) (xs : List Value) : Prop where
  own : w4.ownsRow B E sz v' n xs
  gr : W.grownBy w4 v.ownBlock
  fr : v'.ownBlock = v.ownBlock ∨ v'.ownBlock = some W.heap.size
theorem step_gen {P : Program} {ops : Array Oper} {o : Oper} {a : Act} {w : World} {K : Act → World → Prop} {Q : Exit → Act → World → Prop} {F : Prop} (S E : TypeId) (z : Value) (eb sz : Nat) (hu : P.underlying S = some (.slice E)) (hi : (P.info? E).map (fun i => (i.zero, i.size, i.bytes)) = some (some z, sz, eb)) (hz : z.cells.size = sz) (hp : 0 < sz) (hgd : o.guard = none) (s x : Operand)
    (ho : o.op = .call { callee := .builtin .append, args := #[s, x], argTypes := #[S, S] })
    {B : Nat} {v : Value} {n : Nat} {l : List Value} (hv : a.eval s = v) (H : w.ownsRow B E sz v n l) (hB : B ≤ w.heap.size) {vx : Value} {m : Nat} {news : List Value} (hx : a.eval x = vx) (L : Src P sz S vx m news w) (hl : (n + m) * eb ≤ 140737488355328) (hl2 : n + m ≤ 140737488355328)
    (h : ∀ (ao : Option Addr) (cap : Nat) (w' : World), GA B E sz w w' v (.slice ao (n + m) cap) (n + m) (l ++ news) → K (a.put o.dst (.slice ao (n + m) cap)) w') :
    if Region.wanted o (yielded ops a.tmps) = true then Oper.wp P o a w K Q else F := by
  obtain ⟨i0, hi, hz0, hz1, hz2⟩ := info_parts hi
  refine step_append_src _ hgd s x S S ho B E i0 z sz eb hu hi hz0 hz1 hz2 hz hp v n l hv H vx m news hx L (by unfold maxLen; omega) (by omega) hB ?_
  intro v2 w2 hown hg _ hf
  obtain ⟨ao, cap, rfl⟩ := own_shape hown
  exact h ao cap w2 ⟨hown, hg, hf⟩
abbrev SK (p : Nat) (W : World) (v v2 : Value) : Nat → Prop := fun k => (p < k ∧ k < W.heap.size) ∧ v.ownBlock ≠ some k ∧ v2.ownBlock ≠ some k
/-- The names and parts of a product so far. -/
structure LP (b g : Nat) (d : List Int) (w : World) (p : Nat) (ns : List Str) (ps : List Lat) (i j : Nat) (no : Option Addr) (nc : Nat) (po : Option Addr) (pc : Nat) (qs : List LX) (o : Nat) (wr : World) : Prop where
  st : RS b g d w p (.int .i64 6) (.int .i64 0) (.int .i64 0) (.slice no i nc) (.slice po j pc) (.slice none 0 0) o wr
  nam : wr.ownsRow (p + 1) 9 1 (.slice no i nc) i (ss (ns.take i))
  ql : qs.length = j
  par : wr.ownsRow (p + 1) 26 6 (.slice po j pc) j (sxds (qs.map LX.q))
  kid : ∀ (m : Nat) (y : LX) (u : Lat), qs[m]? = some y → ps[m]? = some u → LS (SK p wr (.slice no i nc) (.slice po j pc)) wr y u
section
variable {b g : Nat} {d : List Int} {w : World} {p : Nat} {ns : List Str} {ps : List Lat} {i j : Nat} {no : Option Addr} {nc : Nat} {po : Option Addr} {pc : Nat} {qs : List LX} {o o' : Nat} {wr w2 : World}
theorem LP.keep (h : LP b g d w p ns ps i j no nc po pc qs o wr) (k : RS b g d w p (.int .i64 6) (.int .i64 0) (.int .i64 0) (.slice no i nc) (.slice po j pc) (.slice none 0 0) o' w2) (hk : Keeps (fun k => p < k) wr w2) : LP b g d w p ns ps i j no nc po pc qs o' w2 :=
  ⟨k, own_same h.nam fun q hq => hk.2 q (by have := (h.nam.lt q hq).1; omega) (h.nam.lt q hq).2, h.ql, own_same h.par fun q hq => hk.2 q (by have := (h.par.lt q hq).1; omega) (h.par.lt q hq).2,
    fun m y u hy hu => ((h.kid m y u hy hu).keep ⟨hk.1, fun q hq hl => hk.2 q hq.1.1 hl⟩).mono fun q hq => ⟨⟨hq.1.1, Nat.lt_of_lt_of_le hq.1.2 hk.1⟩, hq.2⟩⟩
theorem LP.call (h : LP b g d w p ns ps i j no nc po pc qs o wr) (k : RG b g d wr w2 o') : LP b g d w p ns ps i j no nc po pc qs o' w2 :=
  h.keep (h.st.call k) (keeps_rg k (fun hb => by have := h.st.hb; have := h.st.hp; omega))
theorem LP.alloc (h : LP b g d w p ns ps i j no nc po pc qs o wr) (O : Obj) : LP b g d w p ns ps i j no nc po pc qs o (wr.alloc O) := h.keep (h.st.alloc O) (keeps_alloc _ wr O)
theorem LP.drew (h : LP b g d w p ns ps i j no nc po pc qs o wr) : LP b g d w p ns ps i j no nc po pc qs o wr.drew := h.keep h.st.drew ⟨Nat.le_refl _, fun _ _ _ => rfl⟩
theorem ga_bel {B E sz n : Nat} {W w4 : World} {v v' : Value} {xs l : List Value} {n0 : Nat} (h : GA B E sz W w4 v v' n xs) (h0 : W.ownsRow B E sz v n0 l) (hB : B ≤ W.heap.size) : Below B W w4 :=
  ⟨h.gr.os, h.gr.tape, h.gr.output, h.gr.size, fun k hk => h.gr.block k (by omega) (fun e => by have := (h0.lt k e.symm).1; omega)⟩
/-- A row of another type stays. -/
theorem ga_own {B B2 E e2 sz s2 n n0 m : Nat} {W w4 : World} {v v' v2 : Value} {xs l xs2 : List Value} (h : GA B E sz W w4 v v' n xs) (h0 : W.ownsRow B E sz v n0 l) (h2 : W.ownsRow B2 e2 s2 v2 m xs2) (he : e2 ≠ E) : w4.ownsRow B2 e2 s2 v2 m xs2 :=
  own_same h2 fun k hk => h.gr.block k (h2.lt k hk).2 (fun e => by
    obtain ⟨c1, h1⟩ := own_blkL h2 hk
    obtain ⟨c2, h3⟩ := own_blkL h0 e.symm
    rw [h1] at h3
    simp only [Option.some.injEq, Obj.cells.injEq] at h3
    exact he h3.2.1)
theorem ga_sk {B E sz n : Nat} {W w4 : World} {v v' v2 : Value} {xs : List Value} {p : Nat} (h : GA B E sz W w4 v v' n xs) : ∀ k, SK p W v v2 k → SK p w4 v' v2 k := fun k hk => ⟨⟨hk.1.1, Nat.lt_of_lt_of_le hk.1.2 h.gr.size⟩, fun e => by
  rcases h.fr with h1 | h1
  · exact hk.2.1 (by rw [← h1]; exact e)
  · rw [h1] at e
    have := hk.1.2
    simp at e
    omega, hk.2.2⟩
theorem sk_swap {p : Nat} {W : World} {v v2 : Value} : ∀ k, SK p W v v2 k → SK p W v2 v k := fun _ hk => ⟨hk.1, hk.2.2, hk.2.1⟩
/-- One name more. -/
theorem LP.name (h : LP b g d w p ns ps i j no nc po pc qs o wr) {x : Str} (hx : ns[i]? = some x) {ao : Option Addr} {cap : Nat} {w4 : World} (ga : GA (p + 1) 9 1 wr w4 (.slice no i nc) (.slice ao (i + 1) cap) (i + 1) (ss (ns.take i) ++ [.string (ba x)])) : LP b g d w p ns ps (i + 1) j ao cap po pc qs o (w4.setCell ⟨p, 3, none⟩ (.slice ao (i + 1) cap)) := by
  have hp := h.st.hp
  have hB := ga_bel ga h.nam (by omega)
  have s4 := (h.st.bel hB (by omega)).set 3 (.slice ao (i + 1) cap) rfl
  have ko : ∀ k, p < k → (w4.setCell ⟨p, 3, none⟩ (.slice ao (i + 1) cap)).heap[k]? = w4.heap[k]? := fun k hk => set_blk 0 (by omega)
  refine ⟨s4, ?_, h.ql, own_same (ga_own ga h.nam h.par (by decide)) fun k hk => ko k (by have := (h.par.lt k hk).1; omega), fun m y u hy hu => ?_⟩
  · rw [take_snocL hx, ss_append]
    exact own_same ga.own fun k hk => ko k (by have := (ga.own.lt k hk).1; omega)
  · refine ((((h.kid m y u hy hu).keep (keeps_grown ga.gr fun k hk => hk.2.1)).mono (ga_sk ga)).keep (keeps_set w4 p 3 _ fun hk => by have := hk.1.1; omega)).mono fun k hk => ⟨⟨hk.1.1, by simpa using hk.1.2⟩, hk.2⟩
/-- One part more. -/
theorem LP.part (h : LP b g d w p ns ps i j no nc po pc qs o wr) {x : LX} {u : Lat} (hu : ps[j]? = some u) (hx : LS (SK p wr (.slice no i nc) (.slice po j pc)) wr x u) {ao : Option Addr} {cap : Nat} {w4 : World} (ga : GA (p + 1) 26 6 wr w4 (.slice po j pc) (.slice ao (j + 1) cap) (j + 1) (sxds (qs.map LX.q) ++ sxds [x.q])) : LP b g d w p ns ps i (j + 1) no nc ao cap (qs ++ [x]) o (w4.setCell ⟨p, 4, none⟩ (.slice ao (j + 1) cap)) := by
  have hp := h.st.hp
  have hB := ga_bel ga h.par (by omega)
  have s4 := (h.st.bel hB (by omega)).set 4 (.slice ao (j + 1) cap) rfl
  have ko : ∀ k, p < k → (w4.setCell ⟨p, 4, none⟩ (.slice ao (j + 1) cap)).heap[k]? = w4.heap[k]? := fun k hk => set_blk 0 (by omega)
  have up : ∀ (y : LX) (v : Lat), LS (SK p wr (.slice no i nc) (.slice po j pc)) wr y v → LS (SK p (w4.setCell ⟨p, 4, none⟩ (.slice ao (j + 1) cap)) (.slice no i nc) (.slice ao (j + 1) cap)) (w4.setCell ⟨p, 4, none⟩ (.slice ao (j + 1) cap)) y v := fun y v hy =>
    ((((hy.keep (keeps_grown ga.gr fun k hk => hk.2.2)).mono fun k hk => sk_swap k (ga_sk ga k (sk_swap k hk))).keep (keeps_set w4 p 4 _ fun hk => by have := hk.1.1; omega)).mono fun k hk => ⟨⟨hk.1.1, by simpa using hk.1.2⟩, hk.2⟩)
  refine ⟨s4, own_same (ga_own ga h.par h.nam (by decide)) fun k hk => ko k (by have := (h.nam.lt k hk).1; omega), by simp [h.ql], ?_, fun m y v hy hv => ?_⟩
  · rw [List.map_append, sxds_append]
    exact own_same ga.own fun k hk => ko k (by have := (ga.own.lt k hk).1; omega)
  · by_cases e : m < qs.length
    · rw [List.getElem?_append_left e] at hy
      exact up y v (h.kid m y v hy hv)
    · rw [List.getElem?_append_right (by omega)] at hy
      have hm : m = qs.length := by have := (List.getElem?_eq_some_iff.1 hy).1; simp at this; omega
      subst hm
      simp at hy
      subst hy
      rw [h.ql, hu] at hv
      cases hv
      exact up x u hx
theorem LP.fin (h : LP b g d w p ns ps ns.length ps.length no nc po pc qs o wr) (h32 : ns.length ≤ 1000) : NS (Bh p wr) wr (.slice no ns.length nc) ns ∧ PS (Bh p wr) wr (.slice po ps.length pc) ps := by
  have hn := h.nam
  rw [List.take_length] at hn
  refine ⟨⟨(show Ow 9 (p + 1) wr wr (.slice no ns.length nc) (ss ns) from ⟨by have := h.st.hp; omega, Below.refl _ _, by rw [ss_length]; exact hn⟩).rd (by rw [ss_length]; omega), fun a n c e => by cases e; exact ⟨by have := (hn.lt a.block rfl).1; omega, (hn.lt a.block rfl).2⟩⟩, qs, ?_, fun a n c e => by cases e; exact ⟨by have := (h.par.lt a.block rfl).1; omega, (h.par.lt a.block rfl).2⟩, h.ql, fun m y u hy hu => (h.kid m y u hy hu).mono fun k hk => hk.1⟩
  have hp := h.par
  have hq : (qs.map LX.q).length = ps.length := by simp [h.ql]
  rw [← hq] at hp ⊢
  exact sx_rd_of_own hp
/-- The rules so far. -/
structure LQ (b g : Nat) (d : List Int) (w : World) (p : Nat) (ns : List Str) (rs : List Gr) (no : Option Addr) (nc : Nat) (j : Nat) (ro : Option Addr) (rc : Nat) (ds : List PV) (o : Nat) (wr : World) : Prop where
  st : RS b g d w p (.int .i64 10) (.int .i64 0) (.int .i64 0) (.slice no ns.length nc) (.slice none 0 0) (.slice ro j rc) o wr
  nam : NS (SK p wr (.slice ro j rc) (.slice none 0 0)) wr (.slice no ns.length nc) ns
  dl : ds.length = j
  rul : wr.ownsRow (p + 1) 47 2 (.slice ro j rc) j (prs ds)
  kid : ∀ (m : Nat) (t : PV) (r : Gr), ds[m]? = some t → rs[m]? = some r → NS (SK p wr (.slice ro j rc) (.slice none 0 0)) wr t.1 r.1 ∧ t.2 = .string (ba r.2)
variable {rs : List Gr} {ro : Option Addr} {rc : Nat} {ds : List PV}
theorem LQ.keep (h : LQ b g d w p ns rs no nc j ro rc ds o wr) (k : RS b g d w p (.int .i64 10) (.int .i64 0) (.int .i64 0) (.slice no ns.length nc) (.slice none 0 0) (.slice ro j rc) o' w2) (hk : Keeps (fun k => p < k) wr w2) : LQ b g d w p ns rs no nc j ro rc ds o' w2 := by
  have hk2 : Keeps (SK p wr (.slice ro j rc) (.slice none 0 0)) wr w2 := ⟨hk.1, fun q hq hl => hk.2 q hq.1.1 hl⟩
  have hm : ∀ q, SK p wr (.slice ro j rc) (.slice none 0 0) q → SK p w2 (.slice ro j rc) (.slice none 0 0) q := fun q hq => ⟨⟨hq.1.1, Nat.lt_of_lt_of_le hq.1.2 hk.1⟩, hq.2⟩
  exact ⟨k, (h.nam.keep hk2).mono hm, h.dl, own_same h.rul fun q hq => hk.2 q (by have := (h.rul.lt q hq).1; omega) (h.rul.lt q hq).2, fun m t r ht hr => ⟨((h.kid m t r ht hr).1.keep hk2).mono hm, (h.kid m t r ht hr).2⟩⟩
theorem LQ.call (h : LQ b g d w p ns rs no nc j ro rc ds o wr) (k : RG b g d wr w2 o') : LQ b g d w p ns rs no nc j ro rc ds o' w2 :=
  h.keep (h.st.call k) (keeps_rg k (fun hb => by have := h.st.hb; have := h.st.hp; omega))
theorem LQ.alloc (h : LQ b g d w p ns rs no nc j ro rc ds o wr) (O : Obj) : LQ b g d w p ns rs no nc j ro rc ds o (wr.alloc O) := h.keep (h.st.alloc O) (keeps_alloc _ wr O)
theorem LQ.drew (h : LQ b g d w p ns rs no nc j ro rc ds o wr) : LQ b g d w p ns rs no nc j ro rc ds o wr.drew := h.keep h.st.drew ⟨Nat.le_refl _, fun _ _ _ => rfl⟩
theorem LQ.rule (h : LQ b g d w p ns rs no nc j ro rc ds o wr) {v : Value} {r : Gr} (hu : rs[j]? = some r) (hv : NS (SK p wr (.slice ro j rc) (.slice none 0 0)) wr v r.1) {ao : Option Addr} {cap : Nat} {w4 : World} (ga : GA (p + 1) 47 2 wr w4 (.slice ro j rc) (.slice ao (j + 1) cap) (j + 1) (prs ds ++ prs [(v, .string (ba r.2))])) : LQ b g d w p ns rs no nc (j + 1) ao cap (ds ++ [(v, .string (ba r.2))]) o (w4.setCell ⟨p, 5, none⟩ (.slice ao (j + 1) cap)) := by
  have hp := h.st.hp
  have hB := ga_bel ga h.rul (by omega)
  have s4 := (h.st.bel hB (by omega)).set 5 (.slice ao (j + 1) cap) rfl
  have ko : ∀ k, p < k → (w4.setCell ⟨p, 5, none⟩ (.slice ao (j + 1) cap)).heap[k]? = w4.heap[k]? := fun k hk => set_blk 0 (by omega)
  have up : ∀ (y : Value) (l : List Str), NS (SK p wr (.slice ro j rc) (.slice none 0 0)) wr y l → NS (SK p (w4.setCell ⟨p, 5, none⟩ (.slice ao (j + 1) cap)) (.slice ao (j + 1) cap) (.slice none 0 0)) (w4.setCell ⟨p, 5, none⟩ (.slice ao (j + 1) cap)) y l := fun y l hy =>
    ((((hy.keep (keeps_grown ga.gr fun k hk => hk.2.1)).mono (ga_sk ga)).keep (keeps_set w4 p 5 _ fun hk => by have := hk.1.1; omega)).mono fun k hk => ⟨⟨hk.1.1, by simpa using hk.1.2⟩, hk.2⟩)
  refine ⟨s4, up _ _ h.nam, by simp [h.dl], ?_, fun m y q hy hq => ?_⟩
  · rw [prs_append]
    exact own_same ga.own fun k hk => ko k (by have := (ga.own.lt k hk).1; omega)
  · by_cases e : m < ds.length
    · rw [List.getElem?_append_left e] at hy
      exact ⟨up _ _ (h.kid m y q hy hq).1, (h.kid m y q hy hq).2⟩
    · rw [List.getElem?_append_right (by omega)] at hy
      have hm : m = ds.length := by have := (List.getElem?_eq_some_iff.1 hy).1; simp at this; omega
      subst hm
      simp at hy
      subst hy
      rw [h.dl, hu] at hq
      cases hq
      exact ⟨up _ _ hv, rfl⟩
theorem LQ.fin (h : LQ b g d w p ns rs no nc rs.length ro rc ds o wr) : NS (Bh p wr) wr (.slice no ns.length nc) ns ∧ RuS (Bh p wr) wr (.slice ro rs.length rc) rs := by
  refine ⟨h.nam.mono fun k hk => hk.1, ds, ?_, fun a n c e => by cases e; exact ⟨by have := (h.rul.lt a.block rfl).1; omega, (h.rul.lt a.block rfl).2⟩, h.dl, fun m t r ht hr => ⟨(h.kid m t r ht hr).1.mono fun k hk => hk.1, (h.kid m t r ht hr).2⟩⟩
  have h2 := h.rul
  rw [← h.dl] at h2 ⊢
  exact (show OP 47 (p + 1) wr wr (.slice ro ds.length rc) ds from ⟨by have := h.st.hp; omega, Below.refl _ _, h2⟩).prd
theorem lp_start (h : RS b g d w p (.int .i64 6) (.int .i64 0) (.int .i64 0) (.slice none 0 0) (.slice none 0 0) (.slice none 0 0) o wr) : LP b g d w p ns ps 0 0 none 0 none 0 [] o wr :=
  ⟨h, by rw [List.take_zero]; exact World.ownsRow_nil _ _ _ _, rfl, World.ownsRow_nil _ _ _ _, fun m y u hy => by simp at hy⟩
theorem lp_kid (h : LP b g d w p ns ps i j no nc po pc qs o wr) (k : RG b g d wr w2 o') {x : LX} {u : Lat} (hx : LS (fun k => wr.heap.size ≤ k ∧ k < w2.heap.size) w2 x u) : LS (SK p w2 (.slice no i nc) (.slice po j pc)) w2 x u :=
  hx.mono fun q hq => ⟨⟨by have := h.st.hp; omega, hq.2⟩, fun e => by have := (h.nam.lt q e).2; omega, fun e => by have := (h.par.lt q e).2; omega⟩
theorem sk_alloc (p : Nat) (W : World) (O : Obj) (v v2 : Value) : ∀ k, SK p W v v2 k → SK p (W.alloc O) v v2 k := fun k hk => ⟨⟨hk.1.1, by have := hk.1.2; simp; omega⟩, hk.2⟩
theorem lq_start (h : RS b g d w p (.int .i64 10) (.int .i64 0) (.int .i64 0) (.slice no ns.length nc) (.slice none 0 0) (.slice none 0 0) o wr) (hn : NS (Bh p wr) wr (.slice no ns.length nc) ns) : LQ b g d w p ns rs no nc 0 none 0 [] o wr :=
  ⟨h, hn.mono fun k hk => ⟨hk, by simp [Value.ownBlock], by simp [Value.ownBlock]⟩, rfl, World.ownsRow_nil _ _ _ _, fun m t r ht => by simp at ht⟩
theorem lq_kid (h : LQ b g d w p ns rs no nc j ro rc ds o wr) (k : RG b g d wr w2 o') {v : Value} {l : List Str} (h1 : Rd w2 v (ss l)) (h2 : In (fun k => wr.heap.size ≤ k ∧ k < w2.heap.size) v) : NS (SK p w2 (.slice ro j rc) (.slice none 0 0)) w2 v l :=
  ⟨h1, h2.mono fun q hq => ⟨⟨by have := h.st.hp; omega, hq.2⟩, fun e => by have := (h.rul.lt q e).2; omega, by simp [Value.ownBlock]⟩⟩
theorem NS.stay (h : LQ b g d w p ns rs no nc j ro rc ds o wr) {v : Value} {l : List Str} (n : NS (SK p wr (.slice ro j rc) (.slice none 0 0)) wr v l) (k : RG b g d wr w2 o') : NS (SK p w2 (.slice ro j rc) (.slice none 0 0)) w2 v l :=
  (n.keep (keeps_rg k (fun hb => by have := hb.1.1; have := h.st.hb; have := h.st.hp; omega))).mono fun q hq => ⟨⟨hq.1.1, Nat.lt_of_lt_of_le hq.1.2 k.size⟩, hq.2⟩
theorem src_str (W : World) (bx : ByteArray) : Src Try.prog 1 22 (.slice (some ⟨W.heap.size, 0, none⟩) 1 1) 1 [.string bx] (W.alloc (.cells #[.string bx] 9)) :=
  (rd_new (l := [.string bx]) rfl rfl (by simp)).srcs strsE (by intro u hu; rw [List.mem_singleton.1 hu]; rfl)
theorem src_lat (W : World) (x : LX) (h : x.vn.oneCell' = true ∧ x.vp.oneCell' = true ∧ x.vr.oneCell' = true) : Src Try.prog 6 23 (.slice (some ⟨W.heap.size, 0, none⟩) 1 1) 1 (sxds [x.q]) (W.alloc (.cells #[x.q.a, x.q.b, x.q.c, x.q.d, x.q.e, x.q.f] 26)) :=
  (sxrd_new (t := x.q)).src latL6 (by
    intro u hu
    simp only [sxds, SxV.cs, List.flatMap_cons, List.flatMap_nil, List.append_nil, List.mem_cons, List.not_mem_nil, or_false] at hu
    rcases hu with rfl | rfl | rfl | rfl | rfl | rfl
    · rfl
    · rfl
    · rfl
    · exact h.1
    · exact h.2.1
    · exact h.2.2)
theorem src_rul (W : World) (u v : Value) (hu : u.oneCell' = true) (hv : v.oneCell' = true) : Src Try.prog 2 24 (.slice (some ⟨W.heap.size, 0, none⟩) 1 1) 1 (prs [(u, v)]) (W.alloc (.cells #[u, v] 47)) :=
  prd_new.src rulL2 (by intro x hx; simp [prs] at hx; rcases hx with rfl | rfl <;> assumption)
end
end Go.Proofs.Ytdmonbcinlmljaa

/- read of package lattice, where an encoding begins. Bounds on sizes alone. -/
namespace Go.Proofs.Ytdmonbcinlmljaa
open Go.RowKit
set_option maxRecDepth 100000
set_option maxHeartbeats 3200000

/-- The contract of read, for a tree. -/
def RP (b g : Nat) (d : List Int) (t : Lat) : Prop := ∀ (dep off last : Nat) (r : List Int) (w : World), 1 ≤ dep → dep + depthL t ≤ 7 → d.drop off = encL t ++ r → Wr.Rst w b g d off last 0 →
  Calls Try.prog 30 #[.pointer (some ⟨b, 0, none⟩), .int .i64 dep] w (RdP b g d t off w)
theorem flat_split {α : Type} (f : α → List Int) (l : List α) (j : Nat) (q : α) (h : l[j]? = some q) : l.flatMap f = (l.take j).flatMap f ++ (f q ++ (l.drop (j + 1)).flatMap f) := by
  obtain ⟨h1, h2⟩ := List.getElem?_eq_some_iff.1 h
  have e : l.drop j = q :: l.drop (j + 1) := by rw [← h2]; exact List.drop_eq_getElem_cons h1
  rw [← List.flatMap_cons, ← List.flatMap_append, ← e, List.take_append_drop]
theorem ruE1_pos (r : Gr) : 1 ≤ (ruE1 r).length := by
  have := txE_pos r.2
  unfold ruE1
  simp only [List.length_append]
  omega
theorem encPs_split : ∀ (ns : List Str) (ps : List Lat) (j : Nat) (x : Str) (u : Lat), ns[j]? = some x → ps[j]? = some u → encPs ns ps = encPs (ns.take j) (ps.take j) ++ (txE x ++ (encL u ++ encPs (ns.drop (j + 1)) (ps.drop (j + 1))))
  | [], _, _, _, _, h, _ => by simp at h
  | _ :: _, [], _, _, _, _, h => by simp at h
  | n :: ns, q :: ps, 0, x, p, h, h2 => by
    simp at h h2
    subst h h2
    simp [encPs_cons, encPs_nil]
  | n :: ns, q :: ps, j + 1, x, p, h, h2 => by
    have ih := encPs_split ns ps j x p (by simpa using h) (by simpa using h2)
    rw [List.take_succ_cons, List.take_succ_cons, encPs_cons, encPs_cons, ih, List.drop_succ_cons, List.drop_succ_cons]
    simp only [List.append_assoc]
theorem encPs_pos : ∀ (ns : List Str) (ps : List Lat), ps.length = ns.length → ns.length ≤ (encPs ns ps).length
  | [], ps, _ => by simp [encPs_nil]
  | _ :: _, [], h => by simp at h
  | n :: ns, p :: ps, h => by
    have ih := encPs_pos ns ps (by simpa using h)
    have h1 := txE_pos n
    rw [encPs_cons]
    simp only [List.length_append, List.length_cons]
    omega
section
variable (b g off last dep : Nat) (d r : List Int) (w : World)
theorem rd_1 (hok : Okay ⟨1, 0, 0, [], [], []⟩) (hdep : 1 ≤ dep ∧ dep ≤ 6) (h : Wr.Rst w b g d off last 0) (hd : d.drop off = encL ⟨1, 0, 0, [], [], []⟩ ++ r) :
    Calls Try.prog 30 #[.pointer (some ⟨b, 0, none⟩), .int .i64 dep] w (RdP b g d ⟨1, 0, 0, [], [], []⟩ off w) := by
  have HOK := hid_of hok
  have HBG : Hid (b < w.heap.size ∧ g < w.heap.size) := hid_of ⟨h.blt, h.glt⟩
  have hdd : decide ((dep : Int) > 6) = false := by simp; omega
  have hdw : IntKind.i64.wrap ((dep : Int) + 1) = (dep : Int) + 1 := IntWalk.i64_in _ (by omega)
  have EE : Hid (encL ⟨1, 0, 0, [], [], []⟩ = Wr.enc 1 ++ ([] : List Int)) := hid_of (by
    rw [encL, if_neg (by decide : ¬((1 : Int) = 2 ∨ (1 : Int) = 3)), if_neg (by decide : ¬((1 : Int) = 4 ∨ (1 : Int) = 8)), if_neg (by decide : ¬((1 : Int) = 5)), if_neg (by decide : ¬((1 : Int) = 6)), if_neg (by decide : ¬((1 : Int) = 7)), if_neg (by decide : ¬((1 : Int) = 10))]
    rfl)
  have HE : Hid (d.drop off = Wr.enc 1 ++ (([] : List Int) ++ r)) := hid_of (by rw [hd, EE.out, List.append_assoc])
  have HEL : Hid (off + (Wr.enc 1).length + (([] : List Int)).length = off + (encL ⟨1, 0, 0, [], [], []⟩).length) := hid_of (by rw [EE.out]; simp only [List.length_append]; omega)
  have D1 : Hid (d.drop (off + (Wr.enc 1).length) = ([] : List Int) ++ r) := hid_of (drop_step HE.out)
  have C0 := hid_of (show Calls Try.prog 54 #[.pointer (some ⟨b, 0, none⟩)] (w.alloc (.cells [.int .i64 0, .int .i64 0, .int .i64 0, .slice none 0 0, .slice none 0 0, .slice none 0 0].toArray 26 (0, 0))) (fun e w' => (e = .returned (.int .u64 1) ∧ w'.heap.size = (w.alloc (.cells [.int .i64 0, .int .i64 0, .int .i64 0, .slice none 0 0, .slice none 0 0, .slice none 0 0].toArray 26 (0, 0))).heap.size) ∧ RG b g d (w.alloc (.cells [.int .i64 0, .int .i64 0, .int .i64 0, .slice none 0 0, .slice none 0 0, .slice none 0 0].toArray 26 (0, 0))) w' (off + (Wr.enc 1).length)) from uint_rg 1 (RG.start (h.same ((bel_alloc w _).block b HBG.out.1) ((bel_alloc w _).block g HBG.out.2))) HE.out (by omega))
  have S1 : Hid (∀ w1, RG b g d (w.alloc (.cells [.int .i64 0, .int .i64 0, .int .i64 0, .slice none 0 0, .slice none 0 0, .slice none 0 0].toArray 26 (0, 0))) w1 (off + (Wr.enc 1).length) → RS b g d w w1.heap.size (.int .i64 1) (.int .i64 0) (.int .i64 0) (.slice none 0 0) (.slice none 0 0) (.slice none 0 0) (off + (Wr.enc 1).length) (w1.alloc (.cells [.int .i64 1, .int .i64 0, .int .i64 0, .slice none 0 0, .slice none 0 0, .slice none 0 0].toArray 26 (0, 0)))) := hid_of (fun w1 k => RS.start k HBG.out _)
  rw [show off + (Wr.enc 1).length + (([] : List Int)).length = off + (Wr.enc 1).length from rfl] at HEL
  clear hok hdep h hd
  go_enter Try.func30, Try.ntmps30
  go_wp2_with (first
    | (go_at_call 54; ((with_reducible refine (C0.out).mono ?_); (rintro e w1 ⟨⟨rfl, q0⟩, q1⟩)); have R1 := hid_of (S1.out w1 q1); clear q0 q1)
    | (refine wpList_store_row rfl 26 (.tmp 4) (.tmp 108) rfl w.heap.size #[.int .i64 1, .int .i64 0, .int .i64 0, .slice none 0 0, .slice none 0 0, .slice none 0 0] rfl rfl 26 _ R1.out.res infoLat rfl (by simp [Value.oneCell']) ?_))
  refine bodyPost_ret (results_cell_row rfl _ _ w.heap.size 26 #[.int .i64 1, .int .i64 0, .int .i64 0, .slice none 0 0, .slice none 0 0, .slice none 0 0] (0, 0) _ rfl (setRow_heap _ _ _ _ _ _ R1.out.res) Try.underlying26 rfl infoLat) rfl ?_
  exact RS.fin (t := ⟨1, 0, 0, [], [], []⟩) (by rw [← HEL.out]; exact R1.out) HOK.out (ns_nil _ _) (ps_nil _ _) (rus_nil _ _) _ rfl
theorem rd_9 (hok : Okay ⟨9, 0, 0, [], [], []⟩) (hdep : 1 ≤ dep ∧ dep ≤ 6) (h : Wr.Rst w b g d off last 0) (hd : d.drop off = encL ⟨9, 0, 0, [], [], []⟩ ++ r) :
    Calls Try.prog 30 #[.pointer (some ⟨b, 0, none⟩), .int .i64 dep] w (RdP b g d ⟨9, 0, 0, [], [], []⟩ off w) := by
  have HOK := hid_of hok
  have HBG : Hid (b < w.heap.size ∧ g < w.heap.size) := hid_of ⟨h.blt, h.glt⟩
  have hdd : decide ((dep : Int) > 6) = false := by simp; omega
  have hdw : IntKind.i64.wrap ((dep : Int) + 1) = (dep : Int) + 1 := IntWalk.i64_in _ (by omega)
  have EE : Hid (encL ⟨9, 0, 0, [], [], []⟩ = Wr.enc 9 ++ ([] : List Int)) := hid_of (by
    rw [encL, if_neg (by decide : ¬((9 : Int) = 2 ∨ (9 : Int) = 3)), if_neg (by decide : ¬((9 : Int) = 4 ∨ (9 : Int) = 8)), if_neg (by decide : ¬((9 : Int) = 5)), if_neg (by decide : ¬((9 : Int) = 6)), if_neg (by decide : ¬((9 : Int) = 7)), if_neg (by decide : ¬((9 : Int) = 10))]
    rfl)
  have HE : Hid (d.drop off = Wr.enc 9 ++ (([] : List Int) ++ r)) := hid_of (by rw [hd, EE.out, List.append_assoc])
  have HEL : Hid (off + (Wr.enc 9).length + (([] : List Int)).length = off + (encL ⟨9, 0, 0, [], [], []⟩).length) := hid_of (by rw [EE.out]; simp only [List.length_append]; omega)
  have D1 : Hid (d.drop (off + (Wr.enc 9).length) = ([] : List Int) ++ r) := hid_of (drop_step HE.out)
  have C0 := hid_of (show Calls Try.prog 54 #[.pointer (some ⟨b, 0, none⟩)] (w.alloc (.cells [.int .i64 0, .int .i64 0, .int .i64 0, .slice none 0 0, .slice none 0 0, .slice none 0 0].toArray 26 (0, 0))) (fun e w' => (e = .returned (.int .u64 9) ∧ w'.heap.size = (w.alloc (.cells [.int .i64 0, .int .i64 0, .int .i64 0, .slice none 0 0, .slice none 0 0, .slice none 0 0].toArray 26 (0, 0))).heap.size) ∧ RG b g d (w.alloc (.cells [.int .i64 0, .int .i64 0, .int .i64 0, .slice none 0 0, .slice none 0 0, .slice none 0 0].toArray 26 (0, 0))) w' (off + (Wr.enc 9).length)) from uint_rg 9 (RG.start (h.same ((bel_alloc w _).block b HBG.out.1) ((bel_alloc w _).block g HBG.out.2))) HE.out (by omega))
  have S1 : Hid (∀ w1, RG b g d (w.alloc (.cells [.int .i64 0, .int .i64 0, .int .i64 0, .slice none 0 0, .slice none 0 0, .slice none 0 0].toArray 26 (0, 0))) w1 (off + (Wr.enc 9).length) → RS b g d w w1.heap.size (.int .i64 9) (.int .i64 0) (.int .i64 0) (.slice none 0 0) (.slice none 0 0) (.slice none 0 0) (off + (Wr.enc 9).length) (w1.alloc (.cells [.int .i64 9, .int .i64 0, .int .i64 0, .slice none 0 0, .slice none 0 0, .slice none 0 0].toArray 26 (0, 0)))) := hid_of (fun w1 k => RS.start k HBG.out _)
  rw [show off + (Wr.enc 9).length + (([] : List Int)).length = off + (Wr.enc 9).length from rfl] at HEL
  clear hok hdep h hd
  go_enter Try.func30, Try.ntmps30
  go_wp2_with (first
    | (go_at_call 54; ((with_reducible refine (C0.out).mono ?_); (rintro e w1 ⟨⟨rfl, q0⟩, q1⟩)); have R1 := hid_of (S1.out w1 q1); clear q0 q1)
    | (refine wpList_store_row rfl 26 (.tmp 4) (.tmp 108) rfl w.heap.size #[.int .i64 9, .int .i64 0, .int .i64 0, .slice none 0 0, .slice none 0 0, .slice none 0 0] rfl rfl 26 _ R1.out.res infoLat rfl (by simp [Value.oneCell']) ?_))
  refine bodyPost_ret (results_cell_row rfl _ _ w.heap.size 26 #[.int .i64 9, .int .i64 0, .int .i64 0, .slice none 0 0, .slice none 0 0, .slice none 0 0] (0, 0) _ rfl (setRow_heap _ _ _ _ _ _ R1.out.res) Try.underlying26 rfl infoLat) rfl ?_
  exact RS.fin (t := ⟨9, 0, 0, [], [], []⟩) (by rw [← HEL.out]; exact R1.out) HOK.out (ns_nil _ _) (ps_nil _ _) (rus_nil _ _) _ rfl
theorem rd_2 (lo hi : Int) (hok : Okay ⟨2, lo, hi, [], [], []⟩) (hdep : 1 ≤ dep ∧ dep ≤ 6) (h : Wr.Rst w b g d off last 0) (hd : d.drop off = encL ⟨2, lo, hi, [], [], []⟩ ++ r) :
    Calls Try.prog 30 #[.pointer (some ⟨b, 0, none⟩), .int .i64 dep] w (RdP b g d ⟨2, lo, hi, [], [], []⟩ off w) := by
  have HOK := hid_of hok
  have HBG : Hid (b < w.heap.size ∧ g < w.heap.size) := hid_of ⟨h.blt, h.glt⟩
  have hdd : decide ((dep : Int) > 6) = false := by simp; omega
  have hdw : IntKind.i64.wrap ((dep : Int) + 1) = (dep : Int) + 1 := IntWalk.i64_in _ (by omega)
  have EE : Hid (encL ⟨2, lo, hi, [], [], []⟩ = Wr.enc 2 ++ (Wr.enc (Wr.zig lo) ++ Wr.enc (Wr.zig hi))) := hid_of (by
    rw [encL, if_pos (by decide : (2 : Int) = 2 ∨ (2 : Int) = 3)]
    rfl)
  have HE : Hid (d.drop off = Wr.enc 2 ++ ((Wr.enc (Wr.zig lo) ++ Wr.enc (Wr.zig hi)) ++ r)) := hid_of (by rw [hd, EE.out, List.append_assoc])
  have HEL : Hid (off + (Wr.enc 2).length + ((Wr.enc (Wr.zig lo) ++ Wr.enc (Wr.zig hi))).length = off + (encL ⟨2, lo, hi, [], [], []⟩).length) := hid_of (by rw [EE.out]; simp only [List.length_append]; omega)
  have D1 : Hid (d.drop (off + (Wr.enc 2).length) = (Wr.enc (Wr.zig lo) ++ Wr.enc (Wr.zig hi)) ++ r) := hid_of (drop_step HE.out)
  have C0 := hid_of (show Calls Try.prog 54 #[.pointer (some ⟨b, 0, none⟩)] (w.alloc (.cells [.int .i64 0, .int .i64 0, .int .i64 0, .slice none 0 0, .slice none 0 0, .slice none 0 0].toArray 26 (0, 0))) (fun e w' => (e = .returned (.int .u64 2) ∧ w'.heap.size = (w.alloc (.cells [.int .i64 0, .int .i64 0, .int .i64 0, .slice none 0 0, .slice none 0 0, .slice none 0 0].toArray 26 (0, 0))).heap.size) ∧ RG b g d (w.alloc (.cells [.int .i64 0, .int .i64 0, .int .i64 0, .slice none 0 0, .slice none 0 0, .slice none 0 0].toArray 26 (0, 0))) w' (off + (Wr.enc 2).length)) from uint_rg 2 (RG.start (h.same ((bel_alloc w _).block b HBG.out.1) ((bel_alloc w _).block g HBG.out.2))) HE.out (by omega))
  have S1 : Hid (∀ w1, RG b g d (w.alloc (.cells [.int .i64 0, .int .i64 0, .int .i64 0, .slice none 0 0, .slice none 0 0, .slice none 0 0].toArray 26 (0, 0))) w1 (off + (Wr.enc 2).length) → RS b g d w w1.heap.size (.int .i64 2) (.int .i64 0) (.int .i64 0) (.slice none 0 0) (.slice none 0 0) (.slice none 0 0) (off + (Wr.enc 2).length) (w1.alloc (.cells [.int .i64 2, .int .i64 0, .int .i64 0, .slice none 0 0, .slice none 0 0, .slice none 0 0].toArray 26 (0, 0)))) := hid_of (fun w1 k => RS.start k HBG.out _)
  have HF : Hid (R64 lo ∧ R64 hi) := hid_of (by
    have h1 := hok.node.lo
    have h2 := hok.node.hi
    simp only [Lat.lo, Lat.hi] at h1 h2
    exact ⟨⟨by omega, by omega⟩, ⟨by omega, by omega⟩⟩)
  have D2 : Hid (d.drop (off + (Wr.enc 2).length) = Wr.enc (Wr.zig lo) ++ (Wr.enc (Wr.zig hi) ++ r)) := hid_of (by rw [D1.out, List.append_assoc])
  have D3 : Hid (d.drop (off + (Wr.enc 2).length + (Wr.enc (Wr.zig lo)).length) = Wr.enc (Wr.zig hi) ++ r) := hid_of (drop_step D2.out)
  rw [List.length_append, ← Nat.add_assoc] at HEL
  clear hok hdep h hd
  go_enter Try.func30, Try.ntmps30
  go_wp2_with (first
    | (go_at_call 54; ((with_reducible refine (C0.out).mono ?_); (rintro e w1 ⟨⟨rfl, q0⟩, q1⟩)); have R1 := hid_of (S1.out w1 q1); clear q0 q1)
    | (go_at_call 56; ((with_reducible refine (int_rg lo R1.out.rg D2.out HF.out.1).mono ?_); (rintro e w2 ⟨⟨rfl, q0⟩, q1⟩)); have R2 := hid_of (R1.out.call q1); clear q0 q1; have R3 := hid_of (R2.out.set 1 (.int .i64 lo) rfl); obtain ⟨z0, z1, z2, z3, z4, z5⟩ := R2.out.cells; have f1 := R2.out.free 1)
    | (go_at_call 56; ((with_reducible refine (int_rg hi R3.out.rg D3.out HF.out.2).mono ?_); (rintro e w3 ⟨⟨rfl, q0⟩, q1⟩)); have R4 := hid_of (R3.out.call q1); clear q0 q1; have R5 := hid_of (R4.out.set 2 (.int .i64 hi) rfl); obtain ⟨v0, v1, v2, v3, v4, v5⟩ := R4.out.cells; have f2 := R4.out.free 2; obtain ⟨y0, y1, y2, y3, y4, y5⟩ := R5.out.cells)
    | (refine wpList_store_row rfl 26 (.tmp 4) (.tmp 108) rfl w.heap.size #[.int .i64 2, .int .i64 lo, .int .i64 hi, .slice none 0 0, .slice none 0 0, .slice none 0 0] rfl rfl 26 _ R5.out.res infoLat rfl (by simp [Value.oneCell']) ?_))
  refine bodyPost_ret (results_cell_row rfl _ _ w.heap.size 26 #[.int .i64 2, .int .i64 lo, .int .i64 hi, .slice none 0 0, .slice none 0 0, .slice none 0 0] (0, 0) _ rfl (setRow_heap _ _ _ _ _ _ R5.out.res) Try.underlying26 rfl infoLat) rfl ?_
  exact RS.fin (t := ⟨2, lo, hi, [], [], []⟩) (by rw [← HEL.out]; exact R5.out) HOK.out (ns_nil _ _) (ps_nil _ _) (rus_nil _ _) _ rfl
theorem rd_3 (lo hi : Int) (hok : Okay ⟨3, lo, hi, [], [], []⟩) (hdep : 1 ≤ dep ∧ dep ≤ 6) (h : Wr.Rst w b g d off last 0) (hd : d.drop off = encL ⟨3, lo, hi, [], [], []⟩ ++ r) :
    Calls Try.prog 30 #[.pointer (some ⟨b, 0, none⟩), .int .i64 dep] w (RdP b g d ⟨3, lo, hi, [], [], []⟩ off w) := by
  have HOK := hid_of hok
  have HBG : Hid (b < w.heap.size ∧ g < w.heap.size) := hid_of ⟨h.blt, h.glt⟩
  have hdd : decide ((dep : Int) > 6) = false := by simp; omega
  have hdw : IntKind.i64.wrap ((dep : Int) + 1) = (dep : Int) + 1 := IntWalk.i64_in _ (by omega)
  have EE : Hid (encL ⟨3, lo, hi, [], [], []⟩ = Wr.enc 3 ++ (Wr.enc (Wr.zig lo) ++ Wr.enc (Wr.zig hi))) := hid_of (by
    rw [encL, if_pos (by decide : (3 : Int) = 2 ∨ (3 : Int) = 3)]
    rfl)
  have HE : Hid (d.drop off = Wr.enc 3 ++ ((Wr.enc (Wr.zig lo) ++ Wr.enc (Wr.zig hi)) ++ r)) := hid_of (by rw [hd, EE.out, List.append_assoc])
  have HEL : Hid (off + (Wr.enc 3).length + ((Wr.enc (Wr.zig lo) ++ Wr.enc (Wr.zig hi))).length = off + (encL ⟨3, lo, hi, [], [], []⟩).length) := hid_of (by rw [EE.out]; simp only [List.length_append]; omega)
  have D1 : Hid (d.drop (off + (Wr.enc 3).length) = (Wr.enc (Wr.zig lo) ++ Wr.enc (Wr.zig hi)) ++ r) := hid_of (drop_step HE.out)
  have C0 := hid_of (show Calls Try.prog 54 #[.pointer (some ⟨b, 0, none⟩)] (w.alloc (.cells [.int .i64 0, .int .i64 0, .int .i64 0, .slice none 0 0, .slice none 0 0, .slice none 0 0].toArray 26 (0, 0))) (fun e w' => (e = .returned (.int .u64 3) ∧ w'.heap.size = (w.alloc (.cells [.int .i64 0, .int .i64 0, .int .i64 0, .slice none 0 0, .slice none 0 0, .slice none 0 0].toArray 26 (0, 0))).heap.size) ∧ RG b g d (w.alloc (.cells [.int .i64 0, .int .i64 0, .int .i64 0, .slice none 0 0, .slice none 0 0, .slice none 0 0].toArray 26 (0, 0))) w' (off + (Wr.enc 3).length)) from uint_rg 3 (RG.start (h.same ((bel_alloc w _).block b HBG.out.1) ((bel_alloc w _).block g HBG.out.2))) HE.out (by omega))
  have S1 : Hid (∀ w1, RG b g d (w.alloc (.cells [.int .i64 0, .int .i64 0, .int .i64 0, .slice none 0 0, .slice none 0 0, .slice none 0 0].toArray 26 (0, 0))) w1 (off + (Wr.enc 3).length) → RS b g d w w1.heap.size (.int .i64 3) (.int .i64 0) (.int .i64 0) (.slice none 0 0) (.slice none 0 0) (.slice none 0 0) (off + (Wr.enc 3).length) (w1.alloc (.cells [.int .i64 3, .int .i64 0, .int .i64 0, .slice none 0 0, .slice none 0 0, .slice none 0 0].toArray 26 (0, 0)))) := hid_of (fun w1 k => RS.start k HBG.out _)
  have HF : Hid (R64 lo ∧ R64 hi) := hid_of (by
    have h1 := hok.node.lo
    have h2 := hok.node.hi
    simp only [Lat.lo, Lat.hi] at h1 h2
    exact ⟨⟨by omega, by omega⟩, ⟨by omega, by omega⟩⟩)
  have D2 : Hid (d.drop (off + (Wr.enc 3).length) = Wr.enc (Wr.zig lo) ++ (Wr.enc (Wr.zig hi) ++ r)) := hid_of (by rw [D1.out, List.append_assoc])
  have D3 : Hid (d.drop (off + (Wr.enc 3).length + (Wr.enc (Wr.zig lo)).length) = Wr.enc (Wr.zig hi) ++ r) := hid_of (drop_step D2.out)
  rw [List.length_append, ← Nat.add_assoc] at HEL
  clear hok hdep h hd
  go_enter Try.func30, Try.ntmps30
  go_wp2_with (first
    | (go_at_call 54; ((with_reducible refine (C0.out).mono ?_); (rintro e w1 ⟨⟨rfl, q0⟩, q1⟩)); have R1 := hid_of (S1.out w1 q1); clear q0 q1)
    | (go_at_call 56; ((with_reducible refine (int_rg lo R1.out.rg D2.out HF.out.1).mono ?_); (rintro e w2 ⟨⟨rfl, q0⟩, q1⟩)); have R2 := hid_of (R1.out.call q1); clear q0 q1; have R3 := hid_of (R2.out.set 1 (.int .i64 lo) rfl); obtain ⟨z0, z1, z2, z3, z4, z5⟩ := R2.out.cells; have f1 := R2.out.free 1)
    | (go_at_call 56; ((with_reducible refine (int_rg hi R3.out.rg D3.out HF.out.2).mono ?_); (rintro e w3 ⟨⟨rfl, q0⟩, q1⟩)); have R4 := hid_of (R3.out.call q1); clear q0 q1; have R5 := hid_of (R4.out.set 2 (.int .i64 hi) rfl); obtain ⟨v0, v1, v2, v3, v4, v5⟩ := R4.out.cells; have f2 := R4.out.free 2; obtain ⟨y0, y1, y2, y3, y4, y5⟩ := R5.out.cells)
    | (refine wpList_store_row rfl 26 (.tmp 4) (.tmp 108) rfl w.heap.size #[.int .i64 3, .int .i64 lo, .int .i64 hi, .slice none 0 0, .slice none 0 0, .slice none 0 0] rfl rfl 26 _ R5.out.res infoLat rfl (by simp [Value.oneCell']) ?_))
  refine bodyPost_ret (results_cell_row rfl _ _ w.heap.size 26 #[.int .i64 3, .int .i64 lo, .int .i64 hi, .slice none 0 0, .slice none 0 0, .slice none 0 0] (0, 0) _ rfl (setRow_heap _ _ _ _ _ _ R5.out.res) Try.underlying26 rfl infoLat) rfl ?_
  exact RS.fin (t := ⟨3, lo, hi, [], [], []⟩) (by rw [← HEL.out]; exact R5.out) HOK.out (ns_nil _ _) (ps_nil _ _) (rus_nil _ _) _ rfl
theorem rd_4 (ns : List Str) (hok : Okay ⟨4, 0, 0, ns, [], []⟩) (hdep : 1 ≤ dep ∧ dep ≤ 6) (h : Wr.Rst w b g d off last 0) (hd : d.drop off = encL ⟨4, 0, 0, ns, [], []⟩ ++ r) :
    Calls Try.prog 30 #[.pointer (some ⟨b, 0, none⟩), .int .i64 dep] w (RdP b g d ⟨4, 0, 0, ns, [], []⟩ off w) := by
  have HOK := hid_of hok
  have HBG : Hid (b < w.heap.size ∧ g < w.heap.size) := hid_of ⟨h.blt, h.glt⟩
  have hdd : decide ((dep : Int) > 6) = false := by simp; omega
  have hdw : IntKind.i64.wrap ((dep : Int) + 1) = (dep : Int) + 1 := IntWalk.i64_in _ (by omega)
  have EE : Hid (encL ⟨4, 0, 0, ns, [], []⟩ = Wr.enc 4 ++ nsE ns) := hid_of (by
    rw [encL, if_neg (by decide : ¬((4 : Int) = 2 ∨ (4 : Int) = 3)), if_pos (by decide : (4 : Int) = 4 ∨ (4 : Int) = 8)]
    rfl)
  have HE : Hid (d.drop off = Wr.enc 4 ++ (nsE ns ++ r)) := hid_of (by rw [hd, EE.out, List.append_assoc])
  have HEL : Hid (off + (Wr.enc 4).length + (nsE ns).length = off + (encL ⟨4, 0, 0, ns, [], []⟩).length) := hid_of (by rw [EE.out]; simp only [List.length_append]; omega)
  have D1 : Hid (d.drop (off + (Wr.enc 4).length) = nsE ns ++ r) := hid_of (drop_step HE.out)
  have C0 := hid_of (show Calls Try.prog 54 #[.pointer (some ⟨b, 0, none⟩)] (w.alloc (.cells [.int .i64 0, .int .i64 0, .int .i64 0, .slice none 0 0, .slice none 0 0, .slice none 0 0].toArray 26 (0, 0))) (fun e w' => (e = .returned (.int .u64 4) ∧ w'.heap.size = (w.alloc (.cells [.int .i64 0, .int .i64 0, .int .i64 0, .slice none 0 0, .slice none 0 0, .slice none 0 0].toArray 26 (0, 0))).heap.size) ∧ RG b g d (w.alloc (.cells [.int .i64 0, .int .i64 0, .int .i64 0, .slice none 0 0, .slice none 0 0, .slice none 0 0].toArray 26 (0, 0))) w' (off + (Wr.enc 4).length)) from uint_rg 4 (RG.start (h.same ((bel_alloc w _).block b HBG.out.1) ((bel_alloc w _).block g HBG.out.2))) HE.out (by omega))
  have S1 : Hid (∀ w1, RG b g d (w.alloc (.cells [.int .i64 0, .int .i64 0, .int .i64 0, .slice none 0 0, .slice none 0 0, .slice none 0 0].toArray 26 (0, 0))) w1 (off + (Wr.enc 4).length) → RS b g d w w1.heap.size (.int .i64 4) (.int .i64 0) (.int .i64 0) (.slice none 0 0) (.slice none 0 0) (.slice none 0 0) (off + (Wr.enc 4).length) (w1.alloc (.cells [.int .i64 4, .int .i64 0, .int .i64 0, .slice none 0 0, .slice none 0 0, .slice none 0 0].toArray 26 (0, 0)))) := hid_of (fun w1 k => RS.start k HBG.out _)
  have HSM : Hid (Sm ns) := hid_of ⟨hok.node.nl, hok.node.nm⟩
  have CN : Hid (∀ w1s w2, RS b g d w w1s (.int .i64 4) (.int .i64 0) (.int .i64 0) (.slice none 0 0) (.slice none 0 0) (.slice none 0 0) (off + (Wr.enc 4).length) w2 → Calls Try.prog 57 #[.pointer (some ⟨b, 0, none⟩)] w2 (NaP b g d ns (off + (Wr.enc 4).length) w2)) := hid_of (fun w1s w2 k => by obtain ⟨last, s⟩ := k.rg.st; exact rn_any b g _ last d ns r w2 s D1.out HSM.out)
  clear hok hdep h hd
  go_enter Try.func30, Try.ntmps30
  go_wp2_with (first
    | (go_at_call 54; ((with_reducible refine (C0.out).mono ?_); (rintro e w1 ⟨⟨rfl, q0⟩, q1⟩)); have R1 := hid_of (S1.out w1 q1); clear q0 q1)
    | (go_at_call 57; ((with_reducible refine (CN.out _ _ R1.out).mono ?_); (rintro e w2 ⟨xo, xc, rfl, q1, q2, q3⟩)); have R2 := hid_of (R1.out.call q3); have N2 := hid_of (ns_mk (T := Bh w1.heap.size w2) q1 q2 (fun k hk => ⟨Nat.lt_of_lt_of_le R1.out.hp.2 hk.1, hk.2⟩)); clear q1 q2 q3; have R3 := hid_of (R2.out.set 3 (.slice xo ns.length xc) rfl); have N3 := hid_of (N2.out.setBox 3 (.slice xo ns.length xc)); obtain ⟨z0, z1, z2, z3, z4, z5⟩ := R2.out.cells; have f3 := R2.out.free 3; obtain ⟨y0, y1, y2, y3, y4, y5⟩ := R3.out.cells)
    | (refine wpList_store_row rfl 26 (.tmp 4) (.tmp 108) rfl w.heap.size #[.int .i64 4, .int .i64 0, .int .i64 0, .slice xo ns.length xc, .slice none 0 0, .slice none 0 0] rfl rfl 26 _ R3.out.res infoLat rfl (by simp [Value.oneCell']) ?_))
  refine bodyPost_ret (results_cell_row rfl _ _ w.heap.size 26 #[.int .i64 4, .int .i64 0, .int .i64 0, .slice xo ns.length xc, .slice none 0 0, .slice none 0 0] (0, 0) _ rfl (setRow_heap _ _ _ _ _ _ R3.out.res) Try.underlying26 rfl infoLat) rfl ?_
  exact RS.fin (t := ⟨4, 0, 0, ns, [], []⟩) (by rw [← HEL.out]; exact R3.out) HOK.out (N3.out) (ps_nil _ _) (rus_nil _ _) _ rfl
theorem rd_8 (ns : List Str) (hok : Okay ⟨8, 0, 0, ns, [], []⟩) (hdep : 1 ≤ dep ∧ dep ≤ 6) (h : Wr.Rst w b g d off last 0) (hd : d.drop off = encL ⟨8, 0, 0, ns, [], []⟩ ++ r) :
    Calls Try.prog 30 #[.pointer (some ⟨b, 0, none⟩), .int .i64 dep] w (RdP b g d ⟨8, 0, 0, ns, [], []⟩ off w) := by
  have HOK := hid_of hok
  have HBG : Hid (b < w.heap.size ∧ g < w.heap.size) := hid_of ⟨h.blt, h.glt⟩
  have hdd : decide ((dep : Int) > 6) = false := by simp; omega
  have hdw : IntKind.i64.wrap ((dep : Int) + 1) = (dep : Int) + 1 := IntWalk.i64_in _ (by omega)
  have EE : Hid (encL ⟨8, 0, 0, ns, [], []⟩ = Wr.enc 8 ++ nsE ns) := hid_of (by
    rw [encL, if_neg (by decide : ¬((8 : Int) = 2 ∨ (8 : Int) = 3)), if_pos (by decide : (8 : Int) = 4 ∨ (8 : Int) = 8)]
    rfl)
  have HE : Hid (d.drop off = Wr.enc 8 ++ (nsE ns ++ r)) := hid_of (by rw [hd, EE.out, List.append_assoc])
  have HEL : Hid (off + (Wr.enc 8).length + (nsE ns).length = off + (encL ⟨8, 0, 0, ns, [], []⟩).length) := hid_of (by rw [EE.out]; simp only [List.length_append]; omega)
  have D1 : Hid (d.drop (off + (Wr.enc 8).length) = nsE ns ++ r) := hid_of (drop_step HE.out)
  have C0 := hid_of (show Calls Try.prog 54 #[.pointer (some ⟨b, 0, none⟩)] (w.alloc (.cells [.int .i64 0, .int .i64 0, .int .i64 0, .slice none 0 0, .slice none 0 0, .slice none 0 0].toArray 26 (0, 0))) (fun e w' => (e = .returned (.int .u64 8) ∧ w'.heap.size = (w.alloc (.cells [.int .i64 0, .int .i64 0, .int .i64 0, .slice none 0 0, .slice none 0 0, .slice none 0 0].toArray 26 (0, 0))).heap.size) ∧ RG b g d (w.alloc (.cells [.int .i64 0, .int .i64 0, .int .i64 0, .slice none 0 0, .slice none 0 0, .slice none 0 0].toArray 26 (0, 0))) w' (off + (Wr.enc 8).length)) from uint_rg 8 (RG.start (h.same ((bel_alloc w _).block b HBG.out.1) ((bel_alloc w _).block g HBG.out.2))) HE.out (by omega))
  have S1 : Hid (∀ w1, RG b g d (w.alloc (.cells [.int .i64 0, .int .i64 0, .int .i64 0, .slice none 0 0, .slice none 0 0, .slice none 0 0].toArray 26 (0, 0))) w1 (off + (Wr.enc 8).length) → RS b g d w w1.heap.size (.int .i64 8) (.int .i64 0) (.int .i64 0) (.slice none 0 0) (.slice none 0 0) (.slice none 0 0) (off + (Wr.enc 8).length) (w1.alloc (.cells [.int .i64 8, .int .i64 0, .int .i64 0, .slice none 0 0, .slice none 0 0, .slice none 0 0].toArray 26 (0, 0)))) := hid_of (fun w1 k => RS.start k HBG.out _)
  have HSM : Hid (Sm ns) := hid_of ⟨hok.node.nl, hok.node.nm⟩
  have CN : Hid (∀ w1s w2, RS b g d w w1s (.int .i64 8) (.int .i64 0) (.int .i64 0) (.slice none 0 0) (.slice none 0 0) (.slice none 0 0) (off + (Wr.enc 8).length) w2 → Calls Try.prog 57 #[.pointer (some ⟨b, 0, none⟩)] w2 (NaP b g d ns (off + (Wr.enc 8).length) w2)) := hid_of (fun w1s w2 k => by obtain ⟨last, s⟩ := k.rg.st; exact rn_any b g _ last d ns r w2 s D1.out HSM.out)
  clear hok hdep h hd
  go_enter Try.func30, Try.ntmps30
  go_wp2_with (first
    | (go_at_call 54; ((with_reducible refine (C0.out).mono ?_); (rintro e w1 ⟨⟨rfl, q0⟩, q1⟩)); have R1 := hid_of (S1.out w1 q1); clear q0 q1)
    | (go_at_call 57; ((with_reducible refine (CN.out _ _ R1.out).mono ?_); (rintro e w2 ⟨xo, xc, rfl, q1, q2, q3⟩)); have R2 := hid_of (R1.out.call q3); have N2 := hid_of (ns_mk (T := Bh w1.heap.size w2) q1 q2 (fun k hk => ⟨Nat.lt_of_lt_of_le R1.out.hp.2 hk.1, hk.2⟩)); clear q1 q2 q3; have R3 := hid_of (R2.out.set 3 (.slice xo ns.length xc) rfl); have N3 := hid_of (N2.out.setBox 3 (.slice xo ns.length xc)); obtain ⟨z0, z1, z2, z3, z4, z5⟩ := R2.out.cells; have f3 := R2.out.free 3; obtain ⟨y0, y1, y2, y3, y4, y5⟩ := R3.out.cells)
    | (refine wpList_store_row rfl 26 (.tmp 4) (.tmp 108) rfl w.heap.size #[.int .i64 8, .int .i64 0, .int .i64 0, .slice xo ns.length xc, .slice none 0 0, .slice none 0 0] rfl rfl 26 _ R3.out.res infoLat rfl (by simp [Value.oneCell']) ?_))
  refine bodyPost_ret (results_cell_row rfl _ _ w.heap.size 26 #[.int .i64 8, .int .i64 0, .int .i64 0, .slice xo ns.length xc, .slice none 0 0, .slice none 0 0] (0, 0) _ rfl (setRow_heap _ _ _ _ _ _ R3.out.res) Try.underlying26 rfl infoLat) rfl ?_
  exact RS.fin (t := ⟨8, 0, 0, ns, [], []⟩) (by rw [← HEL.out]; exact R3.out) HOK.out (N3.out) (ps_nil _ _) (rus_nil _ _) _ rfl
theorem rd_5 (ns : List Str) (p : Lat) (hok : Okay ⟨5, 0, 0, ns, [p], []⟩) (hdep : 1 ≤ dep ∧ dep ≤ 6) (h : Wr.Rst w b g d off last 0) (hd : d.drop off = encL ⟨5, 0, 0, ns, [p], []⟩ ++ r) (hp : dep + 1 + depthL p ≤ 7) (IH : RP b g d p) :
    Calls Try.prog 30 #[.pointer (some ⟨b, 0, none⟩), .int .i64 dep] w (RdP b g d ⟨5, 0, 0, ns, [p], []⟩ off w) := by
  have HOK := hid_of hok
  have HBG : Hid (b < w.heap.size ∧ g < w.heap.size) := hid_of ⟨h.blt, h.glt⟩
  have hdd : decide ((dep : Int) > 6) = false := by simp; omega
  have hdw : IntKind.i64.wrap ((dep : Int) + 1) = (dep : Int) + 1 := IntWalk.i64_in _ (by omega)
  have EE : Hid (encL ⟨5, 0, 0, ns, [p], []⟩ = Wr.enc 5 ++ (nsE ns ++ encLs [p])) := hid_of (by
    rw [encL, if_neg (by decide : ¬((5 : Int) = 2 ∨ (5 : Int) = 3)), if_neg (by decide : ¬((5 : Int) = 4 ∨ (5 : Int) = 8)), if_pos (by decide : (5 : Int) = 5)]
    rfl)
  have HE : Hid (d.drop off = Wr.enc 5 ++ ((nsE ns ++ encLs [p]) ++ r)) := hid_of (by rw [hd, EE.out, List.append_assoc])
  have HEL : Hid (off + (Wr.enc 5).length + ((nsE ns ++ encLs [p])).length = off + (encL ⟨5, 0, 0, ns, [p], []⟩).length) := hid_of (by rw [EE.out]; simp only [List.length_append]; omega)
  have D1 : Hid (d.drop (off + (Wr.enc 5).length) = (nsE ns ++ encLs [p]) ++ r) := hid_of (drop_step HE.out)
  have C0 := hid_of (show Calls Try.prog 54 #[.pointer (some ⟨b, 0, none⟩)] (w.alloc (.cells [.int .i64 0, .int .i64 0, .int .i64 0, .slice none 0 0, .slice none 0 0, .slice none 0 0].toArray 26 (0, 0))) (fun e w' => (e = .returned (.int .u64 5) ∧ w'.heap.size = (w.alloc (.cells [.int .i64 0, .int .i64 0, .int .i64 0, .slice none 0 0, .slice none 0 0, .slice none 0 0].toArray 26 (0, 0))).heap.size) ∧ RG b g d (w.alloc (.cells [.int .i64 0, .int .i64 0, .int .i64 0, .slice none 0 0, .slice none 0 0, .slice none 0 0].toArray 26 (0, 0))) w' (off + (Wr.enc 5).length)) from uint_rg 5 (RG.start (h.same ((bel_alloc w _).block b HBG.out.1) ((bel_alloc w _).block g HBG.out.2))) HE.out (by omega))
  have S1 : Hid (∀ w1, RG b g d (w.alloc (.cells [.int .i64 0, .int .i64 0, .int .i64 0, .slice none 0 0, .slice none 0 0, .slice none 0 0].toArray 26 (0, 0))) w1 (off + (Wr.enc 5).length) → RS b g d w w1.heap.size (.int .i64 5) (.int .i64 0) (.int .i64 0) (.slice none 0 0) (.slice none 0 0) (.slice none 0 0) (off + (Wr.enc 5).length) (w1.alloc (.cells [.int .i64 5, .int .i64 0, .int .i64 0, .slice none 0 0, .slice none 0 0, .slice none 0 0].toArray 26 (0, 0)))) := hid_of (fun w1 k => RS.start k HBG.out _)
  have HSM : Hid (Sm ns) := hid_of ⟨hok.node.nl, hok.node.nm⟩
  have D2 : Hid (d.drop (off + (Wr.enc 5).length) = nsE ns ++ (encL p ++ r)) := hid_of (by rw [D1.out, encLs_cons, encLs_nil, List.append_nil, List.append_assoc])
  have D3 : Hid (d.drop (off + (Wr.enc 5).length + (nsE ns).length) = encL p ++ r) := hid_of (drop_step D2.out)
  rw [encLs_cons, encLs_nil, List.append_nil, List.length_append, ← Nat.add_assoc] at HEL
  have CN : Hid (∀ w1s w2, RS b g d w w1s (.int .i64 5) (.int .i64 0) (.int .i64 0) (.slice none 0 0) (.slice none 0 0) (.slice none 0 0) (off + (Wr.enc 5).length) w2 → Calls Try.prog 57 #[.pointer (some ⟨b, 0, none⟩)] w2 (NaP b g d ns (off + (Wr.enc 5).length) w2)) := hid_of (fun w1s w2 k => by obtain ⟨last, s⟩ := k.rg.st; exact rn_any b g _ last d ns (encL p ++ r) w2 s D2.out HSM.out)
  have CR : Hid (∀ w1s x3 w2, RS b g d w w1s (.int .i64 5) (.int .i64 0) (.int .i64 0) x3 (.slice none 0 0) (.slice none 0 0) (off + (Wr.enc 5).length + (nsE ns).length) w2 → Calls Try.prog 30 #[.pointer (some ⟨b, 0, none⟩), .int .i64 ((dep : Int) + 1)] w2 (RdP b g d p (off + (Wr.enc 5).length + (nsE ns).length) w2)) := hid_of (fun w1s x3 w2 k => by obtain ⟨last, s⟩ := k.rg.st; exact IH (dep + 1) _ last r w2 (by omega) (by omega) D3.out s)
  clear hok hdep h hd hp IH
  go_enter Try.func30, Try.ntmps30
  go_wp2_with (first
    | (go_at_call 54; ((with_reducible refine (C0.out).mono ?_); (rintro e w1 ⟨⟨rfl, q0⟩, q1⟩)); have R1 := hid_of (S1.out w1 q1); clear q0 q1)
    | (go_at_call 57; ((with_reducible refine (CN.out _ _ R1.out).mono ?_); (rintro e w2 ⟨xo, xc, rfl, q1, q2, q3⟩)); have R2 := hid_of (R1.out.call q3); have N2 := hid_of (ns_mk (T := Bh w1.heap.size w2) q1 q2 (fun k hk => ⟨Nat.lt_of_lt_of_le R1.out.hp.2 hk.1, hk.2⟩)); clear q1 q2 q3; have R3 := hid_of (R2.out.set 3 (.slice xo ns.length xc) rfl); have N3 := hid_of (N2.out.setBox 3 (.slice xo ns.length xc)); obtain ⟨z0, z1, z2, z3, z4, z5⟩ := R2.out.cells; have f3 := R2.out.free 3)
    | (go_at_call 30; ((with_reducible refine (CR.out _ _ _ R3.out).mono ?_); (rintro e w3 ⟨ao, ac, bo, bc, co, cc, rfl, q1, q2⟩)); have R4 := hid_of (R3.out.call q2); have N4 := hid_of (N3.out.call R3.out q2); have L4 := hid_of q1; have R5 := hid_of (R4.out.alloc (.cells #[.int .i64 p.k, .int .i64 p.lo, .int .i64 p.hi, .slice ao p.ns.length ac, .slice bo p.ps.length bc, .slice co p.rs.length cc] 26)); have P5 := hid_of (ps_one (T := Bh w1.heap.size (w3.alloc (.cells #[.int .i64 p.k, .int .i64 p.lo, .int .i64 p.hi, .slice ao p.ns.length ac, .slice bo p.ps.length bc, .slice co p.rs.length cc] 26))) L4.out (fun k hk => ⟨Nat.lt_of_lt_of_le R3.out.hp.2 hk.1, by have := hk.2; simp; omega⟩) ⟨R4.out.hp.2, by simp⟩ 26); have N5 := hid_of (N4.out.alloc (.cells #[.int .i64 p.k, .int .i64 p.lo, .int .i64 p.hi, .slice ao p.ns.length ac, .slice bo p.ps.length bc, .slice co p.rs.length cc] 26)); clear q1 q2; have R6 := hid_of (R5.out.set 4 (.slice (some ⟨w3.heap.size, 0, none⟩) 1 1) rfl); have N6 := hid_of (N5.out.setBox 4 (.slice (some ⟨w3.heap.size, 0, none⟩) 1 1)); have P6 := hid_of (PS.setBox P5.out 4 (.slice (some ⟨w3.heap.size, 0, none⟩) 1 1)); obtain ⟨u0, u1, u2, u3, u4, u5⟩ := R5.out.cells; have f4 := R5.out.free 4; obtain ⟨y0, y1, y2, y3, y4, y5⟩ := R6.out.cells)
    | (refine wpList_store_row rfl 26 (.tmp 4) (.tmp 108) rfl w.heap.size #[.int .i64 5, .int .i64 0, .int .i64 0, .slice xo ns.length xc, .slice (some ⟨w3.heap.size, 0, none⟩) 1 1, .slice none 0 0] rfl rfl 26 _ R6.out.res infoLat rfl (by simp [Value.oneCell']) ?_))
  refine bodyPost_ret (results_cell_row rfl _ _ w.heap.size 26 #[.int .i64 5, .int .i64 0, .int .i64 0, .slice xo ns.length xc, .slice (some ⟨w3.heap.size, 0, none⟩) 1 1, .slice none 0 0] (0, 0) _ rfl (setRow_heap _ _ _ _ _ _ R6.out.res) Try.underlying26 rfl infoLat) rfl ?_
  exact RS.fin (t := ⟨5, 0, 0, ns, [p], []⟩) (by rw [← HEL.out]; exact R6.out) HOK.out (N6.out) (P6.out) (rus_nil _ _) _ rfl
theorem rd_7 (p q : Lat) (hok : Okay ⟨7, 0, 0, [], [p, q], []⟩) (hdep : 1 ≤ dep ∧ dep ≤ 6) (h : Wr.Rst w b g d off last 0) (hd : d.drop off = encL ⟨7, 0, 0, [], [p, q], []⟩ ++ r) (hp : dep + 1 + depthL p ≤ 7) (hq : dep + 1 + depthL q ≤ 7) (IHp : RP b g d p) (IHq : RP b g d q) :
    Calls Try.prog 30 #[.pointer (some ⟨b, 0, none⟩), .int .i64 dep] w (RdP b g d ⟨7, 0, 0, [], [p, q], []⟩ off w) := by
  have HOK := hid_of hok
  have HBG : Hid (b < w.heap.size ∧ g < w.heap.size) := hid_of ⟨h.blt, h.glt⟩
  have hdd : decide ((dep : Int) > 6) = false := by simp; omega
  have hdw : IntKind.i64.wrap ((dep : Int) + 1) = (dep : Int) + 1 := IntWalk.i64_in _ (by omega)
  have EE : Hid (encL ⟨7, 0, 0, [], [p, q], []⟩ = Wr.enc 7 ++ encLs [p, q]) := hid_of (by
    rw [encL, if_neg (by decide : ¬((7 : Int) = 2 ∨ (7 : Int) = 3)), if_neg (by decide : ¬((7 : Int) = 4 ∨ (7 : Int) = 8)), if_neg (by decide : ¬((7 : Int) = 5)), if_neg (by decide : ¬((7 : Int) = 6)), if_pos (by decide : (7 : Int) = 7)]
    rfl)
  have HE : Hid (d.drop off = Wr.enc 7 ++ (encLs [p, q] ++ r)) := hid_of (by rw [hd, EE.out, List.append_assoc])
  have HEL : Hid (off + (Wr.enc 7).length + (encLs [p, q]).length = off + (encL ⟨7, 0, 0, [], [p, q], []⟩).length) := hid_of (by rw [EE.out]; simp only [List.length_append]; omega)
  have D1 : Hid (d.drop (off + (Wr.enc 7).length) = encLs [p, q] ++ r) := hid_of (drop_step HE.out)
  have C0 := hid_of (show Calls Try.prog 54 #[.pointer (some ⟨b, 0, none⟩)] (w.alloc (.cells [.int .i64 0, .int .i64 0, .int .i64 0, .slice none 0 0, .slice none 0 0, .slice none 0 0].toArray 26 (0, 0))) (fun e w' => (e = .returned (.int .u64 7) ∧ w'.heap.size = (w.alloc (.cells [.int .i64 0, .int .i64 0, .int .i64 0, .slice none 0 0, .slice none 0 0, .slice none 0 0].toArray 26 (0, 0))).heap.size) ∧ RG b g d (w.alloc (.cells [.int .i64 0, .int .i64 0, .int .i64 0, .slice none 0 0, .slice none 0 0, .slice none 0 0].toArray 26 (0, 0))) w' (off + (Wr.enc 7).length)) from uint_rg 7 (RG.start (h.same ((bel_alloc w _).block b HBG.out.1) ((bel_alloc w _).block g HBG.out.2))) HE.out (by omega))
  have S1 : Hid (∀ w1, RG b g d (w.alloc (.cells [.int .i64 0, .int .i64 0, .int .i64 0, .slice none 0 0, .slice none 0 0, .slice none 0 0].toArray 26 (0, 0))) w1 (off + (Wr.enc 7).length) → RS b g d w w1.heap.size (.int .i64 7) (.int .i64 0) (.int .i64 0) (.slice none 0 0) (.slice none 0 0) (.slice none 0 0) (off + (Wr.enc 7).length) (w1.alloc (.cells [.int .i64 7, .int .i64 0, .int .i64 0, .slice none 0 0, .slice none 0 0, .slice none 0 0].toArray 26 (0, 0)))) := hid_of (fun w1 k => RS.start k HBG.out _)
  have D2 : Hid (d.drop (off + (Wr.enc 7).length) = encL p ++ (encL q ++ r)) := hid_of (by rw [D1.out, encLs_cons, encLs_cons, encLs_nil, List.append_nil, List.append_assoc])
  have D3 : Hid (d.drop (off + (Wr.enc 7).length + (encL p).length) = encL q ++ r) := hid_of (drop_step D2.out)
  rw [encLs_cons, encLs_cons, encLs_nil, List.append_nil, List.length_append, ← Nat.add_assoc] at HEL
  have CP : Hid (∀ w1s w2, RS b g d w w1s (.int .i64 7) (.int .i64 0) (.int .i64 0) (.slice none 0 0) (.slice none 0 0) (.slice none 0 0) (off + (Wr.enc 7).length) w2 → Calls Try.prog 30 #[.pointer (some ⟨b, 0, none⟩), .int .i64 ((dep : Int) + 1)] w2 (RdP b g d p (off + (Wr.enc 7).length) w2)) := hid_of (fun w1s w2 k => by obtain ⟨last, s⟩ := k.rg.st; exact IHp (dep + 1) _ last _ w2 (by omega) (by omega) D2.out s)
  have CQ : Hid (∀ w1s w2, RS b g d w w1s (.int .i64 7) (.int .i64 0) (.int .i64 0) (.slice none 0 0) (.slice none 0 0) (.slice none 0 0) (off + (Wr.enc 7).length + (encL p).length) w2 → Calls Try.prog 30 #[.pointer (some ⟨b, 0, none⟩), .int .i64 ((dep : Int) + 1)] w2 (RdP b g d q (off + (Wr.enc 7).length + (encL p).length) w2)) := hid_of (fun w1s w2 k => by obtain ⟨last, s⟩ := k.rg.st; exact IHq (dep + 1) _ last r w2 (by omega) (by omega) D3.out s)
  clear hok hdep h hd hp hq IHp IHq
  go_enter Try.func30, Try.ntmps30
  go_wp2_with (first
    | (go_at_call 54; ((with_reducible refine (C0.out).mono ?_); (rintro e w1 ⟨⟨rfl, q0⟩, q1⟩)); have R1 := hid_of (S1.out w1 q1); clear q0 q1)
    | (go_at_call 30; ((with_reducible refine (CP.out _ _ R1.out).mono ?_); (rintro e w2 ⟨a1, ac1, b1, bc1, c1, cc1, rfl, q1, q2⟩)); have R2 := hid_of (R1.out.call q2); have L2 := hid_of q1; clear q1 q2; have R3 := hid_of (R2.out.alloc (.cells #[.int .i64 p.k, .int .i64 p.lo, .int .i64 p.hi, .slice a1 p.ns.length ac1, .slice b1 p.ps.length bc1, .slice c1 p.rs.length cc1] 26)); have L3 := hid_of (L2.out.keep (keeps_alloc _ w2 (.cells #[.int .i64 p.k, .int .i64 p.lo, .int .i64 p.hi, .slice a1 p.ns.length ac1, .slice b1 p.ps.length bc1, .slice c1 p.rs.length cc1] 26))); have B3 : Hid ((w2.alloc (.cells #[.int .i64 p.k, .int .i64 p.lo, .int .i64 p.hi, .slice a1 p.ns.length ac1, .slice b1 p.ps.length bc1, .slice c1 p.rs.length cc1] 26)).heap[w2.heap.size]? = some (.cells [.int .i64 p.k, .int .i64 p.lo, .int .i64 p.hi, .slice a1 p.ns.length ac1, .slice b1 p.ps.length bc1, .slice c1 p.rs.length cc1].toArray 26 (0, 0))) := hid_of (heap_alloc_new w2 _); have Z3 : Hid (w2.heap.size < (w2.alloc (.cells #[.int .i64 p.k, .int .i64 p.lo, .int .i64 p.hi, .slice a1 p.ns.length ac1, .slice b1 p.ps.length bc1, .slice c1 p.rs.length cc1] 26)).heap.size) := hid_of (by simp)))
  obtain ⟨wb, hwb⟩ : ∃ wb, wb = w2.alloc (.cells #[.int .i64 p.k, .int .i64 p.lo, .int .i64 p.hi, .slice a1 p.ns.length ac1, .slice b1 p.ps.length bc1, .slice c1 p.rs.length cc1] 26) := ⟨_, rfl⟩
  rw [← hwb] at R3 L3 B3 Z3
  have HWB := hid_of hwb.symm
  clear hwb
  have R4 := hid_of R3.out.drew
  have L4 := hid_of (L3.out.keep (w' := wb.drew) ⟨Nat.le_refl _, fun _ _ _ => rfl⟩)
  have B4 : Hid (wb.drew.heap[w2.heap.size]? = some (.cells [.int .i64 p.k, .int .i64 p.lo, .int .i64 p.hi, .slice a1 p.ns.length ac1, .slice b1 p.ps.length bc1, .slice c1 p.rs.length cc1].toArray 26 (0, 0))) := hid_of B3.out
  have HKS : Hid (∀ X : World, X.heap[w2.heap.size]? = some (.cells [.int .i64 p.k, .int .i64 p.lo, .int .i64 p.hi, .slice a1 p.ns.length ac1, .slice b1 p.ps.length bc1, .slice c1 p.rs.length cc1].toArray 26 (0, 0)) → X.cell? ⟨w2.heap.size, 0, none⟩ = some (.int .i64 p.k) ∧ X.cell? ⟨w2.heap.size, 1, none⟩ = some (.int .i64 p.lo) ∧ X.cell? ⟨w2.heap.size, 2, none⟩ = some (.int .i64 p.hi) ∧ X.cell? ⟨w2.heap.size, 3, none⟩ = some (.slice a1 p.ns.length ac1) ∧ X.cell? ⟨w2.heap.size, 4, none⟩ = some (.slice b1 p.ps.length bc1) ∧ X.cell? ⟨w2.heap.size, 5, none⟩ = some (.slice c1 p.rs.length cc1)) := hid_of (fun X e => ⟨cell_blk e rfl, cell_blk e rfl, cell_blk e rfl, cell_blk e rfl, cell_blk e rfl, cell_blk e rfl⟩)
  rw [HWB.out]
  go_region_held3 (fun X => X.cell? ⟨w2.heap.size, 0, none⟩ = some (.int .i64 p.k) ∧ X.cell? ⟨w2.heap.size, 1, none⟩ = some (.int .i64 p.lo) ∧ X.cell? ⟨w2.heap.size, 2, none⟩ = some (.int .i64 p.hi) ∧ X.cell? ⟨w2.heap.size, 3, none⟩ = some (.slice a1 p.ns.length ac1) ∧ X.cell? ⟨w2.heap.size, 4, none⟩ = some (.slice b1 p.ps.length bc1) ∧ X.cell? ⟨w2.heap.size, 5, none⟩ = some (.slice c1 p.rs.length cc1)) (exact HKS.out _ (Hid.out (by with_reducible assumption))) (first
    | (go_at_call 30; ((with_reducible refine (CQ.out _ _ R4.out).mono ?_); (rintro e w3 ⟨a2, ac2, b2, bc2, c2, cc2, rfl, q1, q2⟩)); have R5 := hid_of (R4.out.call q2); have B5 : Hid (w3.heap[w2.heap.size]? = some (.cells [.int .i64 p.k, .int .i64 p.lo, .int .i64 p.hi, .slice a1 p.ns.length ac1, .slice b1 p.ps.length bc1, .slice c1 p.rs.length cc1].toArray 26 (0, 0))) := hid_of ((q2.blk (by have := Z3.out; exact this) (by have := R2.out.hp; have := HBG.out; omega)).trans B4.out); have B6 : Hid ((w3.alloc (.cells #[.int .i64 p.k, .int .i64 p.lo, .int .i64 p.hi, .slice a1 p.ns.length ac1, .slice b1 p.ps.length bc1, .slice c1 p.rs.length cc1, .int .i64 q.k, .int .i64 q.lo, .int .i64 q.hi, .slice a2 q.ns.length ac2, .slice b2 q.ps.length bc2, .slice c2 q.rs.length cc2] 26)).heap[w2.heap.size]? = some (.cells [.int .i64 p.k, .int .i64 p.lo, .int .i64 p.hi, .slice a1 p.ns.length ac1, .slice b1 p.ps.length bc1, .slice c1 p.rs.length cc1].toArray 26 (0, 0))) := hid_of (((bel_alloc w3 _).block _ (lt_of_block B5.out)).trans B5.out); have P5 := hid_of (ps_two (T := Bh w1.heap.size (w3.alloc (.cells #[.int .i64 p.k, .int .i64 p.lo, .int .i64 p.hi, .slice a1 p.ns.length ac1, .slice b1 p.ps.length bc1, .slice c1 p.rs.length cc1, .int .i64 q.k, .int .i64 q.lo, .int .i64 q.hi, .slice a2 q.ns.length ac2, .slice b2 q.ps.length bc2, .slice c2 q.rs.length cc2] 26))) (L4.out.keep (keeps_rg q2 (fun hk => by have := hk.1; have := HBG.out; have := R1.out.hp; omega))) q1 (fun k hk => ⟨Nat.lt_of_lt_of_le R1.out.hp.2 hk.1, by have := hk.2; have := lt_of_block B5.out; simp; omega⟩) (fun k hk => ⟨Nat.lt_of_lt_of_le R3.out.hp.2 hk.1, by have := hk.2; simp; omega⟩) ⟨R5.out.hp.2, by simp⟩ 26); have R6 := hid_of (R5.out.alloc (.cells #[.int .i64 p.k, .int .i64 p.lo, .int .i64 p.hi, .slice a1 p.ns.length ac1, .slice b1 p.ps.length bc1, .slice c1 p.rs.length cc1, .int .i64 q.k, .int .i64 q.lo, .int .i64 q.hi, .slice a2 q.ns.length ac2, .slice b2 q.ps.length bc2, .slice c2 q.rs.length cc2] 26)); have R7 := hid_of (R6.out.set 4 (.slice (some ⟨w3.heap.size, 0, none⟩) 2 2) rfl); have P7 := hid_of (PS.setBox P5.out 4 (.slice (some ⟨w3.heap.size, 0, none⟩) 2 2)); have B7 : Hid (((w3.alloc (.cells #[.int .i64 p.k, .int .i64 p.lo, .int .i64 p.hi, .slice a1 p.ns.length ac1, .slice b1 p.ps.length bc1, .slice c1 p.rs.length cc1, .int .i64 q.k, .int .i64 q.lo, .int .i64 q.hi, .slice a2 q.ns.length ac2, .slice b2 q.ps.length bc2, .slice c2 q.rs.length cc2] 26)).setCell ⟨w1.heap.size, 4, none⟩ (.slice (some ⟨w3.heap.size, 0, none⟩) 2 2)).heap[w2.heap.size]? = some (.cells [.int .i64 p.k, .int .i64 p.lo, .int .i64 p.hi, .slice a1 p.ns.length ac1, .slice b1 p.ps.length bc1, .slice c1 p.rs.length cc1].toArray 26 (0, 0))) := hid_of ((set_blk 0 (by have := R2.out.hp; omega)).trans B6.out); clear q1 q2; obtain ⟨u0, u1, u2, u3, u4, u5⟩ := R6.out.cells; have f4 := R6.out.free 4; obtain ⟨y0, y1, y2, y3, y4, y5⟩ := R7.out.cells))
  all_goals go_wp2_with (refine wpList_store_row rfl 26 (.tmp 4) (.tmp 108) rfl w.heap.size #[.int .i64 7, .int .i64 0, .int .i64 0, .slice none 0 0, .slice (some ⟨w3.heap.size, 0, none⟩) 2 2, .slice none 0 0] rfl rfl 26 _ R7.out.res infoLat rfl (by simp [Value.oneCell']) ?_)
  all_goals (refine bodyPost_ret (results_cell_row rfl _ _ w.heap.size 26 #[.int .i64 7, .int .i64 0, .int .i64 0, .slice none 0 0, .slice (some ⟨w3.heap.size, 0, none⟩) 2 2, .slice none 0 0] (0, 0) _ rfl (setRow_heap _ _ _ _ _ _ R7.out.res) Try.underlying26 rfl infoLat) rfl ?_;   exact RS.fin (t := ⟨7, 0, 0, [], [p, q], []⟩) (by rw [← HEL.out]; exact R7.out) HOK.out (ns_nil _ _) (P7.out) (rus_nil _ _) _ rfl)
theorem rd_6 (ns : List Str) (ps : List Lat) (hok : Okay ⟨6, 0, 0, ns, ps, []⟩) (hdep : 1 ≤ dep ∧ dep ≤ 6) (h : Wr.Rst w b g d off last 0) (hd : d.drop off = encL ⟨6, 0, 0, ns, ps, []⟩ ++ r) (hpl : ps.length = ns.length) (hp : ∀ p ∈ ps, dep + 1 + depthL p ≤ 7) (IH : ∀ p ∈ ps, RP b g d p) :
    Calls Try.prog 30 #[.pointer (some ⟨b, 0, none⟩), .int .i64 dep] w (RdP b g d ⟨6, 0, 0, ns, ps, []⟩ off w) := by
  have HOK := hid_of hok
  have HBG : Hid (b < w.heap.size ∧ g < w.heap.size) := hid_of ⟨h.blt, h.glt⟩
  have hdd : decide ((dep : Int) > 6) = false := by simp; omega
  have hdw : IntKind.i64.wrap ((dep : Int) + 1) = (dep : Int) + 1 := IntWalk.i64_in _ (by omega)
  have EE : Hid (encL ⟨6, 0, 0, ns, ps, []⟩ = Wr.enc 6 ++ (Wr.enc ns.length ++ encPs ns ps)) := hid_of (by
    rw [encL, if_neg (by decide : ¬((6 : Int) = 2 ∨ (6 : Int) = 3)), if_neg (by decide : ¬((6 : Int) = 4 ∨ (6 : Int) = 8)), if_neg (by decide : ¬((6 : Int) = 5)), if_pos (by decide : (6 : Int) = 6)]
    rfl)
  have HE : Hid (d.drop off = Wr.enc 6 ++ ((Wr.enc ns.length ++ encPs ns ps) ++ r)) := hid_of (by rw [hd, EE.out, List.append_assoc])
  have HEL : Hid (off + (Wr.enc 6).length + ((Wr.enc ns.length ++ encPs ns ps)).length = off + (encL ⟨6, 0, 0, ns, ps, []⟩).length) := hid_of (by rw [EE.out]; simp only [List.length_append]; omega)
  have D1 : Hid (d.drop (off + (Wr.enc 6).length) = (Wr.enc ns.length ++ encPs ns ps) ++ r) := hid_of (drop_step HE.out)
  have C0 := hid_of (show Calls Try.prog 54 #[.pointer (some ⟨b, 0, none⟩)] (w.alloc (.cells [.int .i64 0, .int .i64 0, .int .i64 0, .slice none 0 0, .slice none 0 0, .slice none 0 0].toArray 26 (0, 0))) (fun e w' => (e = .returned (.int .u64 6) ∧ w'.heap.size = (w.alloc (.cells [.int .i64 0, .int .i64 0, .int .i64 0, .slice none 0 0, .slice none 0 0, .slice none 0 0].toArray 26 (0, 0))).heap.size) ∧ RG b g d (w.alloc (.cells [.int .i64 0, .int .i64 0, .int .i64 0, .slice none 0 0, .slice none 0 0, .slice none 0 0].toArray 26 (0, 0))) w' (off + (Wr.enc 6).length)) from uint_rg 6 (RG.start (h.same ((bel_alloc w _).block b HBG.out.1) ((bel_alloc w _).block g HBG.out.2))) HE.out (by omega))
  have S1 : Hid (∀ w1, RG b g d (w.alloc (.cells [.int .i64 0, .int .i64 0, .int .i64 0, .slice none 0 0, .slice none 0 0, .slice none 0 0].toArray 26 (0, 0))) w1 (off + (Wr.enc 6).length) → RS b g d w w1.heap.size (.int .i64 6) (.int .i64 0) (.int .i64 0) (.slice none 0 0) (.slice none 0 0) (.slice none 0 0) (off + (Wr.enc 6).length) (w1.alloc (.cells [.int .i64 6, .int .i64 0, .int .i64 0, .slice none 0 0, .slice none 0 0, .slice none 0 0].toArray 26 (0, 0)))) := hid_of (fun w1 k => RS.start k HBG.out _)
  have HNM : Hid (ns.length ≤ 8 ∧ ∀ x ∈ ns, x.length ≤ 16) := hid_of ⟨hok.node.pl rfl, hok.node.nm⟩
  have D2 : Hid (d.drop (off + (Wr.enc 6).length) = Wr.enc ns.length ++ (encPs ns ps ++ r)) := hid_of (by rw [D1.out, List.append_assoc])
  have D3 : Hid (∀ j x u, ns[j]? = some x → ps[j]? = some u → d.drop (off + (Wr.enc 6).length + (Wr.enc ns.length).length + (encPs (ns.take j) (ps.take j)).length) = txE x ++ (encL u ++ (encPs (ns.drop (j + 1)) (ps.drop (j + 1)) ++ r))) := hid_of (fun j x u hx hu => by
    have e1 := drop_step D2.out
    rw [encPs_split ns ps j x u hx hu, List.append_assoc, List.append_assoc, List.append_assoc] at e1
    exact drop_step e1)
  have HPP := hid_of (encPs_pos ns ps hpl)
  rw [List.length_append, ← Nat.add_assoc] at HEL
  have HPL := hid_of hpl
  obtain ⟨n, hn⟩ : ∃ n, n = ns.length := ⟨_, rfl⟩
  rw [← hn] at HEL D2 D3 HNM HPP
  have HN := hid_of hn
  have hn8 := HNM.out.1
  have CC : Hid (∀ w1s w2, RS b g d w w1s (.int .i64 6) (.int .i64 0) (.int .i64 0) (.slice none 0 0) (.slice none 0 0) (.slice none 0 0) (off + (Wr.enc 6).length) w2 → Calls Try.prog 58 #[.pointer (some ⟨b, 0, none⟩), .int .i64 8] w2 fun e w' => (e = .returned (.int .i64 n) ∧ w'.heap.size = w2.heap.size) ∧ RG b g d w2 w' (off + (Wr.enc 6).length + (Wr.enc n).length)) := hid_of (fun w1s w2 k => rc_rg n 8 k.rg D2.out hn8 (by omega) (by rw [List.length_append]; have := HPP.out; omega))
  have HIH : Hid (∀ u ∈ ps, dep + 1 + depthL u ≤ 7 ∧ RP b g d u) := hid_of (fun u hu => ⟨hp u hu, IH u hu⟩)
  have HDP := hid_of hdep
  clear hok hdep h hd hp IH hpl hn
  go_enter Try.func30, Try.ntmps30
  go_wp2_with (first
    | (go_at_call 54; ((with_reducible refine (C0.out).mono ?_); (rintro e w1 ⟨⟨rfl, q0⟩, q1⟩)); have R1 := hid_of (S1.out w1 q1); clear q0 q1)
    | (go_at_call 58; ((with_reducible refine (CC.out _ _ R1.out).mono ?_); (rintro e w2 ⟨⟨rfl, q0⟩, q1⟩)); have L2 := hid_of (show LP b g d w w1.heap.size ns ps 0 0 none 0 none 0 [] (off + (Wr.enc 6).length + (Wr.enc n).length) w2 from lp_start (R1.out.call q1)); clear q0 q1))
  go_loopw [55] (fun iv wr => ∃ (j : Nat) (no : Option Addr) (nc : Nat) (po : Option Addr) (pc : Nat) (qs : List LX), j ≤ n ∧ iv = .int .i64 j ∧ Hid (LP b g d w w1.heap.size ns ps j j no nc po pc qs (off + (Wr.enc 6).length + (Wr.enc n).length + (encPs (ns.take j) (ps.take j)).length) wr)) (fun iv _ => n - (intOf iv).toNat)
  case atStart => exact ⟨0, none, 0, none, 0, [], Nat.zero_le _, rfl, hid_of (by simpa [encPs_nil] using L2.out)⟩
  case round =>
    obtain ⟨j, no, nc, po, pc, qs, hj, rfl, hk⟩ := hrel
    by_cases hlt : j < n
    · have hdd2 : decide (j < n) = true := by simp; omega
      obtain ⟨x, hx⟩ : ∃ x, ns[j]? = some x := ⟨_, List.getElem?_eq_getElem (by have := HN.out; omega)⟩
      obtain ⟨u, hu⟩ : ∃ u, ps[j]? = some u := ⟨_, List.getElem?_eq_getElem (by have := HN.out; have := HPL.out; omega)⟩
      have K1 := hid_of hk.out.drew
      have CT := hid_of (text_rg x K1.out.st.rg (D3.out j x u hx hu) (HNM.out.2 x (List.mem_of_getElem? hx)))
      have HX := hid_of hx
      have HU := hid_of hu
      have HNX : Hid (off + (Wr.enc 6).length + (Wr.enc n).length + (encPs (ns.take j) (ps.take j)).length + (txE x).length + (encL u).length = off + (Wr.enc 6).length + (Wr.enc n).length + (encPs (ns.take (j + 1)) (ps.take (j + 1))).length) := hid_of (by rw [encPs_snoc ns ps j x u hx hu]; simp only [List.length_append]; omega)
      have HDU : Hid (d.drop (off + (Wr.enc 6).length + (Wr.enc n).length + (encPs (ns.take j) (ps.take j)).length + (txE x).length) = encL u ++ (encPs (ns.drop (j + 1)) (ps.drop (j + 1)) ++ r)) := hid_of (drop_step (D3.out j x u hx hu))
      have CR : Hid (∀ i no nc po pc qs w2, LP b g d w w1.heap.size ns ps i j no nc po pc qs (off + (Wr.enc 6).length + (Wr.enc n).length + (encPs (ns.take j) (ps.take j)).length + (txE x).length) w2 → Calls Try.prog 30 #[.pointer (some ⟨b, 0, none⟩), .int .i64 ((dep : Int) + 1)] w2 (RdP b g d u (off + (Wr.enc 6).length + (Wr.enc n).length + (encPs (ns.take j) (ps.take j)).length + (txE x).length) w2)) := hid_of (fun i no nc po pc qs w2 k => by obtain ⟨last, s⟩ := k.st.rg.st; exact (HIH.out u (List.mem_of_getElem? hu)).2 (dep + 1) _ last _ w2 (by omega) ((HIH.out u (List.mem_of_getElem? hu)).1) HDU.out s)
      obtain ⟨bx, hbx⟩ : ∃ bx, bx = ba x := ⟨_, rfl⟩
      rw [← hbx] at CT
      have HBX := hid_of hbx
      clear hx hu hbx
      obtain ⟨s0, s1, s2, s3, s4, s5⟩ := hk.out.st.cells
      go_wp2
      go_cut [] from 57 to 63 (fun wx => ∃ no2 nc2, Hid (LP b g d w w1.heap.size ns ps (j + 1) j no2 nc2 po pc qs (off + (Wr.enc 6).length + (Wr.enc n).length + (encPs (ns.take j) (ps.take j)).length + (txE x).length) wx))
      case first =>
        go_region_law (first
          | (go_simp; go_at_call 59; ((with_reducible refine (CT.out).mono ?_); (rintro e w2 ⟨⟨rfl, q0⟩, q1⟩)); have K2 := hid_of (K1.out.call q1); clear q0 q1; obtain ⟨z0, z1, z2, z3, z4, z5⟩ := K2.out.st.cells; have K3 := hid_of (K2.out.alloc (.cells #[.string bx] 9)); obtain ⟨v0, v1, v2, v3, v4, v5⟩ := K3.out.st.cells)
          | (refine step_gen 22 9 (.string ⟨#[]⟩) 16 1 strsE.und strsE.info strsE.one (by decide) (by kernel_rfl) (.tmp 58) (.tmp 61) (by kernel_rfl) (v := .slice no j nc) (by kernel_rfl) K3.out.nam (by have := K3.out.st.hp; omega) (vx := .slice (some ⟨w2.heap.size, 0, none⟩) 1 1) (by kernel_rfl) (src_str w2 bx) (by omega) (by omega) ?_; intro ao cap w4 ga; have K5 := hid_of (K3.out.name HX.out (by rw [← HBX.out]; exact ga)); have B4 := hid_of (K3.out.st.bel (ga_bel ga K3.out.nam (by have := K3.out.st.hp; omega)) (by omega)); obtain ⟨u0, u1, u2, u3, u4, u5⟩ := B4.out.cells; have f3 := B4.out.free 3; clear ga))
        all_goals go_wp2_with fail
        all_goals go_meet
        all_goals exact ⟨_, _, K5⟩
      case rest =>
        obtain ⟨no2, nc2, hk2⟩ := hcut
        have J1 := hid_of hk2.out.drew
        obtain ⟨t0, t1, t2, t3, t4, t5⟩ := hk2.out.st.cells
        go_wp2
        go_region_law (first
            | (go_simp; go_at_call 30; ((with_reducible refine (CR.out _ _ _ _ _ _ _ J1.out).mono ?_); (rintro e w2 ⟨a2, ac2, b2, bc2, c2, cc2, rfl, q1, q2⟩)); have J2 := hid_of (J1.out.call q2); have X2 := hid_of (lp_kid J1.out q2 q1); clear q1 q2; obtain ⟨z0, z1, z2, z3, z4, z5⟩ := J2.out.st.cells; have J3 := hid_of (J2.out.alloc (.cells #[.int .i64 u.k, .int .i64 u.lo, .int .i64 u.hi, .slice a2 u.ns.length ac2, .slice b2 u.ps.length bc2, .slice c2 u.rs.length cc2] 26)); have X3 := hid_of ((X2.out.keep (keeps_alloc _ w2 (.cells #[.int .i64 u.k, .int .i64 u.lo, .int .i64 u.hi, .slice a2 u.ns.length ac2, .slice b2 u.ps.length bc2, .slice c2 u.rs.length cc2] 26))).mono (sk_alloc w1.heap.size w2 (.cells #[.int .i64 u.k, .int .i64 u.lo, .int .i64 u.hi, .slice a2 u.ns.length ac2, .slice b2 u.ps.length bc2, .slice c2 u.rs.length cc2] 26) _ _)); obtain ⟨v0, v1, v2, v3, v4, v5⟩ := J3.out.st.cells)
            | (refine step_gen 23 26 (.agg #[.int .i64 0, .int .i64 0, .int .i64 0, .slice none 0 0, .slice none 0 0, .slice none 0 0]) 96 6 latL6.und latL6.info latL6.cells (by decide) (by kernel_rfl) (.tmp 65) (.tmp 70) (by kernel_rfl) (v := .slice po j pc) (by kernel_rfl) J3.out.par (by have := J3.out.st.hp; omega) (vx := .slice (some ⟨w2.heap.size, 0, none⟩) 1 1) (by kernel_rfl) (src_lat w2 ⟨u.k, u.lo, u.hi, .slice a2 u.ns.length ac2, .slice b2 u.ps.length bc2, .slice c2 u.rs.length cc2⟩ ⟨rfl, rfl, rfl⟩) (by omega) (by omega) ?_; intro ao cap w4 ga; have J5 := hid_of (J3.out.part HU.out X3.out ga); have B4 := hid_of (J3.out.st.bel (ga_bel ga J3.out.par (by have := J3.out.st.hp; omega)) (by omega)); obtain ⟨u0, u1, u2, u3, u4, u5⟩ := B4.out.cells; have f3 := B4.out.free 4; clear ga))
        all_goals go_wp2
        all_goals go_roundw
        all_goals first
          | (exact ⟨j + 1, _, _, _, _, _, by omega, by go_num, hid_of (by rw [← HNX.out]; exact J5.out)⟩)
          | (simp [intOf]; omega)
    · have hdd2 : decide (j < n) = false := by simp; omega
      obtain rfl : n = j := by omega
      have HF : Hid (LP b g d w w1.heap.size ns ps ns.length ps.length no nc po pc qs (off + (encL ⟨6, 0, 0, ns, ps, []⟩).length) wr) := hid_of (by
        have h1 := hk.out
        have e1 := HN.out
        have e2 := HPL.out
        rw [List.take_of_length_le (by omega), List.take_of_length_le (by omega), HEL.out] at h1
        rw [e2, ← e1]
        exact h1)
      obtain ⟨y0, y1, y2, y3, y4, y5⟩ := hk.out.st.cells
      have HNL : Hid (ns.length ≤ 1000) := hid_of (by have := HN.out; omega)
      go_wp2_with (refine wpList_store_row rfl 26 (.tmp 4) (.tmp 108) rfl w.heap.size #[.int .i64 6, .int .i64 0, .int .i64 0, .slice no n nc, .slice po n pc, .slice none 0 0] rfl rfl 26 _ HF.out.st.res infoLat rfl (by simp [Value.oneCell']) ?_)
      refine bodyPost_ret (results_cell_row rfl _ _ w.heap.size 26 #[.int .i64 6, .int .i64 0, .int .i64 0, .slice no n nc, .slice po n pc, .slice none 0 0] (0, 0) _ rfl (setRow_heap _ _ _ _ _ _ HF.out.st.res) Try.underlying26 rfl infoLat) rfl ?_
      exact RS.fin (t := ⟨6, 0, 0, ns, ps, []⟩) HF.out.st HOK.out (HF.out.fin HNL.out).1 (HF.out.fin HNL.out).2 (rus_nil _ _) _ (by
        show _ = Ending.returned (.agg #[.int .i64 6, .int .i64 0, .int .i64 0, .slice no ns.length nc, .slice po ps.length pc, .slice none 0 0])
        rw [HPL.out, ← HN.out])
theorem rd_10 (ns : List Str) (rs : List Gr) (hok : Okay ⟨10, 0, 0, ns, [], rs⟩) (hdep : 1 ≤ dep ∧ dep ≤ 6) (h : Wr.Rst w b g d off last 0) (hd : d.drop off = encL ⟨10, 0, 0, ns, [], rs⟩ ++ r) :
    Calls Try.prog 30 #[.pointer (some ⟨b, 0, none⟩), .int .i64 dep] w (RdP b g d ⟨10, 0, 0, ns, [], rs⟩ off w) := by
  have HOK := hid_of hok
  have HBG : Hid (b < w.heap.size ∧ g < w.heap.size) := hid_of ⟨h.blt, h.glt⟩
  have hdd : decide ((dep : Int) > 6) = false := by simp; omega
  have hdw : IntKind.i64.wrap ((dep : Int) + 1) = (dep : Int) + 1 := IntWalk.i64_in _ (by omega)
  have EE : Hid (encL ⟨10, 0, 0, ns, [], rs⟩ = Wr.enc 10 ++ (nsE ns ++ rsE rs)) := hid_of (by
    rw [encL, if_neg (by decide : ¬((10 : Int) = 2 ∨ (10 : Int) = 3)), if_neg (by decide : ¬((10 : Int) = 4 ∨ (10 : Int) = 8)), if_neg (by decide : ¬((10 : Int) = 5)), if_neg (by decide : ¬((10 : Int) = 6)), if_neg (by decide : ¬((10 : Int) = 7)), if_pos (by decide : (10 : Int) = 10)]
    rfl)
  have HE : Hid (d.drop off = Wr.enc 10 ++ ((nsE ns ++ rsE rs) ++ r)) := hid_of (by rw [hd, EE.out, List.append_assoc])
  have HEL : Hid (off + (Wr.enc 10).length + ((nsE ns ++ rsE rs)).length = off + (encL ⟨10, 0, 0, ns, [], rs⟩).length) := hid_of (by rw [EE.out]; simp only [List.length_append]; omega)
  have D1 : Hid (d.drop (off + (Wr.enc 10).length) = (nsE ns ++ rsE rs) ++ r) := hid_of (drop_step HE.out)
  have C0 := hid_of (show Calls Try.prog 54 #[.pointer (some ⟨b, 0, none⟩)] (w.alloc (.cells [.int .i64 0, .int .i64 0, .int .i64 0, .slice none 0 0, .slice none 0 0, .slice none 0 0].toArray 26 (0, 0))) (fun e w' => (e = .returned (.int .u64 10) ∧ w'.heap.size = (w.alloc (.cells [.int .i64 0, .int .i64 0, .int .i64 0, .slice none 0 0, .slice none 0 0, .slice none 0 0].toArray 26 (0, 0))).heap.size) ∧ RG b g d (w.alloc (.cells [.int .i64 0, .int .i64 0, .int .i64 0, .slice none 0 0, .slice none 0 0, .slice none 0 0].toArray 26 (0, 0))) w' (off + (Wr.enc 10).length)) from uint_rg 10 (RG.start (h.same ((bel_alloc w _).block b HBG.out.1) ((bel_alloc w _).block g HBG.out.2))) HE.out (by omega))
  have S1 : Hid (∀ w1, RG b g d (w.alloc (.cells [.int .i64 0, .int .i64 0, .int .i64 0, .slice none 0 0, .slice none 0 0, .slice none 0 0].toArray 26 (0, 0))) w1 (off + (Wr.enc 10).length) → RS b g d w w1.heap.size (.int .i64 10) (.int .i64 0) (.int .i64 0) (.slice none 0 0) (.slice none 0 0) (.slice none 0 0) (off + (Wr.enc 10).length) (w1.alloc (.cells [.int .i64 10, .int .i64 0, .int .i64 0, .slice none 0 0, .slice none 0 0, .slice none 0 0].toArray 26 (0, 0)))) := hid_of (fun w1 k => RS.start k HBG.out _)
  have HSM : Hid (Sm ns) := hid_of ⟨hok.node.nl, hok.node.nm⟩
  have HRU : Hid (∀ q ∈ rs, SmR q) := hid_of hok.node.ru
  have HRL : Hid (rs.length ≤ 32) := hid_of hok.node.rl
  have D2 : Hid (d.drop (off + (Wr.enc 10).length) = nsE ns ++ (rsE rs ++ r)) := hid_of (by rw [D1.out, List.append_assoc])
  have D3 : Hid (d.drop (off + (Wr.enc 10).length + (nsE ns).length) = Wr.enc rs.length ++ (rs.flatMap ruE1 ++ r)) := hid_of (by have h1 := drop_step D2.out; rw [rsE, List.append_assoc] at h1; exact h1)
  have D4 : Hid (∀ j q, rs[j]? = some q → d.drop (off + (Wr.enc 10).length + (nsE ns).length + (Wr.enc rs.length).length + ((rs.take j).flatMap ruE1).length) = nsE q.1 ++ (txE q.2 ++ ((rs.drop (j + 1)).flatMap ruE1 ++ r))) := hid_of (fun j q hq => by
    have e1 := drop_step D3.out
    rw [flat_split ruE1 rs j q hq, ruE1, List.append_assoc, List.append_assoc, List.append_assoc] at e1
    exact drop_step e1)
  rw [List.length_append, rsE, List.length_append, ← Nat.add_assoc, ← Nat.add_assoc] at HEL
  obtain ⟨m, hm⟩ : ∃ m, m = rs.length := ⟨_, rfl⟩
  rw [← hm] at HEL D3 D4 HRL
  have HM := hid_of hm
  have hm32 := HRL.out
  have CN : Hid (∀ w1s w2, RS b g d w w1s (.int .i64 10) (.int .i64 0) (.int .i64 0) (.slice none 0 0) (.slice none 0 0) (.slice none 0 0) (off + (Wr.enc 10).length) w2 → Calls Try.prog 57 #[.pointer (some ⟨b, 0, none⟩)] w2 (NaP b g d ns (off + (Wr.enc 10).length) w2)) := hid_of (fun w1s w2 k => by obtain ⟨last, s⟩ := k.rg.st; exact rn_any b g _ last d ns _ w2 s D2.out HSM.out)
  have CC : Hid (∀ w1s x3 w2, RS b g d w w1s (.int .i64 10) (.int .i64 0) (.int .i64 0) x3 (.slice none 0 0) (.slice none 0 0) (off + (Wr.enc 10).length + (nsE ns).length) w2 → Calls Try.prog 58 #[.pointer (some ⟨b, 0, none⟩), .int .i64 32] w2 fun e w' => (e = .returned (.int .i64 m) ∧ w'.heap.size = w2.heap.size) ∧ RG b g d w2 w' (off + (Wr.enc 10).length + (nsE ns).length + (Wr.enc m).length)) := hid_of (fun w1s x3 w2 k => rc_rg m 32 k.rg D3.out hm32 (by omega) (by rw [List.length_append]; have := flat_pos ruE1 ruE1_pos rs; omega))
  clear hok hdep h hd hm
  go_enter Try.func30, Try.ntmps30
  go_wp2_with (first
    | (go_at_call 54; ((with_reducible refine (C0.out).mono ?_); (rintro e w1 ⟨⟨rfl, q0⟩, q1⟩)); have R1 := hid_of (S1.out w1 q1); clear q0 q1)
    | (go_at_call 57; ((with_reducible refine (CN.out _ _ R1.out).mono ?_); (rintro e w2 ⟨no, nc, rfl, q1, q2, q3⟩)); have R2 := hid_of (R1.out.call q3); have N2 := hid_of (ns_mk (T := Bh w1.heap.size w2) q1 q2 (fun k hk => ⟨Nat.lt_of_lt_of_le R1.out.hp.2 hk.1, hk.2⟩)); clear q1 q2 q3; have R3 := hid_of (R2.out.set 3 (.slice no ns.length nc) rfl); have N3 := hid_of (N2.out.setBox 3 (.slice no ns.length nc)); obtain ⟨z0, z1, z2, z3, z4, z5⟩ := R2.out.cells; have f3 := R2.out.free 3)
    | (go_at_call 58; ((with_reducible refine (CC.out _ _ _ R3.out).mono ?_); (rintro e w3 ⟨⟨rfl, q0⟩, q1⟩)); have L3 := hid_of (show LQ b g d w w1.heap.size ns rs no nc 0 none 0 [] (off + (Wr.enc 10).length + (nsE ns).length + (Wr.enc m).length) w3 from lq_start (R3.out.call q1) (N3.out.call R3.out q1)); clear q0 q1))
  go_loopw [8, 94] (fun v8 iv wr => ∃ (x8 : Value) (j : Nat) (ro : Option Addr) (rc : Nat) (ds : List PV), v8 = x8 ∧ j ≤ m ∧ iv = .int .i64 j ∧ Hid (LQ b g d w w1.heap.size ns rs no nc j ro rc ds (off + (Wr.enc 10).length + (nsE ns).length + (Wr.enc m).length + ((rs.take j).flatMap ruE1).length) wr)) (fun _ iv _ => m - (intOf iv).toNat)
  case atStart => exact ⟨_, 0, none, 0, [], rfl, Nat.zero_le _, rfl, hid_of (by simpa using L3.out)⟩
  case round =>
    obtain ⟨x8, j, ro, rc, ds, rfl, hj, rfl, hk⟩ := hrel
    by_cases hlt : j < m
    · have hdd2 : decide (j < m) = true := by simp; omega
      obtain ⟨q, hq⟩ : ∃ q, rs[j]? = some q := ⟨_, List.getElem?_eq_getElem (by have := HM.out; omega)⟩
      have HSQ := hid_of (HRU.out q (List.mem_of_getElem? hq))
      have HQ := hid_of hq
      have HNX : Hid (off + (Wr.enc 10).length + (nsE ns).length + (Wr.enc m).length + ((rs.take j).flatMap ruE1).length + (nsE q.1).length + (txE q.2).length = off + (Wr.enc 10).length + (nsE ns).length + (Wr.enc m).length + ((rs.take (j + 1)).flatMap ruE1).length) := hid_of (by rw [take_snocL hq, List.flatMap_append, List.flatMap_singleton, List.length_append, ruE1, List.length_append]; omega)
      have HDT : Hid (d.drop (off + (Wr.enc 10).length + (nsE ns).length + (Wr.enc m).length + ((rs.take j).flatMap ruE1).length + (nsE q.1).length) = txE q.2 ++ ((rs.drop (j + 1)).flatMap ruE1 ++ r)) := hid_of (drop_step (D4.out j q hq))
      have C2 : Hid (Calls Try.prog 57 #[.pointer (some ⟨b, 0, none⟩)] wr (NaP b g d q.1 (off + (Wr.enc 10).length + (nsE ns).length + (Wr.enc m).length + ((rs.take j).flatMap ruE1).length) wr)) := hid_of (by obtain ⟨last, s⟩ := hk.out.st.rg.st; exact rn_any b g _ last d q.1 _ wr s (D4.out j q hq) HSQ.out.1)
      obtain ⟨bx, hbx⟩ : ∃ bx, bx = ba q.2 := ⟨_, rfl⟩
      have HBX := hid_of hbx
      clear hq hbx
      go_wp2_with (go_at_call 57; ((with_reducible refine (C2.out).mono ?_); (rintro e w4 ⟨xo, xc, rfl, q1, q2, q3⟩)); have K4 := hid_of (hk.out.call q3); have P4 := hid_of (lq_kid hk.out q3 q1 q2); clear q1 q2 q3)
      have K5 := hid_of K4.out.drew
      have P5 : Hid (NS (SK w1.heap.size w4.drew (.slice ro j rc) (.slice none 0 0)) w4.drew (.slice xo q.1.length xc) q.1) := hid_of (P4.out.keep ⟨Nat.le_refl _, fun _ _ _ => rfl⟩)
      have CT : Hid (Calls Try.prog 59 #[.pointer (some ⟨b, 0, none⟩)] w4.drew fun e w' => (e = .returned (.string bx) ∧ w'.heap.size = w4.drew.heap.size) ∧ RG b g d w4.drew w' (off + (Wr.enc 10).length + (nsE ns).length + (Wr.enc m).length + ((rs.take j).flatMap ruE1).length + (nsE q.1).length + (txE q.2).length)) := hid_of (by rw [HBX.out]; exact text_rg q.2 K5.out.st.rg HDT.out HSQ.out.2)
      obtain ⟨s0, s1, s2, s3, s4, s5⟩ := K4.out.st.cells
      go_region_law (first
        | (go_simp; go_at_call 59; ((with_reducible refine (CT.out).mono ?_); (rintro e w5 ⟨⟨rfl, q0⟩, q1⟩)); have K6 := hid_of (K5.out.call q1); have P6 := hid_of (NS.stay K5.out P5.out q1); clear q0 q1; obtain ⟨z0, z1, z2, z3, z4, z5⟩ := K6.out.st.cells; have K7 := hid_of (K6.out.alloc (.cells #[.slice xo q.1.length xc, .string bx] 47)); have P7 := hid_of ((P6.out.keep (keeps_alloc _ w5 (.cells #[.slice xo q.1.length xc, .string bx] 47))).mono (sk_alloc w1.heap.size w5 (.cells #[.slice xo q.1.length xc, .string bx] 47) _ _)); obtain ⟨v0, v1, v2, v3, v4, v5⟩ := K7.out.st.cells)
        | (refine step_gen 24 47 (.agg #[.slice none 0 0, .string ⟨#[]⟩]) 40 2 rulL2.und rulL2.info rulL2.two (by decide) (by kernel_rfl) (.tmp 99) (.tmp 104) (by kernel_rfl) (v := .slice ro j rc) (by kernel_rfl) K7.out.rul (by have := K7.out.st.hp; omega) (vx := .slice (some ⟨w5.heap.size, 0, none⟩) 1 1) (by kernel_rfl) (src_rul w5 (.slice xo q.1.length xc) (.string bx) rfl rfl) (by omega) (by omega) ?_; intro ao cap w6 ga; have K8 := hid_of (K7.out.rule HQ.out P7.out (by rw [← HBX.out]; exact ga)); have B8 := hid_of (K7.out.st.bel (ga_bel ga K7.out.rul (by have := K7.out.st.hp; omega)) (by omega)); obtain ⟨u0, u1, u2, u3, u4, u5⟩ := B8.out.cells; have f5 := B8.out.free 5; clear ga))
      all_goals go_wp2
      all_goals go_roundw
      all_goals first
        | (exact ⟨_, j + 1, _, _, _, rfl, by omega, by go_num, hid_of (by rw [← HNX.out]; exact K8.out)⟩)
        | (simp [intOf]; omega)
    · have hdd2 : decide (j < m) = false := by simp; omega
      obtain rfl : m = j := by omega
      have HF : Hid (LQ b g d w w1.heap.size ns rs no nc rs.length ro rc ds (off + (encL ⟨10, 0, 0, ns, [], rs⟩).length) wr) := hid_of (by
        have h1 := hk.out
        have e1 := HM.out
        rw [List.take_of_length_le (by omega), HEL.out] at h1
        rw [← e1]
        exact h1)
      obtain ⟨y0, y1, y2, y3, y4, y5⟩ := hk.out.st.cells
      go_wp2_with (refine wpList_store_row rfl 26 (.tmp 4) (.tmp 108) rfl w.heap.size #[.int .i64 10, .int .i64 0, .int .i64 0, .slice no ns.length nc, .slice none 0 0, .slice ro m rc] rfl rfl 26 _ HF.out.st.res infoLat rfl (by simp [Value.oneCell']) ?_)
      refine bodyPost_ret (results_cell_row rfl _ _ w.heap.size 26 #[.int .i64 10, .int .i64 0, .int .i64 0, .slice no ns.length nc, .slice none 0 0, .slice ro m rc] (0, 0) _ rfl (setRow_heap _ _ _ _ _ _ HF.out.st.res) Try.underlying26 rfl infoLat) rfl ?_
      exact RS.fin (t := ⟨10, 0, 0, ns, [], rs⟩) HF.out.st HOK.out HF.out.fin.1 (ps_nil _ _) HF.out.fin.2 _ (by
        show _ = Ending.returned (.agg #[.int .i64 10, .int .i64 0, .int .i64 0, .slice no ns.length nc, .slice none 0 0, .slice ro rs.length rc])
        rw [← HM.out])
end
end Go.Proofs.Ytdmonbcinlmljaa

/- read of package lattice for every tree, and Decode of an encoding. Bounds on sizes alone. -/
namespace Go.Proofs.Ytdmonbcinlmljaa
open Go.RowKit
set_option maxRecDepth 100000

theorem depth_p {k lo hi : Int} {ns : List Str} {ps : List Lat} {rs : List Gr} {n : Nat} (h : n + depthL ⟨k, lo, hi, ns, ps, rs⟩ ≤ 7) : ∀ p ∈ ps, n + 1 + depthL p ≤ 7 := fun p hp => by
  rw [depthL] at h
  have := depth_mem ps p hp
  omega
theorem read_any (b g : Nat) (d : List Int) : ∀ t, Okay t → RP b g d t := by
  refine lat_ind ?_
  intro k lo hi ns ps rs ih hok dep off last r w h1 h2 hd h
  have pa := hok.part
  have ka := hok.node.kk
  have sa := hok.node.shape
  simp only [Lat.k, Lat.ps] at ka pa
  have HP := depth_p h2
  have h6 : 1 ≤ dep ∧ dep ≤ 6 := by
    rw [depthL] at h2
    omega
  unfold shapeB at sa
  simp only [Lat.k, Lat.lo, Lat.hi, Lat.ns, Lat.ps, Lat.rs] at sa
  rcases kinds k with rfl | rfl | rfl | rfl | rfl | rfl | rfl | rfl | rfl | rfl | hx
  case inr.inr.inr.inr.inr.inr.inr.inr.inr.inr => omega
  case inl =>
    simp at sa
    obtain ⟨rfl, rfl, rfl, rfl, rfl⟩ := of_decide_eq_true sa
    exact rd_1 b g off last dep d r w hok h6 h hd
  case inr.inl =>
    simp at sa
    obtain ⟨rfl, rfl, rfl⟩ := of_decide_eq_true sa
    exact rd_2 b g off last dep d r w lo hi hok h6 h hd
  case inr.inr.inl =>
    simp at sa
    obtain ⟨rfl, rfl, rfl⟩ := of_decide_eq_true sa
    exact rd_3 b g off last dep d r w lo hi hok h6 h hd
  case inr.inr.inr.inl =>
    simp at sa
    obtain ⟨rfl, rfl, rfl, rfl⟩ := of_decide_eq_true sa
    exact rd_4 b g off last dep d r w ns hok h6 h hd
  case inr.inr.inr.inr.inl =>
    simp at sa
    obtain ⟨rfl, rfl, rfl, a4⟩ := of_decide_eq_true sa
    match ps, a4 with
    | [p], _ => exact rd_5 b g off last dep d r w ns p hok h6 h hd (HP p (by simp)) (ih p (by simp) (pa p (by simp)))
  case inr.inr.inr.inr.inr.inl =>
    simp at sa
    obtain ⟨rfl, rfl, rfl, a4, a5⟩ := of_decide_eq_true sa
    exact rd_6 b g off last dep d r w ns ps hok h6 h hd a4 HP fun p hp => ih p hp (pa p hp)
  case inr.inr.inr.inr.inr.inr.inl =>
    simp at sa
    obtain ⟨rfl, rfl, rfl, a4, rfl⟩ := of_decide_eq_true sa
    match ps, a4 with
    | [p, q], _ => exact rd_7 b g off last dep d r w p q hok h6 h hd (HP p (by simp)) (HP q (by simp)) (ih p (by simp) (pa p (by simp))) (ih q (by simp) (pa q (by simp)))
  case inr.inr.inr.inr.inr.inr.inr.inl =>
    simp at sa
    obtain ⟨rfl, rfl, rfl, rfl⟩ := of_decide_eq_true sa
    exact rd_8 b g off last dep d r w ns hok h6 h hd
  case inr.inr.inr.inr.inr.inr.inr.inr.inl =>
    simp at sa
    obtain ⟨rfl, rfl, rfl, rfl, rfl⟩ := of_decide_eq_true sa
    exact rd_9 b g off last dep d r w hok h6 h hd
  case inr.inr.inr.inr.inr.inr.inr.inr.inr.inl =>
    simp at sa
    obtain ⟨rfl, rfl, rfl, a4⟩ := of_decide_eq_true sa
    exact rd_10 b g off last dep d r w ns rs hok h6 h hd
theorem lo_of_ls {S : Nat → Prop} {w : World} {k lo hi : Int} {an : Option Addr} {nn cn : Nat} {ap : Option Addr} {np cp : Nat} {ar : Option Addr} {nr cr : Nat} {t : Lat} (h : LS S w ⟨k, lo, hi, .slice an nn cn, .slice ap np cp, .slice ar nr cr⟩ t) : LO w k lo hi an nn cn ap np cp ar nr cr t := by
  obtain ⟨k', lo', hi', an', nn', cn', ap', np', cp', ar', nr', cr', e, H⟩ := h.ld.open
  simp only [LX.mk.injEq, Value.slice.injEq] at e
  obtain ⟨rfl, rfl, rfl, ⟨rfl, rfl, rfl⟩, ⟨rfl, rfl, rfl⟩, rfl, rfl, rfl⟩ := e
  exact H
/-- What Decode gives. -/
def DcP (t : Lat) (w : World) (e : Ending) (w' : World) : Prop := ∃ (xo : Option Addr) (xc : Nat) (yo : Option Addr) (yc : Nat) (zo : Option Addr) (zc : Nat), e = .returned (.tuple #[.agg #[.int .i64 t.k, .int .i64 t.lo, .int .i64 t.hi, .slice xo t.ns.length xc, .slice yo t.ps.length yc, .slice zo t.rs.length zc], .int .i64 0]) ∧
  LO w' t.k t.lo t.hi xo t.ns.length xc yo t.ps.length yc zo t.rs.length zc t ∧ Below w.heap.size w w'
set_option maxHeartbeats 3200000 in
theorem decode_ok (t : Lat) (hok : Okay t) (hchk : chkL t = 0) (hdep : depthL t ≤ 6) (ao : Option Addr) (cap : Nat) (w : World) (hr : ∀ x ∈ encL t, 0 ≤ x ∧ x ≤ 255) (hl : (encL t).length ≤ 140737488351232)
    (hpos : 0 < (encL t).length → ∃ ad, ao = some ad ∧ ∀ w', Below w.heap.size w w' → ∀ j v, (Wr.bs (encL t))[j]? = some v → w'.cell? (ad.add j) = some v) :
    Calls Try.prog 11 #[.slice ao (encL t).length cap] w (DcP t w) := by
  have RD : Hid (∀ b g w2, Wr.Rst w2 b g (encL t) 0 0 0 → Calls Try.prog 30 #[.pointer (some ⟨b, 0, none⟩), .int .i64 1] w2 (RdP b g (encL t) t 0 w2)) := hid_of (fun b g w2 h => read_any b g (encL t) t hok 1 0 0 [] w2 (by omega) (by omega) (by simp) h)
  obtain ⟨d, hd⟩ : ∃ d, d = encL t := ⟨_, rfl⟩
  have HD := hid_of hd
  rw [← hd] at hr hl hpos RD ⊢
  have HBW := hid_of (bel_alloc w (.cells #[.int .i64 0, .int .i64 0, .int .i64 0, .slice none 0 0, .slice none 0 0, .slice none 0 0] 26))
  have NR := hid_of (Wr.newReader_any ao d cap (w.alloc (.cells #[.int .i64 0, .int .i64 0, .int .i64 0, .slice none 0 0, .slice none 0 0, .slice none 0 0] 26)) hr hl (fun h0 => by obtain ⟨ad, e, hc⟩ := hpos h0; exact ⟨ad, e, hc _ HBW.out⟩))
  have EN : Hid (∀ b g wa w3, RG b g d wa w3 (0 + (encL t).length) → Calls Try.prog 31 #[.pointer (some ⟨b, 0, none⟩)] w3 fun e w' => e = .returned (.int .i64 0) ∧ ∃ m, w' = w3.drewN m) := hid_of (fun b g wa w3 h => by
    obtain ⟨last, s⟩ := h.st
    rw [Nat.zero_add, ← HD.out] at s
    exact Wr.end_ok b g d.length last d w3 s rfl)
  have CH : Hid (∀ xo xc yo yc zo zc W, LO W t.k t.lo t.hi xo t.ns.length xc yo t.ps.length yc zo t.rs.length zc t → Calls Try.prog 6 #[.agg #[.int .i64 t.k, .int .i64 t.lo, .int .i64 t.hi, .slice xo t.ns.length xc, .slice yo t.ps.length yc, .slice zo t.rs.length zc]] W (ErP 0 W)) := hid_of (fun xo xc yo yc zo zc W H => by
    have := check_any _ t.k t.lo t.hi xo t.ns.length xc yo t.ps.length yc zo t.rs.length zc W H
    rwa [hchk] at this)
  clear hr hpos hok hchk hdep hd
  go_enter Try.func11, Try.ntmps11
  go_wp2_with (first
    | (go_at_call 29; ((with_reducible refine (NR.out).mono ?_); (rintro e w1 ⟨b, g, rfl, q1, q2, q3, q4⟩); (have R1 := hid_of q1); (have B1 := hid_of q2); (have B3 := hid_of (And.intro q3 q4)); (have Z1 : Hid (w1.heap[w.heap.size]? = some (.cells [.int .i64 0, .int .i64 0, .int .i64 0, .slice none 0 0, .slice none 0 0, .slice none 0 0].toArray 26 (0, 0))) := hid_of ((q2.block _ (by simp)).trans (heap_alloc_new w _))); clear q1 q2 q3 q4))
    | (go_at_call 30; ((with_reducible refine (RD.out b g w1 R1.out).mono ?_); (rintro e w2 ⟨xo, xc, yo, yc, zo, zc, rfl, q1, q2⟩); (have L2 := hid_of q1); (have K2 := hid_of q2); (have K3 := hid_of (q2.alloc (.cells #[.int .i64 t.k, .int .i64 t.lo, .int .i64 t.hi, .slice xo t.ns.length xc, .slice yo t.ps.length yc, .slice zo t.rs.length zc] 26))); clear q1 q2))
    | (go_at_call 31; ((with_reducible refine (EN.out b g w1 _ K3.out).mono ?_); (rintro e w3 ⟨rfl, m, rfl⟩); (have L4 := hid_of (lo_of_ls (L2.out.keep (w' := (w2.alloc (.cells #[.int .i64 t.k, .int .i64 t.lo, .int .i64 t.hi, .slice xo t.ns.length xc, .slice yo t.ps.length yc, .slice zo t.rs.length zc] 26)).drewN m) (keeps_alloc _ w2 _))))))
    | (go_at_call 6; ((with_reducible refine (CH.out xo xc yo yc zo zc _ L4.out).mono ?_); (rintro e w4 ⟨rfl, q1⟩); (have M5 := hid_of ((L2.out.keep (w' := (w2.alloc (.cells #[.int .i64 t.k, .int .i64 t.lo, .int .i64 t.hi, .slice xo t.ns.length xc, .slice yo t.ps.length yc, .slice zo t.rs.length zc] 26)).drewN m) (keeps_alloc _ w2 _)).keep (w' := w4) ⟨q1.size, fun k _ hk => q1.block k hk⟩)); (have B4 : Hid (Below (w2.alloc (.cells #[.int .i64 t.k, .int .i64 t.lo, .int .i64 t.hi, .slice xo t.ns.length xc, .slice yo t.ps.length yc, .slice zo t.rs.length zc] 26)).heap.size (w2.alloc (.cells #[.int .i64 t.k, .int .i64 t.lo, .int .i64 t.hi, .slice xo t.ns.length xc, .slice yo t.ps.length yc, .slice zo t.rs.length zc] 26)) w4) := hid_of ⟨q1.os, q1.tape, q1.output, q1.size, q1.block⟩); (have Z4 : Hid (w4.heap[w.heap.size]? = some (.cells [.int .i64 0, .int .i64 0, .int .i64 0, .slice none 0 0, .slice none 0 0, .slice none 0 0].toArray 26 (0, 0))) := hid_of ((B4.out.block _ (by have := K2.out.size; have := B1.out.size; simp at *; omega)).trans (((bel_alloc w2 _).block _ (by have := K2.out.size; have := B1.out.size; simp at *; omega)).trans ((K2.out.blk (by have := B1.out.size; simp at *; omega) (by have := B3.out; simp at *; omega)).trans Z1.out)))); (obtain ⟨y0, y1, y2, y3, y4, y5⟩ := box6 t.k t.lo t.hi xo t.ns.length xc yo t.ps.length yc zo t.rs.length zc B4.out); clear q1))
    | (refine wpList_store_row rfl 26 (.tmp 2) (.tmp 19) rfl w.heap.size #[.int .i64 t.k, .int .i64 t.lo, .int .i64 t.hi, .slice xo t.ns.length xc, .slice yo t.ps.length yc, .slice zo t.rs.length zc] rfl rfl 26 _ Z4.out infoLat rfl (by simp [Value.oneCell']) ?_))
  refine bodyPost_ret (res_ct rfl w.heap.size rfl (setRow_heap _ _ _ #[.int .i64 t.k, .int .i64 t.lo, .int .i64 t.hi, .slice xo t.ns.length xc, .slice yo t.ps.length yc, .slice zo t.rs.length zc] _ _ Z4.out) Try.underlying26 rfl infoLat) rfl ⟨xo, xc, yo, yc, zo, zc, rfl, ?_, ?_⟩
  · exact lo_of_ls (M5.out.keep ⟨by simp [World.setRow], fun k hk _ => setRow_other _ _ _ _ (by have := hk.1; have := B1.out.size; simp at this; omega)⟩)
  · have x1 : Below w.heap.size w w1 := HBW.out.trans (B1.out.mono (by simp))
    have x2 : Below w.heap.size w w2 := x1.trans ⟨K2.out.kept.os, K2.out.kept.tape, K2.out.kept.output, K2.out.size, fun k hk => K2.out.blk (by have := x1.size; omega) (by have := B3.out; simp at this; omega)⟩
    exact below_setRow ((x2.trans ((bel_alloc w2 _).mono x2.size)).trans (B4.out.mono (by have := x2.size; simp; omega))) (Nat.le_refl _) _
end Go.Proofs.Ytdmonbcinlmljaa

/- The reference's Uint, Int, Text and texts, onto whatever bytes. Bounds on sizes alone. -/
namespace Go.Proofs.Ytdmonbcinlmljaa
open Go.RowKit
set_option maxRecDepth 100000

theorem u8E : Elem Try.prog 34 5 (.int .u8 0) 1 := ⟨Try.underlying34, by kernel_rfl, rfl⟩
theorem bs_cells (l : List Int) : ∀ u ∈ Wr.bs l, u.oneCell' = true := by
  intro u hu
  simp only [Wr.bs, List.mem_map] at hu
  obtain ⟨y, _, rfl⟩ := hu
  rfl
theorem bs_len (l : List Int) : (Wr.bs l).length = l.length := by simp [Wr.bs]
theorem bs_app (a b : List Int) : Wr.bs (a ++ b) = Wr.bs a ++ Wr.bs b := by simp [Wr.bs]
/-- The bytes so far, in a row of the call's own. -/
def EO (wA W : World) (v : Value) (L : List Int) : Prop := Ow 5 wA.heap.size wA W v (Wr.bs L)
theorem EO.bel {wA W : World} {v : Value} {L : List Int} (h : EO wA W v L) : Below wA.heap.size wA W := Ow.bel h
theorem EO.later {wA W W' : World} {v : Value} {L : List Int} (h : EO wA W v L) (hb : Below W.heap.size W W') : EO wA W' v L := Ow.later h hb
theorem EO.start {wA W W' : World} {v v' : Value} {L L' : List Int} (h : EO wA W v L) (k : EO W W' v' L') : EO wA W' v' L' := Ow.start k (Nat.le_refl _) h.bel (Ow.size h)
set_option maxHeartbeats 1600000 in
theorem fuint_rd (l : List Int) (x0 : Option Addr) (n0 cap0 : Nat) (n : Nat) (w : World) (hL : Rd w (.slice x0 n0 cap0) (Wr.bs l)) (hl : l.length ≤ 100000000000000) (hn : n < 18446744073709551616) :
    Calls Try.prog 32 #[.slice x0 n0 cap0, .int .u64 n] w fun e w' => ∃ x k c, e = .returned (.slice x k c) ∧ EO w w' (.slice x k c) (l ++ Wr.enc n) := by
  have hel := Wr.enc_length_10 n hn
  have HL := hid_of hL
  have HLL := hid_of hl
  clear hL
  go_enter Try.func32, Try.ntmps32
  go_wp2_with (at_builtin; (refine wpList_app u8E rfl _ _ rfl (v := .slice (some ⟨w.heap.size, 0, none⟩) 0 0) (l := []) rfl (ow_empty 5 w) (vx := .slice x0 n0 cap0) (m := Wr.bs l) rfl (HL.out.at (bel_alloc w _)) (bs_cells l) (by have := HLL.out; simp [bs_len]; omega) (by have := HLL.out; simp [bs_len]; omega) ?_); intro xo1 n1 c1 w1 hn1 h1; have H1 : Hid (EO w w1 (.slice xo1 n1 c1) l) := hid_of h1; clear h1 hn1)
  go_loopw [1, 5] (fun nv sv wr => ∃ k ao m cap, nv = .int .u64 ((n / 128 ^ k : Nat) : Int) ∧ sv = .slice ao m cap ∧ Hid (k ≤ 9 ∧ (∀ j, j < k → 128 ≤ n / 128 ^ j) ∧ EO w wr (.slice ao m cap) (l ++ Wr.encTake k n))) (fun nv _ _ => (intOf nv).toNat)
  case atStart => exact ⟨0, xo1, n1, c1, by simp, rfl, hid_of ⟨by omega, fun j hj => by omega, by have := H1.out; rw [show l ++ Wr.encTake 0 n = l by simp [Wr.encTake]]; exact this⟩⟩
  case round =>
    obtain ⟨k, ao, mm, cap, rfl, rfl, hinv⟩ := hrel
    obtain ⟨m, hm⟩ : ∃ m, m = n / 128 ^ k := ⟨_, rfl⟩
    rw [← hm]
    have hmn : m ≤ n := by rw [hm]; exact Nat.div_le_self _ _
    have HM := hid_of hm
    clear hm
    have HK : Hid (k ≤ 9) := hid_of hinv.out.1
    have HOS : Hid (Ow 5 w.heap.size w wr (.slice ao mm cap) (Wr.bs (l ++ Wr.encTake k n))) := hid_of hinv.out.2.2
    have HLN : Hid ((Wr.bs (l ++ Wr.encTake k n)).length ≤ 100000000000009) := hid_of (by have := HK.out; have := HLL.out; rw [bs_len, List.length_append, Wr.encTake_length]; omega)
    have HJ := hid_of hinv.out.2.1
    clear hinv
    by_cases hlt : 128 ≤ m
    · have hk8 : k ≤ 8 := by
        have h1 := HM.out
        have h0 := HK.out
        rcases Nat.lt_or_ge k 9 with h2 | h2
        · omega
        · obtain rfl : k = 9 := by omega
          have h3 : m = n / 9223372036854775808 := h1
          omega
      go_wp2_with (at_builtin; (refine wpList_app u8E rfl _ _ rfl (v := .slice ao mm cap) (l := Wr.bs (l ++ Wr.encTake k n)) rfl (HOS.out.alloc _) (vx := .slice (some ⟨wr.heap.size, 0, none⟩) 1 1) (m := [.int .u8 ((m : Int) % 128 + 128)]) rfl (rd_new rfl rfl (by simp)) (by intro u hu; rw [List.mem_singleton.1 hu]; rfl) (by have := HLN.out; simp only [List.length_singleton]; omega) (by have := HLN.out; simp only [List.length_singleton]; omega) ?_); intro xo2 n2 c2 w2 hn2 h2; have H2 := hid_of h2; clear h2 hn2)
      go_roundw
      case rel =>
        refine ⟨k + 1, xo2, n2, c2, ?_, rfl, hid_of ⟨by omega, fun j hj => ?_, ?_⟩⟩
        · rw [HM.out, Nat.pow_succ, ← Nat.div_div_eq_div_mul]
          go_num
        · rcases Nat.lt_or_ge j k with h1 | h1
          · exact HJ.out j h1
          · obtain rfl : j = k := by omega
            rw [← HM.out]; exact hlt
        · have h5 := H2.out
          unfold EO
          rw [Wr.encTake_snoc, ← HM.out, ← List.append_assoc, bs_app]
          rw [show (m : Int) % 128 + 128 = ((m % 128 + 128 : Nat) : Int) by omega] at h5
          exact h5
      case measure => simp [intOf]; omega
    · go_wp2_with (at_builtin; (refine wpList_app u8E rfl _ _ rfl (v := .slice ao mm cap) (l := Wr.bs (l ++ Wr.encTake k n)) rfl (HOS.out.alloc _) (vx := .slice (some ⟨wr.heap.size, 0, none⟩) 1 1) (m := [.int .u8 (m : Int)]) rfl (rd_new rfl rfl (by simp)) (by intro u hu; rw [List.mem_singleton.1 hu]; rfl) (by have := HLN.out; simp only [List.length_singleton]; omega) (by have := HLN.out; simp only [List.length_singleton]; omega) ?_); intro xo2 n2 c2 w2 hn2 h2; have H2 := hid_of h2; clear h2 hn2)
      go_ret
      refine ⟨_, _, _, rfl, ?_⟩
      have h5 := H2.out
      unfold EO
      rw [Wr.enc_take k n HJ.out, ← HM.out, Wr.enc_lt (by omega), ← List.append_assoc, bs_app]
      exact h5
/-- What the reference's writers give. -/
def EP (wA W : World) (L : List Int) (e : Ending) (w' : World) : Prop := ∃ x k c, e = .returned (.slice x k c) ∧ EO wA w' (.slice x k c) L ∧ Below W.heap.size W w'
theorem EO.rdd {wA W : World} {v : Value} {L : List Int} (h : EO wA W v L) (hl : L.length ≤ 100000000000000) : Rd W v (Wr.bs L) := Ow.rd h (by rw [bs_len]; omega)
theorem eo_nil (wA : World) : EO wA wA (.slice none 0 0) [] := ow_nil _ _
theorem fuint_eo {wA W : World} {L : List Int} {x0 : Option Addr} {n0 c0 : Nat} (n : Nat) (h : EO wA W (.slice x0 n0 c0) L) (hl : L.length ≤ 100000000000000) (hn : n < 18446744073709551616) :
    Calls Try.prog 32 #[.slice x0 n0 c0, .int .u64 n] W (EP wA W (L ++ Wr.enc n)) :=
  (fuint_rd L x0 n0 c0 n W (h.rdd hl) hl hn).mono fun e w' ⟨x, k, c, q1, q2⟩ => ⟨x, k, c, q1, h.start q2, q2.bel⟩
set_option maxHeartbeats 1600000 in
theorem fint_eo {wA W : World} {L : List Int} {x0 : Option Addr} {n0 c0 : Nat} (n : Int) (h : EO wA W (.slice x0 n0 c0) L) (hl : L.length ≤ 100000000000000) (hn : R64 n) :
    Calls Try.prog 33 #[.slice x0 n0 c0, .int .i64 n] W (EP wA W (L ++ Wr.enc (Wr.zig n))) := by
  have C := hid_of (fuint_eo (Wr.zig n) h hl (Wr.zig_lt n hn.1 hn.2))
  obtain ⟨h0, h1⟩ := hn
  clear h hl
  by_cases hn : 0 ≤ n
  · have HP : Hid (2 * n = ((Wr.zig n : Nat) : Int)) := hid_of (by unfold Wr.zig; rw [if_pos hn]; omega)
    go_enter Try.func33, Try.ntmps33
    go_wp2_with (go_at_call 32; rw [HP.out]; refine C.out.mono ?_; rintro e w1 ⟨x, k, c, rfl, h1, h2⟩; have H1 := hid_of h1; have H2 := hid_of h2; clear h1 h2)
    go_ret
    exact ⟨_, _, _, rfl, H1.out, H2.out⟩
  · have HP : Hid (2 * -(n + 1) + 1 = ((Wr.zig n : Nat) : Int)) := hid_of (by unfold Wr.zig; rw [if_neg hn]; omega)
    go_enter Try.func33, Try.ntmps33
    go_wp2_with (go_at_call 32; rw [HP.out]; refine C.out.mono ?_; rintro e w1 ⟨x, k, c, rfl, h1, h2⟩; have H1 := hid_of h1; have H2 := hid_of h2; clear h1 h2)
    go_ret
    exact ⟨_, _, _, rfl, H1.out, H2.out⟩
theorem src_text (W : World) (x : Str) (bx : ByteArray) (hbx : bx = ba x) : Src Try.prog 1 9 (.string bx) x.length (Wr.bs (Wr.strBytes (ba x))) W := by
  subst hbx
  have h1 := Src.ofString (P := Try.prog) W Try.underlying9 (ba x)
  have e : byteCells (ba x) = Wr.bs (Wr.strBytes (ba x)) := by simp [byteCells, Wr.bs, Wr.strBytes]
  rw [e, show (ba x).size = x.length by simp [ba, ByteArray.size]] at h1
  exact h1
theorem eo_len {wA W : World} {x : Option Addr} {k c : Nat} {L : List Int} (h : EO wA W (.slice x k c) L) : k = L.length := by
  obtain ⟨ao, cap, e⟩ := own_shape (Ow.own h)
  simp only [Value.slice.injEq] at e
  rw [e.2.1, bs_len]
theorem eo_own {wA W : World} {x : Option Addr} {k c : Nat} {L : List Int} (h : EO wA W (.slice x k c) L) : W.ownsRow wA.heap.size 5 1 (.slice x k c) k (Wr.bs L) := by
  have h1 := Ow.own h
  rwa [bs_len, ← eo_len h] at h1
theorem eo_size {wA W : World} {v : Value} {L : List Int} (h : EO wA W v L) : wA.heap.size ≤ W.heap.size := Ow.size h
theorem eo_app {wA W w2 : World} {x : Option Addr} {k c n : Nat} {L : List Int} {s : Str} {v2 : Value} (h : EO wA W (.slice x k c) L) (hn : n = s.length) (ho : w2.ownsRow wA.heap.size 5 1 v2 (k + n) (Wr.bs L ++ Wr.bs (Wr.strBytes (ba s)))) (hg : W.grownBy w2 (Value.slice x k c).ownBlock) : ∃ z c2, v2 = .slice z (k + n) c2 ∧ EO wA w2 v2 (L ++ Wr.strBytes (ba s)) ∧ Below wA.heap.size W w2 := by
  obtain ⟨z, c2, rfl⟩ := own_shape ho
  have h2 := Ow.app (m := Wr.bs (Wr.strBytes (ba s))) h ho (by rw [bs_len, bs_len, ← eo_len h, hn, strB_length]) hg
  refine ⟨z, c2, rfl, by unfold EO; rw [bs_app]; exact h2, hg.os, hg.tape, hg.output, hg.size, fun q hq => hg.block q (by have := eo_size h; omega) (fun e => by have := ((Ow.own h).lt q e.symm).1; omega)⟩
set_option maxHeartbeats 1600000 in
theorem ftext_eo {wA W : World} {L : List Int} {x0 : Option Addr} {n0 c0 : Nat} (x : Str) (bx : ByteArray) (hbx : bx = ba x) (h : EO wA W (.slice x0 n0 c0) L) (hl : L.length ≤ 90000000000000) (hx : x.length ≤ 16) :
    Calls Try.prog 35 #[.slice x0 n0 c0, .string bx] W (EP wA W (L ++ txE x)) := by
  have hs : bx.size = x.length := by subst hbx; simp [ba, ByteArray.size]
  have C := hid_of (fuint_rd L x0 n0 c0 x.length W (h.rdd (by omega)) (by omega) (by omega))
  have HST := hid_of h
  have HS : Hid ((L ++ Wr.enc x.length).length ≤ 90000000000010) := hid_of (by have := Wr.enc_length_10 x.length (by omega); rw [List.length_append]; omega)
  have HSR := hid_of (fun W' => src_text W' x bx hbx)
  obtain ⟨n, hn⟩ : ∃ n, n = x.length := ⟨_, rfl⟩
  rw [← hn] at C HS HSR hs hx
  have HN := hid_of hn
  clear h hl hbx hn
  obtain ⟨i0, hi, hz0, hz1, hz2⟩ := info_parts u8E.info
  have HI := hid_of (And.intro hi (And.intro hz0 (And.intro hz1 hz2)))
  clear hi hz0 hz1 hz2
  go_enter Try.func35, Try.ntmps35
  go_wp2_with (first
    | (go_at_call 32; ((with_reducible refine (C.out).mono ?_); (rintro e w1 ⟨y, k, c, rfl, h1⟩)); have H1 := hid_of h1; clear h1)
    | (at_builtin; (refine wpList_append_src _ rfl _ _ 34 9 rfl W.heap.size 5 i0 (.int .u8 0) 1 1 Try.underlying34 HI.out.1 HI.out.2.1 HI.out.2.2.1 HI.out.2.2.2 rfl (by decide) (.slice y k c) k (Wr.bs (L ++ Wr.enc n)) rfl (eo_own H1.out) (.string bx) n (Wr.bs (Wr.strBytes (ba x))) rfl (HSR.out _) (by have := eo_len H1.out; have := HS.out; unfold maxLen; omega) (by have := eo_len H1.out; have := HS.out; omega) (eo_size H1.out) ?_); intro v2 w2 ho hg _ _; obtain ⟨z, c2, rfl, h6, _⟩ := eo_app H1.out HN.out ho hg; have H3 := hid_of h6; clear ho hg h6))
  go_ret
  exact ⟨_, _, _, rfl, by rw [txE, ← List.append_assoc, ← HN.out]; exact HST.out.start H3.out, H3.out.bel⟩
set_option maxHeartbeats 3200000 in
theorem texts_eo {wA W : World} {L : List Int} {x0 : Option Addr} {n0 c0 : Nat} {an : Option Addr} {nn cn : Nat} (ns : List Str) (h : EO wA W (.slice x0 n0 c0) L) (R : Rd W (.slice an nn cn) (ss ns)) (hsm : ∀ x ∈ ns, x.length ≤ 16) (hn : ns.length ≤ 1000) (hl : L.length + (nsE ns).length ≤ 80000000000000) :
    Calls Try.prog 34 #[.slice x0 n0 c0, .slice an nn cn] W (EP wA W (L ++ nsE ns)) := by
  obtain ⟨hnl, h1, h2, h3⟩ := rds_open R
  have HC : Hid (∀ j wr, j < nn → Below W.heap.size W wr → ∃ g o x, an = some ⟨g, o, none⟩ ∧ ns[j]? = some x ∧ wr.cell? ⟨g, o + j, none⟩ = some (.string (ba x))) := hid_of (fun j wr hj hb => by
    obtain ⟨x, hx⟩ : ∃ x, ns[j]? = some x := ⟨_, List.getElem?_eq_getElem (by omega)⟩
    obtain ⟨g, o, e, hg, hc⟩ := h3.resolve_left (fun e => by rw [e] at hx; simp at hx)
    exact ⟨g, o, x, e, hx, (hb.cell (p := ⟨g, o + j, none⟩) hg).trans (hc j x hx)⟩)
  have C0 := hid_of (fuint_eo nn h (by omega) (by omega))
  have HSM := hid_of hsm
  have HNL := hid_of hnl
  have HL := hid_of hl
  have HE : Hid (nsE ns = Wr.enc nn ++ ns.flatMap txE) := hid_of (by rw [hnl]; rfl)
  have hn6 : nn ≤ 1000 := by omega
  clear R hsm hn h hl h3 hnl
  go_enter Try.func34, Try.ntmps34
  go_wp2_with (go_at_call 32; ((with_reducible refine (C0.out).mono ?_); (rintro e w1 ⟨y0, k0, c0, rfl, q1, q2⟩)); have O1 := hid_of q1; have B1 := hid_of q2; clear q1 q2)
  go_loopw [5, 6] (fun ov iv wr => ∃ (j : Nat) (oo : Option Addr) (on oc : Nat), ov = .slice oo on oc ∧ j ≤ nn ∧ iv = .int .i64 j ∧ Hid (EO wA wr (.slice oo on oc) (L ++ Wr.enc nn ++ (ns.take j).flatMap txE)) ∧ Hid (Below W.heap.size W wr)) (fun _ iv _ => nn - (intOf iv).toNat)
  case atStart => exact ⟨0, _, _, _, rfl, Nat.zero_le _, rfl, hid_of (by rw [List.take_zero]; simpa using O1.out), B1⟩
  case round =>
    obtain ⟨j, oo, on, oc, rfl, hj, rfl, hk, hbw⟩ := hrel
    by_cases hlt : j < nn
    · have hd : decide (j < nn) = true := by simp; omega
      have b0 : (0 : Int) ≤ (j : Int) := by omega
      have b1 : (j : Int) < (nn : Int) := by omega
      obtain ⟨g, o, x, rfl, hx, c0⟩ := HC.out j wr hlt hbw.out
      obtain ⟨bx, hbx⟩ : ∃ bx, bx = ba x := ⟨_, rfl⟩
      have CT := hid_of (ftext_eo x bx hbx hk.out (by
        have h1 := HL.out
        have h2 := flat_take txE ns j
        rw [HE.out] at h1
        simp only [List.length_append] at h1 h2 ⊢
        omega) (HSM.out x (List.mem_of_getElem? hx)))
      have HNX : Hid (L ++ Wr.enc nn ++ (ns.take j).flatMap txE ++ txE x = L ++ Wr.enc nn ++ (ns.take (j + 1)).flatMap txE) := hid_of (by rw [take_snocL hx, List.flatMap_append, List.flatMap_singleton, ← List.append_assoc])
      rw [← hbx] at c0
      clear hx hbx
      go_wp2_with (go_at_call 35; ((with_reducible refine (CT.out).mono ?_); (rintro e w2 ⟨y2, k2, c2, rfl, q1, q2⟩)); have O2 := hid_of q1; have B2 := hid_of q2; clear q1 q2)
      go_roundw
      case rel => exact ⟨j + 1, _, _, _, rfl, by omega, by go_num, hid_of (by rw [← HNX.out]; exact O2.out), hid_of (hbw.out.trans (B2.out.mono hbw.out.size))⟩
      case measure => simp [intOf]; omega
    · have hd : decide (j < nn) = false := by simp; omega
      have HF : Hid (EO wA wr (.slice oo on oc) (L ++ nsE ns)) := hid_of (by
        have h1 := hk.out
        rw [List.take_of_length_le (by have := HNL.out; omega), List.append_assoc, ← HE.out] at h1
        exact h1)
      go_wp2
      go_ret
      exact ⟨_, _, _, rfl, HF.out, hbw.out⟩
end Go.Proofs.Ytdmonbcinlmljaa
