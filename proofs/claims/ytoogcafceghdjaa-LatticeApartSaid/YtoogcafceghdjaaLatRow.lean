/- Descriptions as they lie in memory: a tree of rows. Bounds on sizes alone. -/
import Derived.Test.YtoogcafceghdjaaLatMath
import Derived.Test.YtoogcafceghdjaaPrRow
import Derived.Test.YtoogcafceghdjaaSxRow
import Derived.Deep.Slices
namespace Go.Proofs.Ytoogcafceghdjaa
open Go.RowKit

abbrev R64 (n : Int) : Prop := -9223372036854775808 ≤ n ∧ n ≤ 9223372036854775807
/-- The slice v reads as rules in names. -/
def RuR (w : World) (v : Value) (rs : List Gr) : Prop := ∃ l : List PV, PRd w v l ∧ l.length = rs.length ∧ ∀ (i : Nat) (t : PV) (r : Gr), l[i]? = some t → rs[i]? = some r → Rd w t.1 (ss r.1) ∧ t.2 = .string (ba r.2)
theorem RuR.at {w w' : World} {v : Value} {rs : List Gr} (h : RuR w v rs) (hb : Below w.heap.size w w') : RuR w' v rs := by
  obtain ⟨l, h1, h2, h3⟩ := h
  exact ⟨l, h1.at hb, h2, fun i t r ht hr => ⟨(h3 i t r ht hr).1.at hb, (h3 i t r ht hr).2⟩⟩
theorem rur_nil (w : World) : RuR w (.slice none 0 0) [] := ⟨[], prd_nil w, rfl, fun i t r ht => by simp at ht⟩
/-- No string is longer than what there is. -/
def Ok (l : List Str) : Prop := ∀ y ∈ l, y.length ≤ 9223372036854775807
def OkR (rs : List Gr) : Prop := ∀ r ∈ rs, Ok r.1 ∧ r.2.length ≤ 9223372036854775807 ∧ r.1.length ≤ 8796093021952
/-- The cells of a description. -/
structure LX where
  k : Int
  lo : Int
  hi : Int
  vn : Value
  vp : Value
  vr : Value
def LX.q (x : LX) : SxV := ⟨.int .i64 x.k, .int .i64 x.lo, .int .i64 x.hi, x.vn, x.vp, x.vr⟩
def LX.val (x : LX) : Value := .agg #[.int .i64 x.k, .int .i64 x.lo, .int .i64 x.hi, x.vn, x.vp, x.vr]
/-- The cells x are the description t. -/
inductive LD (w : World) : LX → Lat → Prop
  | mk {x : LX} {t : Lat} (ps : List LX) (hk : x.k = t.k) (hlo : x.lo = t.lo) (hhi : x.hi = t.hi) (rk : R64 x.k) (rlo : R64 x.lo) (rhi : R64 x.hi)
      (hn : Rd w x.vn (ss t.ns)) (on : Ok t.ns) (hr : RuR w x.vr t.rs) (or : OkR t.rs) (hp : SxRd w x.vp (ps.map LX.q)) (hl : ps.length = t.ps.length)
      (hd : ∀ (i : Nat) (y : LX) (u : Lat), ps[i]? = some y → t.ps[i]? = some u → LD w y u) : LD w x t
theorem LD.at {w w' : World} {x : LX} {t : Lat} (h : LD w x t) (hb : Below w.heap.size w w') : LD w' x t := by
  induction h with
  | mk ps hk hlo hhi rk rlo rhi hn on hr or hp hl hd ih => exact .mk ps hk hlo hhi rk rlo rhi (hn.at hb) on (hr.at hb) or (hp.at hb) hl ih
/-- The slice v reads as the descriptions ts. -/
def LDs (w : World) (v : Value) (ts : List Lat) : Prop := ∃ ps : List LX, SxRd w v (ps.map LX.q) ∧ ps.length = ts.length ∧ ∀ (i : Nat) (y : LX) (u : Lat), ps[i]? = some y → ts[i]? = some u → LD w y u
theorem LDs.at {w w' : World} {v : Value} {ts : List Lat} (h : LDs w v ts) (hb : Below w.heap.size w w') : LDs w' v ts := by
  obtain ⟨ps, h1, h2, h3⟩ := h
  exact ⟨ps, h1.at hb, h2, fun i y u hy hu => (h3 i y u hy hu).at hb⟩
theorem lds_nil (w : World) : LDs w (.slice none 0 0) [] := ⟨[], sxrd_nil w, rfl, fun i y u hy => by simp at hy⟩
/-- A description, its fields apart. -/
structure LO (w : World) (k lo hi : Int) (an : Option Addr) (nn cn : Nat) (ap : Option Addr) (np cp : Nat) (ar : Option Addr) (nr cr : Nat) (t : Lat) : Prop where
  hk : k = t.k
  hlo : lo = t.lo
  hhi : hi = t.hi
  rk : R64 k
  rlo : R64 lo
  rhi : R64 hi
  n : Rd w (.slice an nn cn) (ss t.ns)
  on : Ok t.ns
  ln : nn = t.ns.length
  p : LDs w (.slice ap np cp) t.ps
  lp : np = t.ps.length
  r : RuR w (.slice ar nr cr) t.rs
  or : OkR t.rs
  lr : nr = t.rs.length
theorem LDs.len {w : World} {a : Option Addr} {n c : Nat} {ts : List Lat} (h : LDs w (.slice a n c) ts) : n = ts.length ∧ n ≤ c ∧ c ≤ 9223372036854775807 := by
  obtain ⟨ps, h1, h2, _⟩ := h
  have := h1.cut
  rw [List.length_map] at this
  omega
theorem RuR.len {w : World} {a : Option Addr} {n c : Nat} {rs : List Gr} (h : RuR w (.slice a n c) rs) : n = rs.length ∧ n ≤ c ∧ c ≤ 9223372036854775807 := by
  obtain ⟨l, h1, h2, _⟩ := h
  have := h1.cut
  omega
theorem LD.open {w : World} {x : LX} {t : Lat} (h : LD w x t) : ∃ k lo hi an nn cn ap np cp ar nr cr, x = ⟨k, lo, hi, .slice an nn cn, .slice ap np cp, .slice ar nr cr⟩ ∧ LO w k lo hi an nn cn ap np cp ar nr cr t := by
  obtain ⟨ps, hk, hlo, hhi, rk, rlo, rhi, hn, on, hr, or, hp, hl, hd⟩ := h
  obtain ⟨k, lo, hi, vn, vp, vr⟩ := x
  have hn0 := hn
  have hr0 := hr
  have hp0 : LDs w vp t.ps := ⟨ps, hp, hl, hd⟩
  obtain ⟨an, cn, rfl, _⟩ := hn
  obtain ⟨lr, ⟨ar, cr, rfl, _⟩, _⟩ := hr
  obtain ⟨ap, cp, rfl, _⟩ := hp
  exact ⟨_, _, _, _, _, _, _, _, _, _, _, _, rfl, hk, hlo, hhi, rk, rlo, rhi, hn0, on, (rds_open hn0).1, hp0, hp0.len.1, hr0, or, hr0.len.1⟩
theorem LO.ld {w : World} {k lo hi : Int} {an : Option Addr} {nn cn : Nat} {ap : Option Addr} {np cp : Nat} {ar : Option Addr} {nr cr : Nat} {t : Lat} (h : LO w k lo hi an nn cn ap np cp ar nr cr t) : LD w ⟨k, lo, hi, .slice an nn cn, .slice ap np cp, .slice ar nr cr⟩ t := by
  obtain ⟨ps, h1, h2, h3⟩ := h.p
  exact .mk ps h.hk h.hlo h.hhi h.rk h.rlo h.rhi h.n h.on h.r h.or h1 h2 h3
theorem LO.at {w w' : World} {k lo hi : Int} {an : Option Addr} {nn cn : Nat} {ap : Option Addr} {np cp : Nat} {ar : Option Addr} {nr cr : Nat} {t : Lat} (h : LO w k lo hi an nn cn ap np cp ar nr cr t) (hb : Below w.heap.size w w') : LO w' k lo hi an nn cn ap np cp ar nr cr t :=
  ⟨h.hk, h.hlo, h.hhi, h.rk, h.rlo, h.rhi, h.n.at hb, h.on, h.ln, h.p.at hb, h.lp, h.r.at hb, h.or, h.lr⟩
/-- A part of a row of descriptions. -/
theorem LDs.get {w : World} {a : Option Addr} {n c : Nat} {ts : List Lat} (h : LDs w (.slice a n c) ts) {i : Nat} {t : Lat} (hi : ts[i]? = some t) :
    ∃ (g o : Nat) (k lo hi : Int) (an : Option Addr) (nn cn : Nat) (ap : Option Addr) (np cp : Nat) (ar : Option Addr) (nr cr : Nat), a = some ⟨g, o, none⟩ ∧ LO w k lo hi an nn cn ap np cp ar nr cr t ∧
      ∀ w', Below w.heap.size w w' → w'.cell? ⟨g, o + i * 6, none⟩ = some (.int .i64 k) ∧ w'.cell? ⟨g, o + i * 6 + 1, none⟩ = some (.int .i64 lo) ∧ w'.cell? ⟨g, o + i * 6 + 2, none⟩ = some (.int .i64 hi) ∧ w'.cell? ⟨g, o + i * 6 + 3, none⟩ = some (.slice an nn cn) ∧ w'.cell? ⟨g, o + i * 6 + 4, none⟩ = some (.slice ap np cp) ∧ w'.cell? ⟨g, o + i * 6 + 5, none⟩ = some (.slice ar nr cr) := by
  obtain ⟨ps, h1, h2, h3⟩ := h
  have hil := (List.getElem?_eq_some_iff.1 hi).1
  obtain ⟨y, hy⟩ : ∃ y, ps[i]? = some y := ⟨_, List.getElem?_eq_getElem (by omega)⟩
  obtain ⟨k, lo, hi', an, nn, cn, ap, np, cp, ar, nr, cr, rfl, ho⟩ := (h3 i _ t hy hi).open
  have e : (ps.map LX.q)[i]? = some (LX.q ⟨k, lo, hi', .slice an nn cn, .slice ap np cp, .slice ar nr cr⟩) := by rw [List.getElem?_map, hy]; rfl
  obtain ⟨g, o, e1, _⟩ := h1.get e
  refine ⟨g, o, k, lo, hi', an, nn, cn, ap, np, cp, ar, nr, cr, e1, ho, fun w' hb => ?_⟩
  obtain ⟨g', o', e2, r⟩ := (h1.at hb).get e
  rw [e1] at e2
  simp only [Option.some.injEq, Addr.mk.injEq, and_true] at e2
  obtain ⟨rfl, rfl⟩ := e2
  exact r
end Go.Proofs.Ytoogcafceghdjaa
