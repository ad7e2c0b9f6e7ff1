/- Expressions as they lie in memory. No condition. -/
import Derived.Test.YtdacalplnggnoaaDoorVarMath
import Derived.Test.YtdacalplnggnoaaDoorSxRow
import Derived.Test.YtdacalplnggnoaaDoorTwRow
import Derived.Test.YtdacalplnggnoaaDoorNdRow
import Derived.Deep.Slices
namespace Go.Proofs.YtdacalplnggnoaaDoor
open Go.RowKit

abbrev R64 (n : Int) : Prop := -9223372036854775808 ≤ n ∧ n ≤ 9223372036854775807
/-- The cells of an expression. -/
structure XX where
  op : Int
  sr : Int
  kd : Int
  lo : Int
  hi : Int
  vn : Value
  vp : Value
  vr : Value
  n : Int
  vt : Value
  pt : Int
  vk : Value
def XX.q (x : XX) : TwV := ⟨.int .i64 x.op, .int .i64 x.sr, .int .i64 x.kd, .int .i64 x.lo, .int .i64 x.hi, x.vn, x.vp, x.vr, .int .i64 x.n, x.vt, .int .i64 x.pt, x.vk⟩
/-- The slice v reads as np descriptions, the first with this kind and these bounds. -/
def PF (w : World) (v : Value) (np : Nat) (pk pl ph : Int) : Prop := ∃ l : List SxV, SxRd w v l ∧ l.length = np ∧ ∀ t, l[0]? = some t → ∃ a1 n1 c1 a2 n2 c2 a3 n3 c3, t = ⟨.int .i64 pk, .int .i64 pl, .int .i64 ph, .slice a1 n1 c1, .slice a2 n2 c2, .slice a3 n3 c3⟩
theorem PF.at {w w' : World} {v : Value} {np : Nat} {pk pl ph : Int} (h : PF w v np pk pl ph) (hb : Below w.heap.size w w') : PF w' v np pk pl ph := by
  obtain ⟨l, h1, h2⟩ := h
  exact ⟨l, h1.at hb, h2⟩
theorem pf_nil (w : World) : PF w (.slice none 0 0) 0 0 0 0 := ⟨[], sxrd_nil w, rfl, fun t h => by simp at h⟩
/-- The cells x are the expression t. -/
inductive ED (w : World) : XX → Ex → Prop
  | mk {x : XX} {t : Ex} (ps : List XX) (hop : x.op = t.op) (hsr : x.sr = t.sr) (hkd : x.kd = t.kd) (hn : x.n = t.n) (hpt : x.pt = t.pt) (r1 : R64 x.op) (r2 : R64 x.sr) (r3 : R64 x.kd) (r4 : R64 x.n) (r5 : R64 x.pt)
      (hpf : PF w x.vp t.np t.pk t.pl t.ph) (hp : TwRd w x.vk (ps.map XX.q)) (hl : ps.length = t.ks.length)
      (hd : ∀ (i : Nat) (y : XX) (u : Ex), ps[i]? = some y → t.ks[i]? = some u → ED w y u) : ED w x t
theorem ED.at {w w' : World} {x : XX} {t : Ex} (h : ED w x t) (hb : Below w.heap.size w w') : ED w' x t := by
  induction h with
  | mk ps hop hsr hkd hn hpt r1 r2 r3 r4 r5 hpf hp hl hd ih => exact .mk ps hop hsr hkd hn hpt r1 r2 r3 r4 r5 (hpf.at hb) (hp.at hb) hl ih
/-- The cells at ⟨g, o⟩ hold the expression t. -/
def XAt (w : World) (g o : Nat) (x : XX) (t : Ex) : Prop := ED w x t ∧ g < w.heap.size ∧
  w.cell? ⟨g, o, none⟩ = some (.int .i64 x.op) ∧ w.cell? ⟨g, o + 1, none⟩ = some (.int .i64 x.sr) ∧ w.cell? ⟨g, o + 2, none⟩ = some (.int .i64 x.kd) ∧ w.cell? ⟨g, o + 3, none⟩ = some (.int .i64 x.lo) ∧ w.cell? ⟨g, o + 4, none⟩ = some (.int .i64 x.hi) ∧ w.cell? ⟨g, o + 5, none⟩ = some x.vn ∧ w.cell? ⟨g, o + 6, none⟩ = some x.vp ∧ w.cell? ⟨g, o + 7, none⟩ = some x.vr ∧ w.cell? ⟨g, o + 8, none⟩ = some (.int .i64 x.n) ∧ w.cell? ⟨g, o + 9, none⟩ = some x.vt ∧ w.cell? ⟨g, o + 10, none⟩ = some (.int .i64 x.pt) ∧ w.cell? ⟨g, o + 11, none⟩ = some x.vk
theorem XAt.at {w w' : World} {g o : Nat} {x : XX} {t : Ex} (h : XAt w g o x t) (hb : Below w.heap.size w w') : XAt w' g o x t := by
  obtain ⟨h0, hg, c0, c1, c2, c3, c4, c5, c6, c7, c8, c9, c10, c11⟩ := h
  have hc : ∀ j, w'.cell? ⟨g, j, none⟩ = w.cell? ⟨g, j, none⟩ := fun j => hb.cell (p := ⟨g, j, none⟩) hg
  exact ⟨h0.at hb, Nat.lt_of_lt_of_le hg hb.size, (hc _).trans c0, (hc _).trans c1, (hc _).trans c2, (hc _).trans c3, (hc _).trans c4, (hc _).trans c5, (hc _).trans c6, (hc _).trans c7, (hc _).trans c8, (hc _).trans c9, (hc _).trans c10, (hc _).trans c11⟩
/-- The kids of an expression. -/
def Kd (w : World) (v : Value) (ts : List Ex) : Prop := ∃ ps : List XX, TwRd w v (ps.map XX.q) ∧ ps.length = ts.length ∧ ∀ (i : Nat) (y : XX) (u : Ex), ps[i]? = some y → ts[i]? = some u → ED w y u
theorem Kd.at {w w' : World} {v : Value} {ts : List Ex} (h : Kd w v ts) (hb : Below w.heap.size w w') : Kd w' v ts := by
  obtain ⟨ps, h1, h2, h3⟩ := h
  exact ⟨ps, h1.at hb, h2, fun i y u hy hu => (h3 i y u hy hu).at hb⟩
theorem kd_nil (w : World) : Kd w (.slice none 0 0) [] := ⟨[], twrd_nil w, rfl, fun i y u hy => by simp at hy⟩
theorem Kd.len {w : World} {a : Option Addr} {n c : Nat} {ts : List Ex} (h : Kd w (.slice a n c) ts) : n = ts.length ∧ n ≤ c ∧ c ≤ 9223372036854775807 := by
  obtain ⟨ps, h1, h2, _⟩ := h
  have := h1.cut
  rw [List.length_map] at this
  omega
theorem ED.kd {w : World} {x : XX} {t : Ex} (h : ED w x t) : ∃ a n c, x.vk = .slice a n c ∧ Kd w (.slice a n c) t.ks := by
  obtain ⟨ps, _, _, _, _, _, _, _, _, _, _, _, hp, hl, hd⟩ := h
  have hp0 := hp
  obtain ⟨a, c, e, _⟩ := hp
  rw [e] at hp0
  exact ⟨_, _, _, e, ps, hp0, hl, hd⟩
theorem ED.pf {w : World} {x : XX} {t : Ex} (h : ED w x t) : ∃ a n c, x.vp = .slice a n c ∧ n = t.np ∧ PF w (.slice a n c) t.np t.pk t.pl t.ph := by
  obtain ⟨ps, _, _, _, _, _, _, _, _, _, _, hpf, _, _, _⟩ := h
  have hp0 := hpf
  obtain ⟨l, ⟨a, c, e, _⟩, hl, _⟩ := hpf
  rw [e] at hp0
  exact ⟨_, _, _, e, hl, hp0⟩
/-- A kid in its row. -/
theorem Kd.get {w : World} {a : Option Addr} {n c : Nat} {ts : List Ex} (h : Kd w (.slice a n c) ts) {i : Nat} {t : Ex} (hi : ts[i]? = some t) : ∃ (g o : Nat) (x : XX), a = some ⟨g, o, none⟩ ∧ XAt w g (o + i * 12) x t := by
  obtain ⟨ps, h1, h2, h3⟩ := h
  have hil := (List.getElem?_eq_some_iff.1 hi).1
  obtain ⟨y, hy⟩ : ∃ y, ps[i]? = some y := ⟨_, List.getElem?_eq_getElem (by omega)⟩
  have e : (ps.map XX.q)[i]? = some y.q := by rw [List.getElem?_map, hy]; rfl
  obtain ⟨g, o, e1, r⟩ := h1.get e
  refine ⟨g, o, y, e1, h3 i y t hy hi, ?_, r⟩
  exact World.block_lt_of_cell? w _ r.1
/-- An expression in memory, its cells apart. -/
theorem XAt.open {w : World} {g o : Nat} {x : XX} {t : Ex} (h : XAt w g o x t) : ∃ (op sr kd lo hi : Int) (vn : Value) (ap : Option Addr) (np cp : Nat) (vr : Value) (n : Int) (vt : Value) (pt : Int) (ak : Option Addr) (nk ck : Nat),
    x = ⟨op, sr, kd, lo, hi, vn, .slice ap np cp, vr, n, vt, pt, .slice ak nk ck⟩ ∧ op = t.op ∧ sr = t.sr ∧ kd = t.kd ∧ np = t.np ∧ n = t.n ∧ pt = t.pt ∧ nk = t.ks.length ∧ R64 op ∧ R64 sr ∧ R64 kd ∧ R64 n ∧ R64 pt ∧ PF w (.slice ap np cp) t.np t.pk t.pl t.ph ∧ Kd w (.slice ak nk ck) t.ks ∧ g < w.heap.size ∧
    w.cell? ⟨g, o, none⟩ = some (.int .i64 op) ∧ w.cell? ⟨g, o + 1, none⟩ = some (.int .i64 sr) ∧ w.cell? ⟨g, o + 2, none⟩ = some (.int .i64 kd) ∧ w.cell? ⟨g, o + 3, none⟩ = some (.int .i64 lo) ∧ w.cell? ⟨g, o + 4, none⟩ = some (.int .i64 hi) ∧ w.cell? ⟨g, o + 5, none⟩ = some vn ∧ w.cell? ⟨g, o + 6, none⟩ = some (.slice ap np cp) ∧ w.cell? ⟨g, o + 7, none⟩ = some vr ∧ w.cell? ⟨g, o + 8, none⟩ = some (.int .i64 n) ∧ w.cell? ⟨g, o + 9, none⟩ = some vt ∧ w.cell? ⟨g, o + 10, none⟩ = some (.int .i64 pt) ∧ w.cell? ⟨g, o + 11, none⟩ = some (.slice ak nk ck) := by
  obtain ⟨hd, hg, c0, c1, c2, c3, c4, c5, c6, c7, c8, c9, c10, c11⟩ := h
  obtain ⟨ak, nk, ck, ek, HK⟩ := hd.kd
  obtain ⟨ap, np, cp, ep, hnp, HP⟩ := hd.pf
  obtain ⟨_, h1, h2, h3, h4, h5, r1, r2, r3, r4, r5, _⟩ := hd
  obtain ⟨op, sr, kd, lo, hi, vn, vp, vr, n, vt, pt, vk⟩ := x
  simp only at h1 h2 h3 h4 h5 r1 r2 r3 r4 r5 ek ep
  subst ek ep
  exact ⟨op, sr, kd, lo, hi, vn, ap, np, cp, vr, n, vt, pt, ak, nk, ck, rfl, h1, h2, h3, hnp, h4, h5, HK.len.1, r1, r2, r3, r4, r5, HP, HK, hg, c0, c1, c2, c3, c4, c5, c6, c7, c8, c9, c10, c11⟩
end Go.Proofs.YtdacalplnggnoaaDoor
