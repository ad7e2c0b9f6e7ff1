/- The steps of clone's loops. Bounds on sizes alone. -/
import Derived.Test.YthgfhplhjplmcaaLatLb
namespace Go.Proofs.Ythgfhplhjplmcaa
open Go.RowKit

section
variable {w : World} {D : Nat} {k lo hi : Int} {xo : Option Addr} {nn xc : Nat} {yo : Option Addr} {np yc : Nat} {zo : Option Addr} {nr zc : Nat} {t : Lat} {ps : List SxV} {ls : List PV} {qs : List SxV} {i : Nat} {ds : List PV} {j : Nat} {wr w2 : World}
theorem drop_cons {α : Type} {l : List α} {i : Nat} {p : α} (h : l[i]? = some p) : l.drop i = p :: l.drop (i + 1) := by
  obtain ⟨h1, h2⟩ := List.getElem?_eq_some_iff.1 h
  rw [← h2]
  exact List.drop_eq_getElem_cons h1
def SameBut (g : Nat) (w w' : World) : Prop := (∀ x, x ≠ g → w'.heap[x]? = w.heap[x]?) ∧ w'.heap.size = w.heap.size ∧ (w'.os = w.os ∧ w'.tape = w.tape ∧ w'.output = w.output)
theorem SameBut.refl (g : Nat) (w : World) : SameBut g w w := ⟨fun _ _ => rfl, rfl, rfl, rfl, rfl⟩
theorem SameBut.set {g : Nat} {w w' : World} (h : SameBut g w w') (o : Nat) (v : Value) : SameBut g w (w'.setCell ⟨g, o, none⟩ v) :=
  ⟨fun x hx => (Below.heap_setCell _ _ _ _ hx).trans (h.1 x hx), by simpa using h.2.1, h.2.2.1, h.2.2.2.1, h.2.2.2.2⟩
theorem six_set (w : World) (g o : Nat) (a b c d e f : Value) (wf : World) (hwf : wf = ((((((w.setCell ⟨g, o, none⟩ a).setCell ⟨g, o + 1, none⟩ b).setCell ⟨g, o + 2, none⟩ c).setCell ⟨g, o + 3, none⟩ d).setCell ⟨g, o + 4, none⟩ e).setCell ⟨g, o + 5, none⟩ f)) : SameBut g w wf := by
  rw [hwf]
  exact ((((((SameBut.refl g w).set o a).set (o + 1) b).set (o + 2) c).set (o + 3) d).set (o + 4) e).set (o + 5) f
theorem KI.part {g : Nat} (h : KI w D k lo hi xo nn xc (some ⟨g, 0, none⟩) np yc zo nr zc t ps ls qs i [] 0 wr) {p : SxV} (hp : ps[i]? = some p) {x : LX} {u : Lat} (hu : t.ps[i]? = some u) (hx : LB D wr x u) (wf : World) (hwf : wf = ((((((wr.setCell ⟨g, i * 6, none⟩ x.q.a).setCell ⟨g, i * 6 + 1, none⟩ x.q.b).setCell ⟨g, i * 6 + 2, none⟩ x.q.c).setCell ⟨g, i * 6 + 3, none⟩ x.q.d).setCell ⟨g, i * 6 + 4, none⟩ x.q.e).setCell ⟨g, i * 6 + 5, none⟩ x.q.f)) :
    KI w D k lo hi xo nn xc (some ⟨g, 0, none⟩) np yc zo nr zc t ps ls (qs ++ [x.q]) (i + 1) [] 0 wf := by
  obtain ⟨ho, hsz, hos⟩ := six_set wr g (i * 6) x.q.a x.q.b x.q.c x.q.d x.q.e x.q.f wf hwf
  obtain ⟨hg1, hg2⟩ := own_lt h.par rfl
  obtain ⟨l1, l2, l3⟩ := h.lty g rfl
  obtain ⟨b1, b2, b3, b4, b5, b6⟩ := h.other hg1 l1 hsz ho hos
  refine ⟨b1, h.d1, b2, b3.trans h.box, b4.trans h.res, own_same h.nam fun g' hg' => ho g' (fun e => l2 (by rw [← e]; exact hg')), ?_, own_same h.rul fun g' hg' => ho g' (fun e => l3 (by rw [← e]; exact hg')), h.ltx, h.lty, h.ltz, by simp [h.ql], h.dl, fun m y v hy hv => ?_, b6⟩
  · have hpar := h.par
    rw [drop_cons hp] at hpar
    rw [hwf]
    exact own_set6 hpar h.ql
  · by_cases e : m < qs.length
    · rw [List.getElem?_append_left e] at hy
      exact b5 m y v hy hv
    · rw [List.getElem?_append_right (by omega)] at hy
      have hm : m = qs.length := by have := (List.getElem?_eq_some_iff.1 hy).1; simp at this; omega
      subst hm
      simp at hy
      subst hy
      rw [h.ql, hu] at hv
      cases hv
      have h2 := h.d2
      exact ⟨x, rfl, hx.keep (by rw [hsz]; exact Nat.le_refl _) fun b hb _ => ho b (by omega)⟩
theorem KI.rule {g : Nat} (h : KI w D k lo hi xo nn xc yo np yc (some ⟨g, 0, none⟩) nr zc t ps ls qs i ds j wr) {p : PV} (hp : ls[j]? = some p) {v : Value} {r : Gr} (hu : t.rs[j]? = some r) (hv : Rd wr v (ss r.1)) (hB : Ge D v) (h2 : p.2 = .string (ba r.2)) :
    KI w D k lo hi xo nn xc yo np yc (some ⟨g, 0, none⟩) nr zc t ps ls qs i (ds ++ [(v, p.2)]) (j + 1) (wr.setCell ⟨g, j * 2, none⟩ v) := by
  have ho : ∀ x, x ≠ g → (wr.setCell ⟨g, j * 2, none⟩ v).heap[x]? = wr.heap[x]? := fun x hx => Below.heap_setCell _ _ _ _ hx
  have hsz : (wr.setCell ⟨g, j * 2, none⟩ v).heap.size = wr.heap.size := by simp
  obtain ⟨hg1, hg2⟩ := own_lt h.rul rfl
  obtain ⟨l1, l2⟩ := h.ltz g rfl
  obtain ⟨b1, b2, b3, b4, b5, b6⟩ := h.other hg1 l1 hsz ho ⟨rfl, rfl, rfl⟩
  refine ⟨b1, h.d1, b2, b3.trans h.box, b4.trans h.res, own_same h.nam fun g' hg' => ho g' (fun e => l2 (by rw [← e]; exact hg')), own_same h.par fun g' hg' => ho g' (fun e => (h.lty g' hg').2.2 (by rw [e]; rfl)), ?_, h.ltx, h.lty, h.ltz, h.ql, by simp [h.dl], b5, fun m d q hd hq => ?_⟩
  · have hrul := h.rul
    rw [drop_cons hp] at hrul
    exact own_set2 hrul h.dl
  · by_cases e : m < ds.length
    · rw [List.getElem?_append_left e] at hd
      exact b6 m d q hd hq
    · rw [List.getElem?_append_right (by omega)] at hd
      have hm : m = ds.length := by have := (List.getElem?_eq_some_iff.1 hd).1; simp at this; omega
      subst hm
      simp at hd
      subst hd
      rw [h.dl, hu] at hq
      cases hq
      have hd2 := h.d2
      exact ⟨hv.keep hB (by rw [hsz]; exact Nat.le_refl _) fun b hb _ => ho b (by omega), hB, h2⟩
theorem sxds_of_own {B : Nat} {E : TypeId} {l : List SxV} (h : wr.ownsRow B E 6 (.slice yo np yc) np (sxds l)) (hl : l.length = np) : SxRd wr (.slice yo np yc) l := sx_rd_of_own (B := B) (E := E) (by rw [hl]; exact h)
theorem prd_of_own {B : Nat} {E : TypeId} {l : List PV} (h : wr.ownsRow B E 2 (.slice zo nr zc) nr (prs l)) (hl : l.length = nr) : PRd wr (.slice zo nr zc) l := by
  subst hl
  refine ⟨zo, zc, rfl, (own_lens h).1, (own_lens h).2, fun h0 => ?_⟩
  obtain ⟨g, rfl, _, hg, hc⟩ := own_at h h0
  refine ⟨g, 0, rfl, hg, fun i t ht => ?_⟩
  obtain ⟨g0, g1⟩ := prs_get l i t ht
  rw [Nat.zero_add]
  exact ⟨(hc _ _ g0).1, (hc _ _ g1).1⟩
theorem rd_of_own {B : Nat} {E : TypeId} {l : List Value} (h : wr.ownsRow B E 1 (.slice xo nn xc) nn l) (hl : l.length = nn) : Rd wr (.slice xo nn xc) l := by
  subst hl
  refine ⟨xo, xc, rfl, (own_lens h).1, (own_lens h).2, fun h0 => ?_⟩
  obtain ⟨g, rfl, _, hg, hc⟩ := own_at h h0
  refine ⟨g, 0, rfl, hg, fun i t ht => ?_⟩
  rw [Nat.zero_add]
  exact (hc _ _ ht).1
def ClP (k lo hi : Int) (nn np nr : Nat) (t : Lat) (w : World) (e : Ending) (w' : World) : Prop := ∃ (xo : Option Addr) (xc : Nat) (yo : Option Addr) (yc : Nat) (zo : Option Addr) (zc : Nat), e = .returned (.agg #[.int .i64 k, .int .i64 lo, .int .i64 hi, .slice xo nn xc, .slice yo np yc, .slice zo nr zc]) ∧ LB w.heap.size w' ⟨k, lo, hi, .slice xo nn xc, .slice yo np yc, .slice zo nr zc⟩ t ∧ Below w.heap.size w w'
set_option maxHeartbeats 1600000 in
/-- All stands: the result box is filled. -/
theorem KI.done (h : KI w D k lo hi xo nn xc yo np yc zo nr zc t ps ls qs np ds nr wr) (hps : ps.length = np) (hls : ls.length = nr) (hnp : np = t.ps.length) (hnn : nn = t.ns.length) (hnr : nr = t.rs.length) (hk : k = t.k) (hlo : lo = t.lo) (hhi : hi = t.hi) (rk : R64 k) (rlo : R64 lo) (rhi : R64 hi) (on : Ok t.ns) (or : OkR t.rs) (wf : World) (hwf : wf = ((((((wr.setCell ⟨w.heap.size + 1, 0, none⟩ (.int .i64 k)).setCell ⟨w.heap.size + 1, 1, none⟩ (.int .i64 lo)).setCell ⟨w.heap.size + 1, 2, none⟩ (.int .i64 hi)).setCell ⟨w.heap.size + 1, 3, none⟩ (.slice xo nn xc)).setCell ⟨w.heap.size + 1, 4, none⟩ (.slice yo np yc)).setCell ⟨w.heap.size + 1, 5, none⟩ (.slice zo nr zc))) :
    wf.heap[w.heap.size + 1]? = some (.cells #[.int .i64 k, .int .i64 lo, .int .i64 hi, .slice xo nn xc, .slice yo np yc, .slice zo nr zc] 26 (0, 0)) ∧ LB w.heap.size wf ⟨k, lo, hi, .slice xo nn xc, .slice yo np yc, .slice zo nr zc⟩ t ∧ Below w.heap.size w wf := by
  obtain ⟨ho, hsz, hos⟩ := six_set wr (w.heap.size + 1) 0 (.int .i64 k) (.int .i64 lo) (.int .i64 hi) (.slice xo nn xc) (.slice yo np yc) (.slice zo nr zc) wf (by rw [hwf, Nat.zero_add, Nat.zero_add, Nat.zero_add, Nat.zero_add, Nat.zero_add])
  have e1 : wr.heap[w.heap.size + 1]? = some (.cells [.int .i64 0, .int .i64 0, .int .i64 0, .slice none 0 0, .slice none 0 0, .slice none 0 0].toArray 26 (0, 0)) := h.res
  have e2 := blk_setCell (k := 5) (u := .slice zo nr zc) (blk_setCell (k := 4) (u := .slice yo np yc) (blk_setCell (k := 3) (u := .slice xo nn xc) (blk_setCell (k := 2) (u := .int .i64 hi) (blk_setCell (k := 1) (u := .int .i64 lo) (blk_setCell (k := 0) (u := .int .i64 k) e1)))))
  have hd1 := h.d1
  have hB : Below w.heap.size w wf := ⟨hos.1.trans h.bel.os, hos.2.1.trans h.bel.tape, hos.2.2.trans h.bel.output, by rw [hsz]; exact h.bel.size, fun b hb => (ho b (by omega)).trans (h.bel.block b hb)⟩
  have hkeep : ∀ b, D ≤ b → b < wr.heap.size → wf.heap[b]? = wr.heap[b]? := fun b hb _ => ho b (by omega)
  have hnam := own_same (w' := wf) h.nam fun g hg => ho g (by have := own_lt h.nam hg; omega)
  have hpar := own_same (w' := wf) h.par fun g hg => ho g (by have := own_lt h.par hg; omega)
  have hrul := own_same (w' := wf) h.rul fun g hg => ho g (by have := own_lt h.rul hg; omega)
  rw [List.drop_of_length_le (by omega), List.append_nil] at hpar hrul
  refine ⟨by rw [hwf]; exact e2, ?_, hB⟩
  have hkid : ∀ (m : Nat) (y : SxV) (u : Lat), qs[m]? = some y → t.ps[m]? = some u → ∃ x : LX, y = x.q ∧ LB D wf x u := fun m y u hy hu => by
    obtain ⟨x, e, hx⟩ := h.kids m y u hy hu
    exact ⟨x, e, hx.keep (by rw [hsz]; exact Nat.le_refl _) hkeep⟩
  have hex : ∃ xs : List LX, qs = xs.map LX.q ∧ ∀ (m : Nat) (x : LX) (u : Lat), xs[m]? = some x → t.ps[m]? = some u → LB D wf x u := by
    have : ∀ (l : List SxV) (us : List Lat), l.length = us.length → (∀ (m : Nat) (y : SxV) (u : Lat), l[m]? = some y → us[m]? = some u → ∃ x : LX, y = x.q ∧ LB D wf x u) → ∃ xs : List LX, l = xs.map LX.q ∧ ∀ (m : Nat) (x : LX) (u : Lat), xs[m]? = some x → us[m]? = some u → LB D wf x u := by
      intro l
      induction l with
      | nil => intro us _ _; exact ⟨[], rfl, fun m x u hx => by simp at hx⟩
      | cons y l ih =>
        intro us hl hh
        cases us with
        | nil => simp at hl
        | cons u us =>
          obtain ⟨x, e, hx⟩ := hh 0 y u rfl rfl
          obtain ⟨xs, e2, hxs⟩ := ih us (by simpa using hl) (fun m y' u' h1 h2 => hh (m + 1) y' u' h1 h2)
          refine ⟨x :: xs, by rw [e, e2]; rfl, fun m x' u' h1 h2 => ?_⟩
          cases m with
          | zero => simp at h1 h2; subst h1 h2; exact hx
          | succ m => exact hxs m x' u' h1 h2
    exact this qs t.ps (by rw [h.ql]; exact hnp) hkid
  obtain ⟨xs, e3, hxs⟩ := hex
  have hxl : xs.length = t.ps.length := by have := h.ql; rw [e3, List.length_map] at this; omega
  refine .mk xs hk hlo hhi rk rlo rhi (rd_of_own hnam (by rw [ss_length]; omega)) ((own_ge hnam).mono (by omega)) on ⟨ds, prd_of_own hrul (by rw [h.dl]), (own_ge hrul).mono (by omega), by rw [h.dl]; exact hnr, fun m d r hd hr => ?_⟩ or ?_ ((own_ge hpar).mono (by omega)) hxl fun m x u h1 h2 => (hxs m x u h1 h2).mono (by omega)
  · obtain ⟨a, b, c⟩ := h.ruls m d r hd hr
    exact ⟨a.keep b (by rw [hsz]; exact Nat.le_refl _) hkeep, b.mono (by omega), c⟩
  · rw [e3] at hpar
    exact sxds_of_own hpar (by rw [List.length_map]; omega)
end
end Go.Proofs.Ythgfhplhjplmcaa
