/- Nodes in memory; the variance of a node by those of its kids. No condition. -/
import Derived.Test.YtdacalplnggnoaaDoorVarSig
namespace Go.Proofs.YtdacalplnggnoaaDoor
open Go.RowKit

/-- A row of nodes in a block at or above B stays where the blocks from B on do. -/
theorem NdRd.keep {B : Nat} {w w' : World} {v : Value} {l : List NdV} (h : NdRd w v l) (hB : ∀ (a : Addr) (n c : Nat), v = .slice (some a) n c → B ≤ a.block) (hs : w.heap.size ≤ w'.heap.size) (hk : ∀ k, B ≤ k → k < w.heap.size → w'.heap[k]? = w.heap[k]?) : NdRd w' v l := by
  obtain ⟨ao, cap, e, h2, h3, h4⟩ := h
  refine ⟨ao, cap, e, h2, h3, fun h0 => ?_⟩
  obtain ⟨g, o, rfl, hg, hc⟩ := h4 h0
  have hb := hk g (hB _ _ _ e) hg
  refine ⟨g, o, rfl, by omega, fun i t ht => ?_⟩
  obtain ⟨c0, c1, c2⟩ := hc i t ht
  exact ⟨(World.cell?_of_block (w := w) hb).trans c0, (World.cell?_of_block (w := w) hb).trans c1, (World.cell?_of_block (w := w) hb).trans c2⟩
/-- The cells v are the node of the expression t, which lies in the world w0; the rows of nodes lie at or above B. -/
inductive ND (w0 : World) (B : Nat) (w : World) : NdV → Ex → Prop
  | mk {v : NdV} {t : Ex} (g o : Nat) (x : XX) (hx : XAt w0 g o x t) (ps : List NdV) (ha : v.a = .pointer (some ⟨g, o, none⟩)) (hc : v.c = .int .i64 (vary t)) (hp : NdRd w v.b ps) (hB : ∀ (a : Addr) (n c : Nat), v.b = .slice (some a) n c → B ≤ a.block) (hl : ps.length = t.ks.length)
      (hd : ∀ (i : Nat) (y : NdV) (u : Ex), ps[i]? = some y → t.ks[i]? = some u → ND w0 B w y u) : ND w0 B w v t
theorem ND.keep {w0 : World} {B : Nat} {w w' : World} {v : NdV} {t : Ex} (h : ND w0 B w v t) (hs : w.heap.size ≤ w'.heap.size) (hk : ∀ k, B ≤ k → k < w.heap.size → w'.heap[k]? = w.heap[k]?) : ND w0 B w' v t := by
  induction h with
  | mk g o x hx ps ha hc hp hB hl hd ih => exact .mk g o x hx ps ha hc (hp.keep hB hs hk) hB hl ih
theorem ND.mono {w0 : World} {B B' : Nat} {w : World} {v : NdV} {t : Ex} (h : ND w0 B w v t) (hs : B' ≤ B) : ND w0 B' w v t := by
  induction h with
  | mk g o x hx ps ha hc hp hB hl hd ih => exact .mk g o x hx ps ha hc hp (fun a n c e => Nat.le_trans hs (hB a n c e)) hl ih
/-- The slice v reads as the nodes of ts. -/
def NDs (w0 : World) (B : Nat) (w : World) (v : Value) (ts : List Ex) : Prop := ∃ ps : List NdV, NdRd w v ps ∧ (∀ (a : Addr) (n c : Nat), v = .slice (some a) n c → B ≤ a.block) ∧ ps.length = ts.length ∧ ∀ (i : Nat) (y : NdV) (u : Ex), ps[i]? = some y → ts[i]? = some u → ND w0 B w y u
theorem NDs.keep {w0 : World} {B : Nat} {w w' : World} {v : Value} {ts : List Ex} (h : NDs w0 B w v ts) (hs : w.heap.size ≤ w'.heap.size) (hk : ∀ k, B ≤ k → k < w.heap.size → w'.heap[k]? = w.heap[k]?) : NDs w0 B w' v ts := by
  obtain ⟨ps, h1, hB, h2, h3⟩ := h
  exact ⟨ps, h1.keep hB hs hk, hB, h2, fun i y u hy hu => (h3 i y u hy hu).keep hs hk⟩
theorem NDs.mono {w0 : World} {B B' : Nat} {w : World} {v : Value} {ts : List Ex} (h : NDs w0 B w v ts) (hs : B' ≤ B) : NDs w0 B' w v ts := by
  obtain ⟨ps, h1, hB, h2, h3⟩ := h
  exact ⟨ps, h1, (fun a n c e => Nat.le_trans hs (hB a n c e)), h2, fun i y u hy hu => (h3 i y u hy hu).mono hs⟩
theorem NDs.at {w0 : World} {B : Nat} {w w' : World} {v : Value} {ts : List Ex} (h : NDs w0 B w v ts) (hb : Below w.heap.size w w') : NDs w0 B w' v ts := h.keep hb.size fun k _ hk => hb.block k hk
theorem NDs.len {w0 : World} {B : Nat} {w : World} {a : Option Addr} {n c : Nat} {ts : List Ex} (h : NDs w0 B w (.slice a n c) ts) : n = ts.length ∧ n ≤ c ∧ c ≤ 9223372036854775807 := by
  obtain ⟨ps, h1, _, h2, _⟩ := h
  have := h1.cut
  omega
theorem ND.open {w0 : World} {B : Nat} {w : World} {v : NdV} {t : Ex} (h : ND w0 B w v t) : ∃ g o x a n c, v = ⟨.pointer (some ⟨g, o, none⟩), .slice a n c, .int .i64 (vary t)⟩ ∧ XAt w0 g o x t ∧ NDs w0 B w (.slice a n c) t.ks := by
  obtain ⟨g, o, x, hx, ps, ha, hc, hp, hB, hl, hd⟩ := h
  have hp0 : NDs w0 B w v.b t.ks := ⟨ps, hp, hB, hl, hd⟩
  obtain ⟨va, vb, vc⟩ := v
  obtain ⟨a, c, e, _⟩ := hp
  simp only at ha hc e hp0
  subst ha hc e
  exact ⟨g, o, x, _, _, _, rfl, hx, hp0⟩
/-- A node in its row. -/
theorem NDs.get {w0 : World} {B : Nat} {w : World} {a : Option Addr} {n c : Nat} {ts : List Ex} (h : NDs w0 B w (.slice a n c) ts) {i : Nat} {t : Ex} (hi : ts[i]? = some t) :
    ∃ (g o : Nat) (gx ox : Nat) (x : XX) (ap : Option Addr) (np cp : Nat), a = some ⟨g, o, none⟩ ∧ g < w.heap.size ∧ XAt w0 gx ox x t ∧ NDs w0 B w (.slice ap np cp) t.ks ∧ w.cell? ⟨g, o + i * 3, none⟩ = some (.pointer (some ⟨gx, ox, none⟩)) ∧ w.cell? ⟨g, o + i * 3 + 1, none⟩ = some (.slice ap np cp) ∧ w.cell? ⟨g, o + i * 3 + 2, none⟩ = some (.int .i64 (vary t)) := by
  obtain ⟨ps, h1, _, h2, h3⟩ := h
  have hil := (List.getElem?_eq_some_iff.1 hi).1
  obtain ⟨y, hy⟩ : ∃ y, ps[i]? = some y := ⟨_, List.getElem?_eq_getElem (by omega)⟩
  obtain ⟨gx, ox, x, ap, np, cp, rfl, hx, hn⟩ := (h3 i y t hy hi).open
  obtain ⟨g, o, e1, c0, c1, c2⟩ := h1.get hy
  exact ⟨g, o, gx, ox, x, ap, np, cp, e1, World.block_lt_of_cell? w _ c0, hx, hn, c0, c1, c2⟩
theorem cs3 {w : World} {b : Nat} {E : TypeId} {m : Nat × Nat} {v0 v1 v2 : Value} (h : w.heap[b]? = some (.cells #[v0, v1, v2] E m)) : w.cell? ⟨b, 0, none⟩ = some v0 ∧ w.cell? ⟨b, 1, none⟩ = some v1 ∧ w.cell? ⟨b, 2, none⟩ = some v2 := by
  have q : ∀ j u, #[v0, v1, v2].toList[j]? = some u → w.cell? ⟨b, j, none⟩ = some u := fun j u hu => by
    have := World.news_of_block h j u hu
    rw [Addr.add_mid, Nat.zero_add] at this
    exact this
  exact ⟨q _ _ rfl, q _ _ rfl, q _ _ rfl⟩

set_option maxRecDepth 100000 in
set_option maxHeartbeats 3200000 in
theorem vary_any (b q g o : Nat) (x : XX) (t : Ex) (ap : Option Addr) (np cp : Nat) (w0 : World) (B : Nat) (w : World) (HG : Gl w) (hb : w.cell? ⟨b, q, none⟩ = some (.pointer (some ⟨g, o, none⟩))) (hb1 : w.cell? ⟨b, q + 1, none⟩ = some (.slice ap np cp)) (H : XAt w g o x t) (HN : NDs w0 B w (.slice ap np cp) t.ks) :
    Calls Tryd.prog 21 #[.pointer (some ⟨b, q, none⟩)] w (IntP .i64 (vary t) w) := by
  have FM := hid_of (fun (wz : World) (hz : Below w.heap.size w wz) => form_any g o x t wz (HG.at hz) (H.at hz))
  have hbl := World.block_lt_of_cell? w _ hb
  have SG := hid_of (fun (hF : formB t = true) (i : Nat) (hi : i < t.ks.length) (wz : World) (hz : Below w.heap.size w wz) => sign_any b q g o x t i wz (HG.at hz) ((hz.cell (p := ⟨b, q, none⟩) hbl).trans hb) (H.at hz) hF hi)
  obtain ⟨r, hr⟩ : ∃ r, r = vary t := ⟨_, rfl⟩
  rw [← hr]
  rw [vary_eq, vfrom] at hr
  obtain ⟨op, sr, kd, lo, hi', vn, pa, pn, pc, vr, n, vt, pt, ak, nk, ck, rfl, hop, -, -, -, -, -, hnk, ro, -, -, -, -, -, -, -, c0, -, -, -, -, -, -, -, -, -, -, c11⟩ := H.open
  rw [← hop] at hr
  obtain ⟨hn1, hn2, hn3⟩ := HN.len
  have hn9 : np ≤ 9223372036854775807 := by omega
  have HNP := hid_of hn1
  have HND := hid_of HN
  clear hn1 hn2 hn3 HN hop hnk ro H HG hbl
  obtain ⟨fb, hfb⟩ : ∃ fb, fb = formB t := ⟨_, rfl⟩
  rw [← hfb] at FM hr SG
  cases fb
  case false =>
    rw [if_neg (by decide)] at hr
    subst hr
    clear hfb
    go_enter Tryd.func21, Tryd.ntmps21
    go_wp2_with (go_at_call 22; ((with_reducible refine (FM.out _ (Below.refl _ _)).mono ?_); (rintro e w2 ⟨rfl, h2⟩)); (have H2 := hid_of h2); clear h2)
    go_ret
    exact ⟨rfl, H2.out⟩
  rw [if_pos rfl] at hr
  by_cases h5 : op = 5
  · rw [if_pos h5] at hr
    have hc0 : Hid (∀ w2, Below w.heap.size w w2 → w2.cell? ⟨b, q, none⟩ = some (.pointer (some ⟨g, o, none⟩)) ∧ w2.cell? ⟨g, o, none⟩ = some (.int .i64 op)) := hid_of (fun w2 h2 => ⟨(h2.cell (p := ⟨b, q, none⟩) (World.block_lt_of_cell? w _ hb)).trans hb, (h2.cell (p := ⟨g, o, none⟩) (World.block_lt_of_cell? w _ c0)).trans c0⟩)
    subst h5 hr
    clear hfb
    go_enter Tryd.func21, Tryd.ntmps21
    go_wp2_with (go_at_call 22; ((with_reducible refine (FM.out _ (Below.refl _ _)).mono ?_); (rintro e w2 ⟨rfl, h2⟩)); (obtain ⟨k0, k1⟩ := hc0.out _ h2); (have H2 := hid_of h2); clear h2)
    go_ret
    exact ⟨rfl, H2.out⟩
  rw [if_neg h5] at hr
  have e5 := ne_f h5
  have hc0 : Hid (∀ w2, Below w.heap.size w w2 → w2.cell? ⟨b, q, none⟩ = some (.pointer (some ⟨g, o, none⟩)) ∧ w2.cell? ⟨b, q + 1, none⟩ = some (.slice ap np cp) ∧ w2.cell? ⟨g, o, none⟩ = some (.int .i64 op)) := hid_of (fun w2 h2 => ⟨(h2.cell (p := ⟨b, q, none⟩) (World.block_lt_of_cell? w _ hb)).trans hb, (h2.cell (p := ⟨b, q + 1, none⟩) (World.block_lt_of_cell? w _ hb1)).trans hb1, (h2.cell (p := ⟨g, o, none⟩) (World.block_lt_of_cell? w _ c0)).trans c0⟩)
  obtain ⟨vs, hvs⟩ : ∃ vs, vs = t.ks.map vary := ⟨_, rfl⟩
  rw [← hvs] at hr
  have HVL : Hid (vs.length = np) := hid_of (by rw [hvs, List.length_map]; exact HNP.out.symm)
  have HVG : Hid (∀ i u, t.ks[i]? = some u → vs.getD i 3 = vary u) := hid_of (fun i u hu => by rw [hvs]; exact getD_some (by rw [List.getElem?_map, hu]; rfl))
  have HR := hid_of hr
  have SGN := hid_of (SG.out rfl)
  clear hr hvs h5 SG hfb
  go_enter Tryd.func21, Tryd.ntmps21
  go_wp2_with (go_at_call 22; ((with_reducible refine (FM.out _ (Below.refl _ _)).mono ?_); (rintro e w2 ⟨rfl, h2⟩)); (obtain ⟨k0, k1, k2⟩ := hc0.out _ h2); (have H2 := hid_of h2); clear h2)
  go_loopw [3, 27] (fun mv iv wr => ∃ (i : Nat) (m : Int), iv = .int .i64 i ∧ i ≤ np ∧ mv = .int .i64 m ∧ Hid (m = accV t vs i) ∧ Hid (Below w.heap.size w wr)) (fun _ iv _ => np - (intOf iv).toNat)
  case atStart => exact ⟨0, 0, rfl, Nat.zero_le _, rfl, hid_of rfl, H2⟩
  case round =>
    obtain ⟨i, m, rfl, hi, rfl, HM, hb⟩ := hrel
    by_cases hlt : i < np
    · have d1 : decide (i < np) = true := decide_eq_true hlt
      have hlt' : (i : Int) < (np : Int) := by omega
      have HLT := hid_of hlt
      obtain ⟨u, hu⟩ : ∃ u, t.ks[i]? = some u := ⟨_, List.getElem?_eq_getElem (by have := HNP.out; omega)⟩
      obtain ⟨gr, qr, gx, ox, xx, pa2, pn2, pc2, rfl, hgr, HX, HS2, n0, n1, n2⟩ := (HND.out.at hb.out).get hu
      obtain ⟨vv, hvv⟩ : ∃ vv, vv = vary u := ⟨_, rfl⟩
      rw [← hvv] at n2
      have HA : Hid (accV t vs (i + 1) = both m (turnF (sgn t i) vv)) := hid_of (by rw [accV, HM.out, HVG.out i u hu, hvv])
      have hi2 : i < t.ks.length := (List.getElem?_eq_some_iff.1 hu).1
      have SI := hid_of (SGN.out i hi2)
      obtain ⟨ss, hss⟩ : ∃ ss, ss = sgn t i := ⟨_, rfl⟩
      rw [← hss] at SI HA
      clear HX HS2 hu hvv hlt hi2 hss
      go_wp2
      go_region_held3 (fun wz => wz.cell? ⟨wr.heap.size, 2, none⟩ = some (.int .i64 vv)) (first | exact cs9 | go_keep) (first
        | (go_at_call 25; ((with_reducible refine (SI.out _ (by first | exact redrew (hb.out.alloc hb.out.size _) | exact (hb.out.alloc hb.out.size _))).mono ?_); (rintro e w3 ⟨rfl, h3⟩); (have H3 := hid_of (undrew h3)); (have cs9 := (cs3 (row_at (undrew h3))).2.2); clear h3))
        | (go_at_call 24; ((with_reducible refine (turn_any _ _ _).mono ?_); (rintro e w4 ⟨rfl, rfl⟩)))
        | (go_at_call 10; ((with_reducible refine (both_any _ _ _).mono ?_); (rintro e w5 ⟨rfl, rfl⟩))))
      go_wp2
      go_roundw
      case rel => exact ⟨i + 1, _, by go_num, HLT.out, rfl, hid_of HA.out.symm, hid_of ((hb.out.alloc hb.out.size _).trans (H3.out.mono (by simp; exact Nat.le_succ_of_le hb.out.size)))⟩
      case measure => have := HLT.out; simp [intOf]; omega
    · have d1 : decide (i < np) = false := decide_eq_false hlt
      have HI : Hid (i = np) := hid_of (by omega)
      go_wp2
      go_ret
      refine ⟨?_, hb.out⟩
      rw [HR.out, HVL.out, ← HI.out, ← HM.out]
      rfl
end Go.Proofs.YtdacalplnggnoaaDoor
