/- Texts in one: LatCs, LatCt, LatFda, LatDmx, LatAwk, LatPrm, LatOpn, LatLwF. -/
import Derived.Test.YtdmonbcinlmljaaMgFC
import Derived.SliceStrings
import Derived.Deep.Strs
import Derived.ProofKit
import Derived.SizedLaws
import Derived.Test.YtdmonbcinlmljaaRows
set_option linter.unusedVariables false
set_option linter.unusedSimpArgs false
/- Copies of rows of descriptions. Bounds on sizes alone. -/
namespace Go.Proofs.Ytdmonbcinlmljaa
open Go.RowKit
set_option maxRecDepth 100000
set_option maxHeartbeats 6400000
/-- What a copy of a description gives. -/
def CloF (F : Nat) (t : Lat) : Prop := ∀ (k lo hi : Int) (an : Option Addr) (nn cn : Nat) (ap : Option Addr) (np cp : Nat) (ar : Option Addr) (nr cr : Nat) (w : World), LO w k lo hi an nn cn ap np cp ar nr cr t → Okay t → Calls Try.prog F #[.agg #[.int .i64 k, .int .i64 lo, .int .i64 hi, .slice an nn cn, .slice ap np cp, .slice ar nr cr]] w (ClP k lo hi nn np nr t w)
theorem KL.slot {w W : World} {n j : Nat} {us : List Lat} {qs : List SxV} (h : KL w n us qs W) (hi : qs.length = j) (hlt : j < n) :
    (W.cell? ⟨w.heap.size, j * 6, none⟩ = some (.int .i64 0) ∧ W.frozen? ⟨w.heap.size, j * 6, none⟩ = false) ∧ (W.cell? ⟨w.heap.size, j * 6 + 1, none⟩ = some (.int .i64 0) ∧ W.frozen? ⟨w.heap.size, j * 6 + 1, none⟩ = false) ∧ (W.cell? ⟨w.heap.size, j * 6 + 2, none⟩ = some (.int .i64 0) ∧ W.frozen? ⟨w.heap.size, j * 6 + 2, none⟩ = false) ∧
    (W.cell? ⟨w.heap.size, j * 6 + 3, none⟩ = some (.slice none 0 0) ∧ W.frozen? ⟨w.heap.size, j * 6 + 3, none⟩ = false) ∧ (W.cell? ⟨w.heap.size, j * 6 + 4, none⟩ = some (.slice none 0 0) ∧ W.frozen? ⟨w.heap.size, j * 6 + 4, none⟩ = false) ∧ W.cell? ⟨w.heap.size, j * 6 + 5, none⟩ = some (.slice none 0 0) ∧ W.frozen? ⟨w.heap.size, j * 6 + 5, none⟩ = false := by
  obtain ⟨g, e, _, _, hc⟩ := own_at h.row (by omega)
  cases e
  have hp : (qs ++ List.replicate (n - qs.length) zSx)[j]? = some zSx := by
    rw [List.getElem?_append_right (by omega), hi, Nat.sub_self, rep_succ zSx hlt]
    rfl
  obtain ⟨g0, g1, g2, g3, g4, g5⟩ := sxds_get _ j zSx hp
  exact ⟨hc _ _ g0, hc _ _ g1, hc _ _ g2, hc _ _ g3, hc _ _ g4, hc _ _ g5⟩
theorem eachL_any (F : Nat) (eg : ∀ args w, (callFunc F args).run Try.prog w = .ok (.enter F args) w) (us : List Lat) (hF : ∀ p ∈ us, CloF F p) (hok : ∀ p ∈ us, Okay p)
    (yo : Option Addr) (n cap : Nat) (w : World) (R : LDs w (.slice yo n cap) us) (hb : n ≤ 1000000) :
    Calls Try.prog 45 #[.slice yo n cap, .func (.func F) #[] #[]] w fun e w' => ∃ xo xc qs, e = .returned (.slice xo n xc) ∧ w'.ownsRow w.heap.size 26 6 (.slice xo n xc) n (sxds qs) ∧ qs.length = n ∧ (∀ (m : Nat) (y : SxV) (u : Lat), qs[m]? = some y → us[m]? = some u → ∃ x : LX, y = x.q ∧ LB w.heap.size w' x u) ∧ Below w.heap.size w w' := by
  obtain ⟨hn, hc1, hc2⟩ := R.len
  by_cases h0 : n = 0
  · subst h0
    have HR := hid_of R
    clear R hn hF
    go_enter Try.func45, Try.ntmps45
    go_wp2
    go_ret
    exact ⟨none, 0, [], rfl, World.ownsRow_nil _ _ _ _, rfl, fun m d r hd => by simp at hd, Below.refl _ _⟩
  have e0 : ((n : Int) == 0) = false := beq_eq_false_iff_ne.2 (by omega)
  obtain ⟨i0, hi, hz0, hz1, hz2⟩ := info_parts latE6.info
  have HN := hid_of hn
  have HP := hid_of R
  have HF := hid_of hF
  have HOK := hid_of hok
  have hb9 : n ≤ 9223372036854775807 := by omega
  clear R hn hF hok
  go_enter Try.func45, Try.ntmps45
  go_wp2_with (at_make; (refine wpList_make_full _ rfl _ _ 23 rfl w.heap.size 26 i0 (.agg #[.int .i64 0, .int .i64 0, .int .i64 0, .slice none 0 0, .slice none 0 0, .slice none 0 0]) 6 latE6.und hi hz0 hz1 .i64 .i64 n n n rfl rfl rfl rfl (by rw [hz2]; omega) (by unfold maxLen; omega) (Nat.le_refl _) ?_); intro w2 hown hgrow; have K2 := hid_of (show KL w n us [] w2 from ⟨(Below.refl _ _).grown hgrow (Nat.le_refl _) (fun k h => by cases h), by rw [List.nil_append, List.length_nil, Nat.sub_zero]; rw [← made_six]; exact hown, Nat.zero_le _, fun m d r hd => by simp at hd⟩); clear hown hgrow)
  go_loopw [16] (fun iv wr => ∃ (j : Nat) (qs : List SxV), iv = .int .i64 j ∧ j ≤ n ∧ Hid (qs.length = j) ∧ Hid (KL w n us qs wr)) (fun iv _ => n - (intOf iv).toNat)
  case atStart => exact ⟨0, [], rfl, Nat.zero_le _, hid_of rfl, K2⟩
  case round =>
    obtain ⟨j, qs, rfl, hj, hl, hk⟩ := hrel
    by_cases hlt : j < n
    · have d1 : decide (j < n) = true := decide_eq_true hlt
      have hlt' : (j : Int) < (n : Int) := by omega
      have HLT := hid_of hlt
      obtain ⟨u, hu⟩ : ∃ u, us[j]? = some u := ⟨_, List.getElem?_eq_getElem (by have := HN.out; omega)⟩
      obtain ⟨g, o, kA, loA, hiA, anA, nnA, cnA, apA, npA, cpA, arA, nrA, crA, rfl, LU, hc⟩ := HP.out.get hu
      obtain ⟨c0, c1, c2, c3, c4, c5⟩ := hc wr hk.out.bel
      have CALL := hid_of (fun W hR => HF.out u (List.mem_of_getElem? hu) kA loA hiA anA nnA cnA apA npA cpA arA nrA crA W hR (HOK.out u (List.mem_of_getElem? hu)))
      have HU := hid_of hu
      have B1 := hid_of (bel_alloc wr (.cells #[.int .i64 kA, .int .i64 loA, .int .i64 hiA, .slice anA nnA cnA, .slice apA npA cpA, .slice arA nrA crA] 26))
      have LV := hid_of ((LU.at hk.out.bel).at B1.out)
      clear hlt hc hu LU
      go_wp2_with (go_at_fn F; go_loud (refine (CALL.out _ LV.out).mono ?_; rintro e w3 ⟨xo, xc, y0, yc, zo, zc, rfl, h1, h3⟩; have H1 := hid_of h1; have K3 := hid_of ((hk.out.call B1.out).call h3); obtain ⟨⟨s0, t0⟩, ⟨s1, t1⟩, ⟨s2, t2⟩, ⟨s3, t3⟩, ⟨s4, t4⟩, s5, t5⟩ := K3.out.slot hl.out HLT.out; clear h1 h3))
      go_roundw
      case rel => exact ⟨j + 1, _, by go_num, HLT.out, hid_of (by rw [List.length_append, hl.out]; rfl), hid_of (K3.out.step hl.out HLT.out HU.out (H1.out.mono (by have := hk.out.lt; simp; omega)) _ rfl)⟩
      case measure => have := HLT.out; simp [intOf]; omega
    · obtain rfl : n = j := by omega
      have d1 : decide (n < n) = false := by simp
      go_wp2
      go_ret
      have hr := hk.out.row
      rw [hl.out, Nat.sub_self, List.replicate_zero, List.append_nil] at hr
      exact ⟨_, _, qs, rfl, hr, hl.out, fun m y u hd hq => by
        obtain ⟨x, e, hx⟩ := hk.out.done m y u hd hq
        exact ⟨x, e, hx.mono (Nat.le_succ _)⟩, hk.out.bel⟩
end Go.Proofs.Ytdmonbcinlmljaa

/- A copy of a description. Bounds on sizes alone. -/
namespace Go.Proofs.Ytdmonbcinlmljaa
open Go.RowKit
set_option maxRecDepth 100000

theorem redrewB {B : Nat} {w0 w : World} (h : Below B w0 w) : Below B w0 w.drew := ⟨h.os, h.tape, h.output, h.size, h.block⟩
theorem small_of {t : Lat} (h : nodeE t = 0) : t.ns.length ≤ 32 ∧ t.rs.length ≤ 32 ∧ t.ps.length ≤ 32 := by
  have hs := node_shape h
  unfold nodeE at h
  split at h
  · cases h
  split at h
  · cases h
  rename_i h1 h2
  have hl : limL t.k ≤ 32 := by unfold limL; split <;> (try split) <;> omega
  refine ⟨by omega, by omega, ?_⟩
  unfold shapeB at hs
  split at hs
  · simp at hs; simp [hs]
  split at hs
  · simp at hs; simp [hs]
  split at hs
  · simp at hs; simp [hs]
  split at hs
  · simp at hs; omega
  split at hs
  · simp at hs; omega
  split at hs
  · simp at hs; omega
  split at hs
  · simp at hs; simp [hs]
  · cases hs
theorem cs6 {w : World} {b : Nat} {E : TypeId} {m : Nat × Nat} {v0 v1 v2 v3 v4 v5 : Value} (h : w.heap[b]? = some (.cells #[v0, v1, v2, v3, v4, v5] E m)) : w.cell? ⟨b, 0, none⟩ = some v0 ∧ w.cell? ⟨b, 1, none⟩ = some v1 ∧ w.cell? ⟨b, 2, none⟩ = some v2 ∧ w.cell? ⟨b, 3, none⟩ = some v3 ∧ w.cell? ⟨b, 4, none⟩ = some v4 ∧ w.cell? ⟨b, 5, none⟩ = some v5 :=
  ⟨cell_blk (cs := [v0, v1, v2, v3, v4, v5]) h rfl, cell_blk (cs := [v0, v1, v2, v3, v4, v5]) h rfl, cell_blk (cs := [v0, v1, v2, v3, v4, v5]) h rfl, cell_blk (cs := [v0, v1, v2, v3, v4, v5]) h rfl, cell_blk (cs := [v0, v1, v2, v3, v4, v5]) h rfl, cell_blk (cs := [v0, v1, v2, v3, v4, v5]) h rfl⟩
theorem fz6 {w : World} {b : Nat} {E : TypeId} {cs : Array Value} (h : w.heap[b]? = some (.cells cs E (0, 0))) : w.frozen? ⟨b, 0, none⟩ = false ∧ w.frozen? ⟨b, 1, none⟩ = false ∧ w.frozen? ⟨b, 2, none⟩ = false ∧ w.frozen? ⟨b, 3, none⟩ = false ∧ w.frozen? ⟨b, 4, none⟩ = false ∧ w.frozen? ⟨b, 5, none⟩ = false :=
  ⟨by simp [World.frozen?, h], by simp [World.frozen?, h], by simp [World.frozen?, h], by simp [World.frozen?, h], by simp [World.frozen?, h], by simp [World.frozen?, h]⟩
theorem en_copy : ∀ args w, (callFunc 21 args).run Try.prog w = .ok (.enter 21 args) w := enters_of Try.func21 (by kernel_rfl) rfl
theorem en_rule : ∀ args w, (callFunc 47 args).run Try.prog w = .ok (.enter 47 args) w := enters_of Try.func47 (by kernel_rfl) rfl
/-- The three rows are those of a copy. -/
theorem cp_done {w w1 w3 w4 w5 W : World} {k lo hi : Int} {xo : Option Addr} {nn xc : Nat} {yo : Option Addr} {np yc : Nat} {zo : Option Addr} {nr zc : Nat} {t : Lat} {qs : List SxV} {ds : List PV} (hs : w1.heap.size = w.heap.size + 2)
    (b1 : Below w1.heap.size w1 w3) (n1 : w3.ownsRow w1.heap.size 9 1 (.slice xo nn xc) nn (ss t.ns)) (b2 : Below w3.heap.size w3 w4) (n2 : w4.ownsRow w3.heap.size 26 6 (.slice yo np yc) np (sxds qs)) (ql : qs.length = np) (kd : ∀ (m : Nat) (y : SxV) (u : Lat), qs[m]? = some y → t.ps[m]? = some u → ∃ x : LX, y = x.q ∧ LB w3.heap.size w4 x u)
    (b3 : Below w4.heap.size w4 w5) (n3 : w5.ownsRow w4.heap.size 47 2 (.slice zo nr zc) nr (prs ds)) (dl : ds.length = nr) (rd : ∀ (m : Nat) (d : PV) (r : Gr), ds[m]? = some d → t.rs[m]? = some r → Rd w5 d.1 (ss r.1) ∧ Ge w4.heap.size d.1 ∧ d.2 = .string (ba r.2))
    (hnn : nn = t.ns.length) (hnp : np = t.ps.length) (hnr : nr = t.rs.length) (hk : k = t.k) (hlo : lo = t.lo) (hhi : hi = t.hi) (rk : R64 k) (rlo : R64 lo) (rhi : R64 hi) (on : Ok t.ns) (or : OkR t.rs)
    (hW : ∀ g, w.heap.size + 2 ≤ g → W.heap[g]? = w5.heap[g]?) (hsz : W.heap.size = w5.heap.size) : LB w.heap.size W ⟨k, lo, hi, .slice xo nn xc, .slice yo np yc, .slice zo nr zc⟩ t := by
  have s1 := b1.size
  have s2 := b2.size
  have s3 := b3.size
  have k5 : ∀ g, w.heap.size + 2 ≤ g → g < w4.heap.size → W.heap[g]? = w4.heap[g]? := fun g h1 h2 => (hW g h1).trans (b3.block g h2)
  have k3 : ∀ g, w.heap.size + 2 ≤ g → g < w3.heap.size → W.heap[g]? = w3.heap[g]? := fun g h1 h2 => (k5 g h1 (by omega)).trans (b2.block g h2)
  have m1 := own_same (w' := W) n1 fun g hg => k3 g (by have := (n1.lt g hg).1; omega) (n1.lt g hg).2
  have m2 := own_same (w' := W) n2 fun g hg => k5 g (by have := (n2.lt g hg).1; omega) (n2.lt g hg).2
  have m3 := own_same (w' := W) n3 fun g hg => hW g (by have := (n3.lt g hg).1; omega)
  have hex : ∃ xs : List LX, qs = xs.map LX.q ∧ ∀ (m : Nat) (x : LX) (u : Lat), xs[m]? = some x → t.ps[m]? = some u → LB w3.heap.size W x u := by
    have : ∀ (l : List SxV) (us : List Lat), l.length = us.length → (∀ (m : Nat) (y : SxV) (u : Lat), l[m]? = some y → us[m]? = some u → ∃ x : LX, y = x.q ∧ LB w3.heap.size W x u) → ∃ xs : List LX, l = xs.map LX.q ∧ ∀ (m : Nat) (x : LX) (u : Lat), xs[m]? = some x → us[m]? = some u → LB w3.heap.size W x u := by
      intro l
      induction l with
      | nil => intro us _ _; exact ⟨[], rfl, fun m x u hx => by simp at hx⟩
      | cons y l ih =>
        intro us hl hh
        cases us with
        | nil => simp at hl
        | cons u us =>
          obtain ⟨x, e, hx⟩ := hh 0 y u rfl rfl
          obtain ⟨xs, e2, hxs⟩ := ih us (by simpa using hl) (fun m y' u' h1 h2 => hh (m + 1) y' u' h1 h2)
          refine ⟨x :: xs, by rw [e, e2]; rfl, fun m x' u' h1 h2 => ?_⟩
          cases m with
          | zero => simp at h1 h2; subst h1 h2; exact hx
          | succ m => exact hxs m x' u' h1 h2
    exact this qs t.ps (by omega) fun m y u hy hu => by
      obtain ⟨x, e, hx⟩ := kd m y u hy hu
      exact ⟨x, e, hx.keep (by omega) fun g h1 h2 => k5 g (by omega) h2⟩
  obtain ⟨xs, e3, hxs⟩ := hex
  have hxl : xs.length = t.ps.length := by rw [e3, List.length_map] at ql; omega
  refine .mk xs hk hlo hhi rk rlo rhi (rd_of_own m1 (by rw [ss_length]; omega)) ((own_ge m1).mono (by omega)) on ⟨ds, prd_of_own m3 dl, (own_ge m3).mono (by omega), by omega, fun m d r hd hr => ?_⟩ or ?_ ((own_ge m2).mono (by omega)) hxl fun m x u h1 h2 => (hxs m x u h1 h2).mono (by omega)
  · obtain ⟨a, b, c⟩ := rd m d r hd hr
    exact ⟨a.keep b (by omega) fun g h1 h2 => hW g (by omega), b.mono (by omega), c⟩
  · rw [e3] at m2 ql
    exact sxds_of_own m2 ql
set_option maxHeartbeats 12800000 in
theorem clone_any : ∀ t, CloF 21 t := by
  refine lat_ind ?_
  intro k' lo' hi' ns' ps' rs' ih k lo hi an nn cn ap np cp ar nr cr w H hok
  obtain ⟨t, ht⟩ : ∃ t, t = Lat.mk k' lo' hi' ns' ps' rs' := ⟨_, rfl⟩
  rw [← ht] at H hok ⊢
  obtain rfl : ps' = t.ps := by rw [ht]; rfl
  have hsm := small_of (by cases hok; assumption)
  have hkid : ∀ p ∈ t.ps, Okay p := by cases hok; assumption
  have hlp := H.lp
  have hln := H.ln
  have hlr := H.lr
  have CS := hid_of (fun (wz : World) (hz : Below w.heap.size w wz) => cloneS_any an nn cn (ss t.ns) wz (H.n.at hz) (ss_one _) (by rw [ss_length]; omega))
  have CL := hid_of (fun (wz : World) (hz : Below w.heap.size w wz) => eachL_any 21 en_copy t.ps ih hkid ap np cp wz (H.p.at hz) (by omega))
  have CR := hid_of (fun (wz : World) (hz : Below w.heap.size w wz) => eachR_any 47 en_rule (fun a n c l s w h1 h2 h3 => rule_any a n c l s w h1 h2 h3) ar nr cr t.rs wz (H.r.at hz) (by omega) (fun r hr => (H.or r hr).2.2))
  have HNN := hid_of hln
  have HNP := hid_of hlp
  have HNR := hid_of hlr
  have HFF := hid_of (And.intro H.hk (And.intro H.hlo (And.intro H.hhi (And.intro H.rk (And.intro H.rlo (And.intro H.rhi (And.intro H.on H.or)))))))
  have HB1 := hid_of (show Below w.heap.size w ((w.alloc (.cells #[.int .i64 k, .int .i64 lo, .int .i64 hi, .slice an nn cn, .slice ap np cp, .slice ar nr cr] 26)).alloc (.cells #[.int .i64 0, .int .i64 0, .int .i64 0, .slice none 0 0, .slice none 0 0, .slice none 0 0] 26)) from (bel_alloc w _).trans ((bel_alloc _ _).mono (by simp)))
  have h2n := two_new w (.cells #[.int .i64 k, .int .i64 lo, .int .i64 hi, .slice an nn cn, .slice ap np cp, .slice ar nr cr] 26) (.cells #[.int .i64 0, .int .i64 0, .int .i64 0, .slice none 0 0, .slice none 0 0, .slice none 0 0] 26)
  have H2N := hid_of h2n
  have HX : Hid (∀ wz, Below ((w.alloc (.cells #[.int .i64 k, .int .i64 lo, .int .i64 hi, .slice an nn cn, .slice ap np cp, .slice ar nr cr] 26)).alloc (.cells #[.int .i64 0, .int .i64 0, .int .i64 0, .slice none 0 0, .slice none 0 0, .slice none 0 0] 26)).heap.size ((w.alloc (.cells #[.int .i64 k, .int .i64 lo, .int .i64 hi, .slice an nn cn, .slice ap np cp, .slice ar nr cr] 26)).alloc (.cells #[.int .i64 0, .int .i64 0, .int .i64 0, .slice none 0 0, .slice none 0 0, .slice none 0 0] 26)) wz → wz.cell? ⟨w.heap.size, 3, none⟩ = some (.slice an nn cn) ∧ wz.cell? ⟨w.heap.size, 4, none⟩ = some (.slice ap np cp) ∧ wz.cell? ⟨w.heap.size, 5, none⟩ = some (.slice ar nr cr)) := hid_of (fun wz hz => by
    have e : wz.heap[w.heap.size]? = some (.cells [.int .i64 k, .int .i64 lo, .int .i64 hi, .slice an nn cn, .slice ap np cp, .slice ar nr cr].toArray 26) := (hz.block _ (by simp; omega)).trans h2n.1
    exact ⟨cell_blk e rfl, cell_blk e rfl, cell_blk e rfl⟩)
  have HFZ : Hid (∀ wz, Below ((w.alloc (.cells #[.int .i64 k, .int .i64 lo, .int .i64 hi, .slice an nn cn, .slice ap np cp, .slice ar nr cr] 26)).alloc (.cells #[.int .i64 0, .int .i64 0, .int .i64 0, .slice none 0 0, .slice none 0 0, .slice none 0 0] 26)).heap.size ((w.alloc (.cells #[.int .i64 k, .int .i64 lo, .int .i64 hi, .slice an nn cn, .slice ap np cp, .slice ar nr cr] 26)).alloc (.cells #[.int .i64 0, .int .i64 0, .int .i64 0, .slice none 0 0, .slice none 0 0, .slice none 0 0] 26)) wz → wz.frozen? ⟨w.heap.size, 3, none⟩ = false ∧ wz.frozen? ⟨w.heap.size, 4, none⟩ = false ∧ wz.frozen? ⟨w.heap.size, 5, none⟩ = false) := hid_of (fun wz hz => by
    have e : wz.heap[w.heap.size]? = some (.cells [.int .i64 k, .int .i64 lo, .int .i64 hi, .slice an nn cn, .slice ap np cp, .slice ar nr cr].toArray 26) := (hz.block _ (by simp; omega)).trans h2n.1
    exact ⟨by simp [World.frozen?, e], by simp [World.frozen?, e], by simp [World.frozen?, e]⟩)
  clear h2n ih H hok hsm hkid hlp hln hlr ht
  go_enter Try.func21, Try.ntmps21
  go_wp2
  have cs0 := HX.out (((w.alloc (.cells #[.int .i64 k, .int .i64 lo, .int .i64 hi, .slice an nn cn, .slice ap np cp, .slice ar nr cr] 26)).alloc (.cells #[.int .i64 0, .int .i64 0, .int .i64 0, .slice none 0 0, .slice none 0 0, .slice none 0 0] 26)).drew) (redrewB (Below.refl _ _))
  refine wp_region_T (S := (fun (wz : World) => wz.cell? ⟨w.heap.size, 3, none⟩ = some (.slice an nn cn) ∧ wz.cell? ⟨w.heap.size, 4, none⟩ = some (.slice ap np cp) ∧ wz.cell? ⟨w.heap.size, 5, none⟩ = some (.slice ar nr cr))) (T := fun j => decide (j < 9)) (by kernel_rfl) ?_
  refine wpAnyT_take (i := 0) (oi := ⟨some 3, _, _, _, _, _⟩) (v := ?_) rfl (by kernel_rfl) (by kernel_rfl) (by kernel_rfl) (by kernel_rfl) (fun _ _ _ h => h) (Or.inl ⟨by rfl, ?hy⟩) cs0 ?_
  case hy => ((intro w hSw); (try dsimp only at hSw); go_simp <;> with_reducible rfl)
  (try simp only [Act.put, List.setIfInBounds_toArray, List.set_cons_zero, List.set_cons_succ])
  refine wpAnyT_take (i := 1) (oi := ⟨some 4, _, _, _, _, _⟩) (v := ?_) rfl (by kernel_rfl) (by kernel_rfl) (by kernel_rfl) (by kernel_rfl) (fun _ _ _ h => h) (Or.inl ⟨by rfl, ?hy⟩) cs0 ?_
  case hy => ((intro w hSw); (try dsimp only at hSw); go_simp <;> with_reducible rfl)
  (try simp only [Act.put, List.setIfInBounds_toArray, List.set_cons_zero, List.set_cons_succ])
  refine wpAnyT_take (i := 3) (oi := ⟨some 6, _, _, _, _, _⟩) (v := ?_) rfl (by kernel_rfl) (by kernel_rfl) (by kernel_rfl) (by kernel_rfl) (fun _ _ _ h => h) (Or.inl ⟨by rfl, ?hy⟩) cs0 ?_
  case hy => ((intro w hSw); (try dsimp only at hSw); go_simp <;> with_reducible rfl)
  (try simp only [Act.put, List.setIfInBounds_toArray, List.set_cons_zero, List.set_cons_succ])
  refine wpAnyT_take (i := 4) (oi := ⟨some 7, _, _, _, _, _⟩) (v := ?_) rfl (by kernel_rfl) (by kernel_rfl) (by kernel_rfl) (by kernel_rfl) (fun _ _ _ h => h) (Or.inl ⟨by rfl, ?hy⟩) cs0 ?_
  case hy => ((intro w hSw); (try dsimp only at hSw); go_simp <;> with_reducible rfl)
  (try simp only [Act.put, List.setIfInBounds_toArray, List.set_cons_zero, List.set_cons_succ])
  refine wpAnyT_take (i := 6) (oi := ⟨some 9, _, _, _, _, _⟩) (v := ?_) rfl (by kernel_rfl) (by kernel_rfl) (by kernel_rfl) (by kernel_rfl) (fun _ _ _ h => h) (Or.inl ⟨by rfl, ?hy⟩) cs0 ?_
  case hy => ((intro w hSw); (try dsimp only at hSw); go_simp <;> with_reducible rfl)
  (try simp only [Act.put, List.setIfInBounds_toArray, List.set_cons_zero, List.set_cons_succ])
  refine wpAnyT_take (i := 7) (oi := ⟨some 10, _, _, _, _, _⟩) (v := ?_) rfl (by kernel_rfl) (by kernel_rfl) (by kernel_rfl) (by kernel_rfl) (fun _ _ _ h => h) (Or.inl ⟨by rfl, ?hy⟩) cs0 ?_
  case hy => ((intro w hSw); (try dsimp only at hSw); go_simp <;> with_reducible rfl)
  (try simp only [Act.put, List.setIfInBounds_toArray, List.set_cons_zero, List.set_cons_succ])
  refine wpAnyT_ready (rs := [2]) (by kernel_rfl) (by simp) ?_
  refine AllReadyT.cons (o := _) rfl (fun K hK => ?_) AllReadyT.nil
  go_simp
  (go_at_call 44; ((with_reducible refine (CS.out _ (by first | exact redrewB HB1.out | exact HB1.out)).mono ?_); (rintro e w3 ⟨xo, xc, rfl, h3⟩); (have n1q := h3.own); (rw [ss_length, ← HNN.out] at n1q); (have N1 := hid_of n1q); (clear n1q); (have B1 := hid_of (undrew h3.bel)); (have BB3 := hid_of (HB1.out.trans ((undrew h3.bel).mono HB1.out.size))); (have cs3 := HX.out w3 (undrew h3.bel)); clear h3))
  (try go_wp2_with fail)
  refine hK.out _ _ (fun _ => cs3) ?_
  clear hK K
  (try simp only [Act.put, List.setIfInBounds_toArray, List.set_cons_zero, List.set_cons_succ])
  refine wpAnyT_pure (i := 9) (oi := ⟨some 12, _, _, _, _, _⟩) (v := ?_) rfl (by kernel_rfl) (by kernel_rfl) (by kernel_rfl) (by decide) (fun _ _ _ h => h) (Or.inl ⟨by rfl, ?hy⟩) ?_
  case hy => (intro w; go_simp <;> with_reducible rfl)
  (try simp only [Act.put, List.setIfInBounds_toArray, List.set_cons_zero, List.set_cons_succ])
  refine wpAnyT_ready (rs := [5]) (by kernel_rfl) (by simp) ?_
  refine AllReadyT.cons (o := _) rfl (fun K hK => ?_) AllReadyT.nil
  go_simp
  (go_at_call 45; ((with_reducible refine (CL.out _ BB3.out).mono ?_); (rintro e w4 ⟨yo, yc, qs, rfl, h4a, h4b, h4c, h4d⟩); (have N2 := hid_of h4a); (have QL := hid_of h4b); (have KD := hid_of h4c); (have B2 := hid_of h4d); (have BB4 := hid_of (BB3.out.trans (h4d.mono BB3.out.size))); (have cs4 := HX.out w4 (B1.out.trans (h4d.mono B1.out.size))); clear h4a h4b h4c h4d))
  (try go_wp2_with fail)
  refine hK.out _ _ (fun _ => cs4) ?_
  clear hK K
  (try simp only [Act.put, List.setIfInBounds_toArray, List.set_cons_zero, List.set_cons_succ])
  refine wpAnyT_ready (rs := [8]) (by kernel_rfl) (by simp) ?_
  refine AllReadyT.cons (o := _) rfl (fun K hK => ?_) AllReadyT.nil
  go_simp
  (go_at_call 46; ((with_reducible refine (CR.out _ BB4.out).mono ?_); (rintro e w5 ⟨zo, zc, ds, rfl, h5a, h5b, h5c, h5d⟩); (have N3 := hid_of h5a); (have DL := hid_of h5b); (have RD := hid_of h5c); (have B3 := hid_of h5d); (have cs5 := HX.out w5 (B1.out.trans ((B2.out.trans (h5d.mono B2.out.size)).mono B1.out.size))); (have fz := HFZ.out w5 (B1.out.trans ((B2.out.trans (h5d.mono B2.out.size)).mono B1.out.size))); clear h5a h5b h5c h5d))
  (try go_wp2_with fail)
  refine hK.out _ _ (fun _ => cs5) ?_
  clear hK K
  (try simp only [Act.put, List.setIfInBounds_toArray, List.set_cons_zero, List.set_cons_succ])
  refine wpAnyT_of_any _ _ _ _ (spent_spec (by kernel_rfl)) ?_
  obtain ⟨fz0, fz1, fz2⟩ := fz
  obtain ⟨cc0, cc1, cc2⟩ := cs5
  refine wpAny_ready (rs := [10]) (by kernel_rfl) (by simp) ?_
  refine AllReady.cons (o := _) rfl (fun K hK => ?_) AllReady.nil
  go_simp
  refine hK _ _ ?_
  clear hK K
  (try simp only [Act.put, List.setIfInBounds_toArray, List.set_cons_zero, List.set_cons_succ])
  refine wpAny_take (i := 11) (oi := ⟨some 13, _, _, _, _, _⟩) (v := ?_) rfl (by kernel_rfl) (by kernel_rfl) (by kernel_rfl) (fun _ _ _ h => h) (Or.inl ⟨by rfl, ?hy⟩) ?_
  case hy => (intro w; go_simp <;> with_reducible rfl)
  (try simp only [Act.put, List.setIfInBounds_toArray, List.set_cons_zero, List.set_cons_succ])
  refine wpAny_ready (rs := [12]) (by kernel_rfl) (by simp) ?_
  refine AllReady.cons (o := _) rfl (fun K hK => ?_) AllReady.nil
  go_simp
  refine hK _ _ ?_
  clear hK K
  (try simp only [Act.put, List.setIfInBounds_toArray, List.set_cons_zero, List.set_cons_succ])
  refine wpAny_take (i := 13) (oi := ⟨some 14, _, _, _, _, _⟩) (v := ?_) rfl (by kernel_rfl) (by kernel_rfl) (by kernel_rfl) (fun _ _ _ h => h) (Or.inl ⟨by rfl, ?hy⟩) ?_
  case hy => (intro w; go_simp <;> with_reducible rfl)
  (try simp only [Act.put, List.setIfInBounds_toArray, List.set_cons_zero, List.set_cons_succ])
  refine wpAny_ready (rs := [14]) (by kernel_rfl) (by simp) ?_
  refine AllReady.cons (o := _) rfl (fun K hK => ?_) AllReady.nil
  go_simp
  refine hK _ _ ?_
  clear hK K
  (try simp only [Act.put, List.setIfInBounds_toArray, List.set_cons_zero, List.set_cons_succ])
  refine wpAny_done (by kernel_rfl) ?_ _
  have b13 : Below (w.heap.size + 2) ((w.alloc (.cells #[.int .i64 k, .int .i64 lo, .int .i64 hi, .slice an nn cn, .slice ap np cp, .slice ar nr cr] 26)).alloc (.cells #[.int .i64 0, .int .i64 0, .int .i64 0, .slice none 0 0, .slice none 0 0, .slice none 0 0] 26)) w5 := by
    have h1 := B1.out
    have h2 := B2.out
    have h3 := B3.out
    have e1 : ((w.alloc (.cells #[.int .i64 k, .int .i64 lo, .int .i64 hi, .slice an nn cn, .slice ap np cp, .slice ar nr cr] 26)).alloc (.cells #[.int .i64 0, .int .i64 0, .int .i64 0, .slice none 0 0, .slice none 0 0, .slice none 0 0] 26)).heap.size = w.heap.size + 2 := by simp
    rw [e1] at h1
    have s1 := h1.size
    rw [e1] at s1
    exact (h1.trans (h2.mono s1)).trans (h3.mono (Nat.le_trans s1 h2.size))
  have hbx := (b13.block w.heap.size (by omega)).trans H2N.out.1
  have hrs := (b13.block (w.heap.size + 1) (by omega)).trans H2N.out.2
  have HB5 := hid_of (HB1.out.trans (b13.mono (by omega)))
  have HSZ := hid_of b13.size
  obtain ⟨e1, e2, e3, e4, e5, e6, e7, e8⟩ := HFF.out
  have HCP := hid_of (fun (W : World) hW hsz => cp_done (w := w) (W := W) (k := k) (lo := lo) (hi := hi) (t := t) (by simp) B1.out N1.out B2.out N2.out QL.out KD.out B3.out N3.out DL.out RD.out HNN.out HNP.out HNR.out e1 e2 e3 e4 e5 e6 e7 e8 hW hsz)
  clear e1 e2 e3 e4 e5 e6 e7 e8 b13
  obtain ⟨wf, hwf⟩ : ∃ wf, wf = ((w5.setCell ⟨w.heap.size, 3, none⟩ (.slice xo nn xc)).setCell ⟨w.heap.size, 4, none⟩ (.slice yo np yc)).setCell ⟨w.heap.size, 5, none⟩ (.slice zo nr zc) := ⟨_, rfl⟩
  have hb2 : wf.heap[w.heap.size]? = some (.cells [.int .i64 k, .int .i64 lo, .int .i64 hi, .slice xo nn xc, .slice yo np yc, .slice zo nr zc].toArray 26 (0, 0)) := by
    rw [hwf]
    exact blk_setCell (k := 5) (blk_setCell (k := 4) (blk_setCell (k := 3) (cur := [.int .i64 k, .int .i64 lo, .int .i64 hi, .slice an nn cn, .slice ap np cp, .slice ar nr cr]) hbx))
  have hsb : SameBut w.heap.size w5 wf := by rw [hwf]; exact (((SameBut.refl _ w5).set 3 _).set 4 _).set 5 _
  have hr2 : wf.heap[w.heap.size + 1]? = some (.cells [.int .i64 0, .int .i64 0, .int .i64 0, .slice none 0 0, .slice none 0 0, .slice none 0 0].toArray 26 (0, 0)) := (hsb.1 _ (by omega)).trans hrs
  have HSB := hid_of hsb
  obtain ⟨b0, b1, b2, b3, b4, b5⟩ := cs6 hb2
  obtain ⟨z0, z1, z2, z3, z4, z5⟩ := cs6 hr2
  obtain ⟨y0, y1, y2, y3, y4, y5⟩ := fz6 hr2
  have HR2 := hid_of hr2
  rw [← hwf]
  clear hwf hbx hrs hb2 hr2 hsb fz0 fz1 fz2 cc0 cc1 cc2 cs0 cs3 cs4 N1 N2 N3 KD RD CS CL CR HX HFZ H2N
  go_wp2
  have e6 := blk_setCell (k := 5) (u := .slice zo nr zc) (blk_setCell (k := 4) (u := .slice yo np yc) (blk_setCell (k := 3) (u := .slice xo nn xc) (blk_setCell (k := 2) (u := .int .i64 hi) (blk_setCell (k := 1) (u := .int .i64 lo) (blk_setCell (k := 0) (u := .int .i64 k) HR2.out)))))
  refine bodyPost_ret (results_cell_row rfl _ _ (w.heap.size + 1) 26 #[.int .i64 k, .int .i64 lo, .int .i64 hi, .slice xo nn xc, .slice yo np yc, .slice zo nr zc] (0, 0) _ rfl e6 Try.underlying26 rfl infoLat) rfl ⟨xo, xc, yo, yc, zo, zc, rfl, ?_, ?_⟩
  · obtain ⟨h1, h2, h3⟩ := HSB.out
    refine HCP.out _ (fun g hg => ?_) (by simp [h2])
    have hne : g ≠ w.heap.size + 1 := by omega
    exact (Below.heap_setCell _ _ _ _ hne).trans ((Below.heap_setCell _ _ _ _ hne).trans ((Below.heap_setCell _ _ _ _ hne).trans ((Below.heap_setCell _ _ _ _ hne).trans ((Below.heap_setCell _ _ _ _ hne).trans ((Below.heap_setCell _ _ _ _ hne).trans (h1 g (by omega)))))))
  · obtain ⟨h1, h2, h3⟩ := HSB.out
    have hb := HB5.out
    have hbf : Below w.heap.size w wf := ⟨h3.1.trans hb.os, h3.2.1.trans hb.tape, h3.2.2.trans hb.output, by rw [h2]; exact hb.size, fun g hg => (h1 g (by omega)).trans (hb.block g hg)⟩
    exact (((((hbf.setCell (Nat.le_succ _) _).setCell (Nat.le_succ _) _).setCell (Nat.le_succ _) _).setCell (Nat.le_succ _) _).setCell (Nat.le_succ _) _).setCell (Nat.le_succ _) _
end Go.Proofs.Ytdmonbcinlmljaa

/- Field of package lattice. Bounds on sizes alone. -/
namespace Go.Proofs.Ytdmonbcinlmljaa
open Go.RowKit

theorem at_exists (l : List Str) (s : Str) : ∃ r, At l s r := by
  by_cases h : s ∈ l
  · have : ∀ (l : List Str), s ∈ l → ∃ n : Nat, l[n]? = some s ∧ ∀ j, j < n → l[j]? ≠ some s := by
      intro l
      induction l with
      | nil => intro h; cases h
      | cons y l ih =>
        intro h
        by_cases e : y = s
        · exact ⟨0, by rw [e]; rfl, fun j hj => by omega⟩
        · obtain ⟨n, h1, h2⟩ := ih (by rcases List.mem_cons.1 h with h | h; exact absurd h.symm e; exact h)
          refine ⟨n + 1, h1, fun j hj => ?_⟩
          cases j with
          | zero => intro h3; exact e (by simpa using h3)
          | succ j => exact h2 j (by omega)
    obtain ⟨n, h1, h2⟩ := this l h
    exact ⟨n, .inl ⟨n, rfl, h1, h2⟩⟩
  · exact ⟨-1, .inr ⟨rfl, h⟩⟩
set_option maxRecDepth 100000 in
set_option maxHeartbeats 3200000 in
theorem field_no (k lo hi : Int) (an : Option Addr) (nn cn : Nat) (ap : Option Addr) (np cp : Nat) (ar : Option Addr) (nr cr : Nat) (ns : List Str) (s : Str) (r : Int) (w : World) (R : Rd w (.slice an nn cn) (ss ns)) (hat : At ns s r) (hno : k ≠ 6 ∨ r = -1) :
    Calls Try.prog 7 #[.agg #[.int .i64 k, .int .i64 lo, .int .i64 hi, .slice an nn cn, .slice ap np cp, .slice ar nr cr], .string (ba s)] w fun e w' => e = .returned (.tuple #[.agg #[.int .i64 0, .int .i64 0, .int .i64 0, .slice none 0 0, .slice none 0 0, .slice none 0 0], .bool false]) ∧ Below w.heap.size w w' := by
  obtain ⟨bs, hbs⟩ : ∃ bs, bs = ba s := ⟨_, rfl⟩
  have HBW : Hid (Below w.heap.size w ((w.alloc (.cells #[.int .i64 k, .int .i64 lo, .int .i64 hi, .slice an nn cn, .slice ap np cp, .slice ar nr cr] 26)).alloc (.cells #[.int .i64 0, .int .i64 0, .int .i64 0, .slice none 0 0, .slice none 0 0, .slice none 0 0] 26))) := hid_of ((bel_alloc w _).trans ((bel_alloc _ _).mono (by simp)))
  have Q2 := hid_of (two_new w (.cells #[.int .i64 k, .int .i64 lo, .int .i64 hi, .slice an nn cn, .slice ap np cp, .slice ar nr cr] 26) (.cells #[.int .i64 0, .int .i64 0, .int .i64 0, .slice none 0 0, .slice none 0 0, .slice none 0 0] 26)).2
  have IX := hid_of (index_any ns s r an nn cn ((w.alloc (.cells #[.int .i64 k, .int .i64 lo, .int .i64 hi, .slice an nn cn, .slice ap np cp, .slice ar nr cr] 26)).alloc (.cells #[.int .i64 0, .int .i64 0, .int .i64 0, .slice none 0 0, .slice none 0 0, .slice none 0 0] 26)) (R.at HBW.out) hat)
  rw [← hbs] at IX ⊢
  clear R hat hbs
  by_cases hk : k = 6
  · obtain rfl : r = -1 := hno.resolve_left (fun h => h hk)
    subst hk
    clear hno
    go_enter Try.func7, Try.ntmps7
    go_wp2_with (first
      | (go_at_call 20; ((with_reducible refine (IX.out).mono ?_); (rintro e w2 ⟨rfl, rfl⟩)))
      | (refine wpList_store_row rfl 26 (.tmp 4) (.tmp 25) rfl (w.heap.size + 1) #[.int .i64 0, .int .i64 0, .int .i64 0, .slice none 0 0, .slice none 0 0, .slice none 0 0] rfl rfl 26 _ Q2.out infoLat rfl rfl ?_))
    refine bodyPost_ret (res_ct (cs := #[.int .i64 0, .int .i64 0, .int .i64 0, .slice none 0 0, .slice none 0 0, .slice none 0 0]) rfl (w.heap.size + 1) rfl Q2.out Try.underlying26 rfl infoLat) rfl ⟨rfl, ?_⟩
    exact HBW.out
  · have e1 : (k != 6) = true := bne_iff_ne.2 hk
    clear hno hk
    go_enter Try.func7, Try.ntmps7
    go_wp2_with (first
      | (go_at_call 20; ((with_reducible refine (IX.out).mono ?_); (rintro e w2 ⟨rfl, rfl⟩)))
      | (refine wpList_store_row rfl 26 (.tmp 4) (.tmp 25) rfl (w.heap.size + 1) #[.int .i64 0, .int .i64 0, .int .i64 0, .slice none 0 0, .slice none 0 0, .slice none 0 0] rfl rfl 26 _ Q2.out infoLat rfl rfl ?_))
    refine bodyPost_ret (res_ct (cs := #[.int .i64 0, .int .i64 0, .int .i64 0, .slice none 0 0, .slice none 0 0, .slice none 0 0]) rfl (w.heap.size + 1) rfl Q2.out Try.underlying26 rfl infoLat) rfl ⟨rfl, ?_⟩
    exact HBW.out
/-- Field where there is the field: a description of its own that is the part. -/
def FldP (u : Lat) (w : World) (e : Ending) (w' : World) : Prop := ∃ (k lo hi : Int) (an : Option Addr) (nn cn : Nat) (ap : Option Addr) (np cp : Nat) (ar : Option Addr) (nr cr : Nat), e = .returned (.tuple #[.agg #[.int .i64 k, .int .i64 lo, .int .i64 hi, .slice an nn cn, .slice ap np cp, .slice ar nr cr], .bool true]) ∧ LO w' k lo hi an nn cn ap np cp ar nr cr u ∧ Below w.heap.size w w'
theorem field_at (t u : Lat) (k lo hi : Int) (an : Option Addr) (nn cn : Nat) (ap : Option Addr) (np cp : Nat) (ar : Option Addr) (nr cr : Nat) (s : Str) (i : Nat) (w : World) (H : LO w k lo hi an nn cn ap np cp ar nr cr t) (hk : k = 6) (hu : t.ps[i]? = some u) (hok : Okay u) (hat : At t.ns s i) :
    Calls Try.prog 7 #[.agg #[.int .i64 k, .int .i64 lo, .int .i64 hi, .slice an nn cn, .slice ap np cp, .slice ar nr cr], .string (ba s)] w (FldP u w) := by
  subst hk
  have hl := H.p.len
  have hin : i < np := by have := (List.getElem?_eq_some_iff.1 hu).1; omega
  obtain ⟨g, o, kA, loA, hiA, anA, nnA, cnA, apA, npA, cpA, arA, nrA, crA, rfl, LU, hc⟩ := H.p.get hu
  refine (field_yes lo hi an nn cn g o np cp ar nr cr kA loA hiA anA nnA cnA apA npA cpA arA nrA crA t.ns s i w H.n hat hin (by omega) hc
    (fun cells w' => ∃ (xo : Option Addr) (xc : Nat) (yo : Option Addr) (yc : Nat) (zo : Option Addr) (zc : Nat), cells = #[.int .i64 kA, .int .i64 loA, .int .i64 hiA, .slice xo nnA xc, .slice yo npA yc, .slice zo nrA zc] ∧ LB (w.heap.size + 2) w' ⟨kA, loA, hiA, .slice xo nnA xc, .slice yo npA yc, .slice zo nrA zc⟩ u)
    (fun wz hz hsz => (clone_any u kA loA hiA anA nnA cnA apA npA cpA arA nrA crA wz (LU.at hz) hok).mono fun e w' h => ?_)).mono fun e w' h => ?_
  · obtain ⟨xo, xc, yo, yc, zo, zc, rfl, hlb, hb⟩ := h
    exact ⟨_, rfl, rfl, by rw [List.all_toArray]; rfl, hb, xo, xc, yo, yc, zo, zc, rfl, hlb.mono hsz⟩
  · obtain ⟨cells, w3, rfl, ⟨xo, xc, yo, yc, zo, zc, rfl, hlb⟩, rfl, hb⟩ := h
    have hlb2 := hlb.keep (w' := w3.setRow (w.heap.size + 1) #[.int .i64 kA, .int .i64 loA, .int .i64 hiA, .slice xo nnA xc, .slice yo npA yc, .slice zo nrA zc]) (by simp [World.setRow]) (fun b hb2 _ => setRow_other _ _ _ _ (by omega))
    obtain ⟨k', lo', hi', a1, n1, c1, a2, n2, c2, a3, n3, c3, e, ho⟩ := hlb2.ld.open
    cases e
    exact ⟨kA, loA, hiA, xo, nnA, xc, yo, npA, yc, zo, nrA, zc, rfl, ho, hb⟩
end Go.Proofs.Ytdmonbcinlmljaa

/- Decode of package lattice, of a description of the kind Max. Bounds on sizes alone. -/
namespace Go.Proofs.Ytdmonbcinlmljaa
open Go.RowKit

theorem lo_leaf (k lo hi : Int) (rk : R64 k) (rlo : R64 lo) (rhi : R64 hi) (w : World) : LO w k lo hi none 0 0 none 0 0 none 0 0 ⟨k, lo, hi, [], [], []⟩ :=
  ⟨rfl, rfl, rfl, rk, rlo, rhi, ⟨none, 0, rfl, Nat.le_refl _, by omega, fun h => by simp [ss, Lat.ns] at h⟩, by intro y hy; simp [Lat.ns] at hy, rfl, lds_nil w, rfl, rur_nil w, by intro y hy; simp [Lat.rs] at hy, rfl⟩
set_option maxRecDepth 100000 in
set_option maxHeartbeats 3200000 in
theorem decmax_any (ao : Option Addr) (cap k1 k2 k3 n1 n2 : Nat) (d : List Int) (w : World) (hr : ∀ x ∈ d, 0 ≤ x ∧ x ≤ 255) (hl : d.length ≤ 140737488351232)
    (hpos : 0 < d.length → ∃ ad, ao = some ad ∧ ∀ w', Below w.heap.size w w' → ∀ j v, (Wr.bs d)[j]? = some v → w'.cell? (ad.add j) = some v)
    (h1 : Wr.dec (d.drop 0) = some (2, k1)) (h2 : Wr.dec (d.drop (0 + k1)) = some (n1, k2)) (h3 : Wr.dec (d.drop (0 + k1 + k2)) = some (n2, k3)) (hend : 0 + k1 + k2 + k3 = d.length)
    (r1 : R64 (Wr.unzig n1)) (r2 : R64 (Wr.unzig n2)) (hok : chkL ⟨2, Wr.unzig n1, Wr.unzig n2, [], [], []⟩ = 0) :
    Calls Try.prog 11 #[.slice ao d.length cap] w fun e w' => e = .returned (.tuple #[.agg #[.int .i64 2, .int .i64 (Wr.unzig n1), .int .i64 (Wr.unzig n2), .slice none 0 0, .slice none 0 0, .slice none 0 0], .int .i64 0]) ∧ Below w.heap.size w w' := by
  have HBW := hid_of (bel_alloc w (.cells #[.int .i64 0, .int .i64 0, .int .i64 0, .slice none 0 0, .slice none 0 0, .slice none 0 0] 26))
  have NR := hid_of (Wr.newReader_any ao d cap (w.alloc (.cells #[.int .i64 0, .int .i64 0, .int .i64 0, .slice none 0 0, .slice none 0 0, .slice none 0 0] 26)) hr hl (fun h0 => by obtain ⟨ad, e, hc⟩ := hpos h0; exact ⟨ad, e, hc _ HBW.out⟩))
  have RD : Hid (∀ b g w2, Wr.Rst w2 b g d 0 0 0 → Calls Try.prog 30 #[.pointer (some ⟨b, 0, none⟩), .int .i64 1] w2 fun e w' => e = .returned (.agg #[.int .i64 2, .int .i64 (Wr.unzig n1), .int .i64 (Wr.unzig n2), .slice none 0 0, .slice none 0 0, .slice none 0 0]) ∧ Wr.Rst w' b g d d.length (0 + k1 + k2) 0 ∧ Wr.Kept (fun k => k = b) w2 w') := hid_of (fun b g w2 h => by
    have := readmax_any b g k1 k2 k3 n1 n2 d w2 h h1 h2 h3
    rw [hend] at this
    exact this)
  have EN : Hid (∀ b g last w2, Wr.Rst w2 b g d d.length last 0 → Calls Try.prog 31 #[.pointer (some ⟨b, 0, none⟩)] w2 fun e w' => e = .returned (.int .i64 0) ∧ ∃ m, w' = w2.drewN m) := hid_of (fun b g last w2 h => Wr.end_ok b g d.length last d w2 h rfl)
  have CH : Hid (∀ w2, Calls Try.prog 6 #[.agg #[.int .i64 2, .int .i64 (Wr.unzig n1), .int .i64 (Wr.unzig n2), .slice none 0 0, .slice none 0 0, .slice none 0 0]] w2 (ErP 0 w2)) := hid_of (fun w2 => by
    have := check_any _ 2 (Wr.unzig n1) (Wr.unzig n2) none 0 0 none 0 0 none 0 0 w2 (lo_leaf 2 _ _ ⟨by omega, by omega⟩ r1 r2 w2)
    rwa [hok] at this)
  have LX1 : Hid ((#[.int .i64 2, .int .i64 (Wr.unzig n1), .int .i64 (Wr.unzig n2), .slice none 0 0, .slice none 0 0, .slice none 0 0] : Array Value).all (·.oneCell') = true) := hid_of (by simp [Value.oneCell'])
  clear hr hpos h1 h2 h3 hend r1 r2 hok
  go_enter Try.func11, Try.ntmps11
  go_wp2_with (first
    | (go_at_call 29; ((with_reducible refine (NR.out).mono ?_); (rintro e w1 ⟨b, g, rfl, q1, q2, q3, q4⟩); (have R1 := hid_of q1); (have B1 := hid_of q2); (have B3 := hid_of q3); (have Z1 : Hid (w1.heap[w.heap.size]? = some (.cells [.int .i64 0, .int .i64 0, .int .i64 0, .slice none 0 0, .slice none 0 0, .slice none 0 0].toArray 26 (0, 0))) := hid_of ((q2.block _ (by simp)).trans (heap_alloc_new w _))); clear q1 q2 q3 q4))
    | (go_at_call 30; ((with_reducible refine (RD.out b g w1 R1.out).mono ?_); (rintro e w2 ⟨rfl, q1, q2⟩); (have R2 := hid_of q1); (have K2 := hid_of q2); clear q1 q2))
    | (go_at_call 31; ((with_reducible refine (EN.out b g (0 + k1 + k2) (w2.alloc (.cells #[.int .i64 2, .int .i64 (Wr.unzig n1), .int .i64 (Wr.unzig n2), .slice none 0 0, .slice none 0 0, .slice none 0 0] 26)) (R2.out.same ((bel_alloc w2 _).block _ R2.out.blt) ((bel_alloc w2 _).block _ R2.out.glt))).mono ?_); (rintro e w3 ⟨rfl, m, rfl⟩)))
    | (go_at_call 6; ((with_reducible refine (CH.out _).mono ?_); (rintro e w4 ⟨rfl, q1⟩); (have B4 : Hid (Below (w2.alloc (.cells #[.int .i64 2, .int .i64 (Wr.unzig n1), .int .i64 (Wr.unzig n2), .slice none 0 0, .slice none 0 0, .slice none 0 0] 26)).heap.size (w2.alloc (.cells #[.int .i64 2, .int .i64 (Wr.unzig n1), .int .i64 (Wr.unzig n2), .slice none 0 0, .slice none 0 0, .slice none 0 0] 26)) w4) := hid_of ⟨q1.os, q1.tape, q1.output, q1.size, q1.block⟩); (have Z4 : Hid (w4.heap[w.heap.size]? = some (.cells [.int .i64 0, .int .i64 0, .int .i64 0, .slice none 0 0, .slice none 0 0, .slice none 0 0].toArray 26 (0, 0))) := hid_of ((B4.out.block _ (by have := K2.out.size; have := B1.out.size; simp at *; omega)).trans (((bel_alloc w2 _).block _ (by have := K2.out.size; have := B1.out.size; simp at *; omega)).trans ((K2.out.block _ (by have := B1.out.size; simp at *; omega) (by have := B3.out; simp at *; omega)).trans Z1.out)))); (obtain ⟨y0, y1, y2, y3, y4, y5⟩ := box6 2 (Wr.unzig n1) (Wr.unzig n2) none 0 0 none 0 0 none 0 0 B4.out); clear q1))
    | (refine wpList_store_row rfl 26 (.tmp 2) (.tmp 19) rfl w.heap.size #[.int .i64 2, .int .i64 (Wr.unzig n1), .int .i64 (Wr.unzig n2), .slice none 0 0, .slice none 0 0, .slice none 0 0] rfl rfl 26 _ Z4.out infoLat rfl LX1.out ?_))
  refine bodyPost_ret (res_ct rfl w.heap.size rfl (setRow_heap _ _ _ #[.int .i64 2, .int .i64 (Wr.unzig n1), .int .i64 (Wr.unzig n2), .slice none 0 0, .slice none 0 0, .slice none 0 0] _ _ Z4.out) Try.underlying26 rfl infoLat) rfl ⟨rfl, ?_⟩
  have x1 : Below w.heap.size w w1 := HBW.out.trans (B1.out.mono (by simp))
  have x2 : Below w.heap.size w w2 := x1.trans ⟨K2.out.os, K2.out.tape, K2.out.output, K2.out.size, fun k hk => K2.out.block k (by have := x1.size; omega) (by have := B3.out; simp at this; omega)⟩
  exact below_setRow ((x2.trans ((bel_alloc w2 _).mono x2.size)).trans (B4.out.mono (by have := x2.size; simp; omega))) (Nat.le_refl _) _
end Go.Proofs.Ytdmonbcinlmljaa

/- The examples of the chapter hold: awake. No condition. -/
namespace Go.Proofs.Ytdmonbcinlmljaa
open Go.RowKit

theorem pair_row {W : World} {g : Nat} (a b : LX) {ta tb : Lat} (hb : W.heap[g]? = some (.cells (a.q.cs ++ b.q.cs).toArray 26 (0, 0))) (ha : LD W a ta) (hb2 : LD W b tb) : LDs W (.slice (some ⟨g, 0, none⟩) 2 2) [ta, tb] := by
  refine ⟨[a, b], ⟨_, _, rfl, by simp, by simp, fun _ => ⟨g, 0, rfl, lt_of_block hb, fun i t ht => ?_⟩⟩, rfl, fun i y u hy hu => ?_⟩
  · match i, ht with
    | 0, ht =>
      simp only [List.map_cons, List.getElem?_cons_zero, Option.some.injEq] at ht
      subst ht
      exact ⟨cell_blk hb rfl, cell_blk hb rfl, cell_blk hb rfl, cell_blk hb rfl, cell_blk hb rfl, cell_blk hb rfl⟩
    | 1, ht =>
      simp only [List.map_cons, List.map_nil, List.getElem?_cons_succ, List.getElem?_cons_zero, Option.some.injEq] at ht
      subst ht
      exact ⟨cell_blk hb rfl, cell_blk hb rfl, cell_blk hb rfl, cell_blk hb rfl, cell_blk hb rfl, cell_blk hb rfl⟩
    | i + 2, ht => simp at ht
  · match i, hy, hu with
    | 0, hy, hu =>
      simp only [List.getElem?_cons_zero, Option.some.injEq] at hy hu
      subst hy hu
      exact ha
    | 1, hy, hu =>
      simp only [List.getElem?_cons_succ, List.getElem?_cons_zero, Option.some.injEq] at hy hu
      subst hy hu
      exact hb2
    | i + 2, hy, _ => simp at hy
theorem lex_row {W : World} {g : Nat} {t : Lat} {ts : List Lat} (hp : LDs W (.slice (some ⟨g, 0, none⟩) 2 2) ts) (ht : t = ⟨7, 0, 0, [], ts, []⟩) : LO W 7 0 0 none 0 0 (some ⟨g, 0, none⟩) 2 2 none 0 0 t := by
  subst ht
  exact ⟨rfl, rfl, rfl, ⟨by omega, by omega⟩, ⟨by omega, by omega⟩, ⟨by omega, by omega⟩, ⟨none, 0, rfl, Nat.le_refl _, by omega, fun h => by simp [ss, Lat.ns] at h⟩, by intro y hy; simp [Lat.ns] at hy, rfl, hp, hp.len.1, rur_nil W, by intro y hy; simp [Lat.rs] at hy, rfl⟩
def tn : Lat := ⟨2, 0, 9, [], [], []⟩
def ts : Lat := ⟨4, 0, 0, [], [], []⟩
def tx : Lat := ⟨7, 0, 0, [], [tn, ts], []⟩
def tl : Lat := ⟨7, 0, 0, [], [ts, tn], []⟩
theorem lo_n (w : World) : LO w 2 0 9 none 0 0 none 0 0 none 0 0 tn := lo_leaf 2 0 9 ⟨by omega, by omega⟩ ⟨by omega, by omega⟩ ⟨by omega, by omega⟩ w
theorem lo_s (w : World) : LO w 4 0 0 none 0 0 none 0 0 none 0 0 ts := lo_leaf 4 0 0 ⟨by omega, by omega⟩ ⟨by omega, by omega⟩ ⟨by omega, by omega⟩ w
theorem tn_ts : decide (tn = ts) = false := decide_eq_false (by intro h; cases h)
theorem seven_new (w : World) (o0 o1 o2 o3 o4 o5 o6 : Obj) : let W := (((((((w.alloc o0).alloc o1).alloc o2).alloc o3).alloc o4).alloc o5).alloc o6)
    W.heap.size = w.heap.size + 7 ∧ W.heap[w.heap.size]? = some o0 ∧ W.heap[w.heap.size + 1]? = some o1 ∧ W.heap[w.heap.size + 1 + 1]? = some o2 ∧ W.heap[w.heap.size + 1 + 1 + 1]? = some o3 ∧ W.heap[w.heap.size + 1 + 1 + 1 + 1]? = some o4 ∧ W.heap[w.heap.size + 1 + 1 + 1 + 1 + 1]? = some o5 ∧ W.heap[w.heap.size + 1 + 1 + 1 + 1 + 1 + 1]? = some o6 := by
  intro W
  have hs : W.heap.size = w.heap.size + 7 := by simp [W]
  obtain ⟨a0, a1, a2⟩ := three_new w o0 o1 o2
  obtain ⟨b0, b1, b2⟩ := three_new (((w.alloc o0).alloc o1).alloc o2) o3 o4 o5
  have hs3 : (((w.alloc o0).alloc o1).alloc o2).heap.size = w.heap.size + 1 + 1 + 1 := by simp
  have hs6 : ((((((w.alloc o0).alloc o1).alloc o2).alloc o3).alloc o4).alloc o5).heap.size = w.heap.size + 1 + 1 + 1 + 1 + 1 + 1 := by simp
  rw [hs3] at b0 b1 b2
  have c6 := heap_alloc_new ((((((w.alloc o0).alloc o1).alloc o2).alloc o3).alloc o4).alloc o5) o6
  rw [hs6] at c6
  have up : ∀ k, k < w.heap.size + 1 + 1 + 1 + 1 + 1 + 1 → W.heap[k]? = ((((((w.alloc o0).alloc o1).alloc o2).alloc o3).alloc o4).alloc o5).heap[k]? := fun k hk => (bel_alloc _ o6).block k (by rw [hs6]; exact hk)
  have up3 : ∀ k, k < w.heap.size + 1 + 1 + 1 → ((((((w.alloc o0).alloc o1).alloc o2).alloc o3).alloc o4).alloc o5).heap[k]? = (((w.alloc o0).alloc o1).alloc o2).heap[k]? := fun k hk =>
    ((bel_alloc _ o5).block k (by simp; omega)).trans (((bel_alloc _ o4).block k (by simp; omega)).trans ((bel_alloc _ o3).block k (by rw [hs3]; exact hk)))
  exact ⟨hs, (up _ (by omega)).trans ((up3 _ (by omega)).trans a0), (up _ (by omega)).trans ((up3 _ (by omega)).trans a1), (up _ (by omega)).trans ((up3 _ (by omega)).trans a2), (up _ (by omega)).trans b0, (up _ (by omega)).trans b1, (up _ (by omega)).trans b2, c6⟩
set_option maxRecDepth 100000 in
set_option maxHeartbeats 6400000 in
theorem awake_any (w : World) : Calls Try.prog 5 #[] w (BoP true w) := by
  have Z := seven_new w (.cells #[.int .i64 2, .int .i64 0, .int .i64 9, .slice none 0 0, .slice none 0 0, .slice none 0 0] 26) (.cells #[.int .i64 4, .int .i64 0, .int .i64 0, .slice none 0 0, .slice none 0 0, .slice none 0 0] 26) (.cells #[.int .i64 2, .int .i64 0, .int .i64 9, .slice none 0 0, .slice none 0 0, .slice none 0 0, .int .i64 4, .int .i64 0, .int .i64 0, .slice none 0 0, .slice none 0 0, .slice none 0 0] 26) (.cells #[.int .i64 7, .int .i64 0, .int .i64 0, .slice none 0 0, .slice (some ⟨w.heap.size + 1 + 1, 0, none⟩) 2 2, .slice none 0 0] 26) (.cells #[.string { data := #[98] }, .string { data := #[97] }] 9) (.cells #[.int .i64 1, .int .i64 0, .int .i64 0, .slice none 0 0, .slice none 0 0, .slice none 0 0, .int .i64 4, .int .i64 0, .int .i64 0, .slice none 0 0, .slice none 0 0, .slice none 0 0] 26) (.cells #[.int .i64 6, .int .i64 0, .int .i64 0, .slice (some ⟨w.heap.size + 1 + 1 + 1 + 1, 0, none⟩) 2 2, .slice (some ⟨w.heap.size + 1 + 1 + 1 + 1 + 1, 0, none⟩) 2 2, .slice none 0 0] 26)
  simp only at Z
  obtain ⟨zs, z0, z1, z2, z3, z4, z5, z6⟩ := Z
  have HBW : Hid (Below w.heap.size w (((((((w.alloc (.cells #[.int .i64 2, .int .i64 0, .int .i64 9, .slice none 0 0, .slice none 0 0, .slice none 0 0] 26)).alloc (.cells #[.int .i64 4, .int .i64 0, .int .i64 0, .slice none 0 0, .slice none 0 0, .slice none 0 0] 26)).alloc (.cells #[.int .i64 2, .int .i64 0, .int .i64 9, .slice none 0 0, .slice none 0 0, .slice none 0 0, .int .i64 4, .int .i64 0, .int .i64 0, .slice none 0 0, .slice none 0 0, .slice none 0 0] 26)).alloc (.cells #[.int .i64 7, .int .i64 0, .int .i64 0, .slice none 0 0, .slice (some ⟨w.heap.size + 1 + 1, 0, none⟩) 2 2, .slice none 0 0] 26)).alloc (.cells #[.string { data := #[98] }, .string { data := #[97] }] 9)).alloc (.cells #[.int .i64 1, .int .i64 0, .int .i64 0, .slice none 0 0, .slice none 0 0, .slice none 0 0, .int .i64 4, .int .i64 0, .int .i64 0, .slice none 0 0, .slice none 0 0, .slice none 0 0] 26)).alloc (.cells #[.int .i64 6, .int .i64 0, .int .i64 0, .slice (some ⟨w.heap.size + 1 + 1 + 1 + 1, 0, none⟩) 2 2, .slice (some ⟨w.heap.size + 1 + 1 + 1 + 1 + 1, 0, none⟩) 2 2, .slice none 0 0] 26))) := hid_of ⟨rfl, rfl, rfl, by rw [zs]; omega, fun k hk => by
    refine ((bel_alloc _ _).block k (by simp; omega)).trans (((bel_alloc _ _).block k (by simp; omega)).trans (((bel_alloc _ _).block k (by simp; omega)).trans (((bel_alloc _ _).block k (by simp; omega)).trans (((bel_alloc _ _).block k (by simp; omega)).trans (((bel_alloc _ _).block k (by simp; omega)).trans ((bel_alloc _ _).block k hk))))))⟩
  obtain ⟨W, hW⟩ : ∃ W, W = (((((((w.alloc (.cells #[.int .i64 2, .int .i64 0, .int .i64 9, .slice none 0 0, .slice none 0 0, .slice none 0 0] 26)).alloc (.cells #[.int .i64 4, .int .i64 0, .int .i64 0, .slice none 0 0, .slice none 0 0, .slice none 0 0] 26)).alloc (.cells #[.int .i64 2, .int .i64 0, .int .i64 9, .slice none 0 0, .slice none 0 0, .slice none 0 0, .int .i64 4, .int .i64 0, .int .i64 0, .slice none 0 0, .slice none 0 0, .slice none 0 0] 26)).alloc (.cells #[.int .i64 7, .int .i64 0, .int .i64 0, .slice none 0 0, .slice (some ⟨w.heap.size + 1 + 1, 0, none⟩) 2 2, .slice none 0 0] 26)).alloc (.cells #[.string { data := #[98] }, .string { data := #[97] }] 9)).alloc (.cells #[.int .i64 1, .int .i64 0, .int .i64 0, .slice none 0 0, .slice none 0 0, .slice none 0 0, .int .i64 4, .int .i64 0, .int .i64 0, .slice none 0 0, .slice none 0 0, .slice none 0 0] 26)).alloc (.cells #[.int .i64 6, .int .i64 0, .int .i64 0, .slice (some ⟨w.heap.size + 1 + 1 + 1 + 1, 0, none⟩) 2 2, .slice (some ⟨w.heap.size + 1 + 1 + 1 + 1 + 1, 0, none⟩) 2 2, .slice none 0 0] 26)) := ⟨_, rfl⟩
  have HW := hid_of hW
  rw [← hW] at zs z0 z1 z2 z3 z4 z5 z6 HBW
  have HN : Hid (∀ wz, Below W.heap.size W wz → wz.cell? ⟨w.heap.size, 0, none⟩ = some (.int .i64 2) ∧ wz.cell? ⟨w.heap.size, 1, none⟩ = some (.int .i64 0) ∧ wz.cell? ⟨w.heap.size, 2, none⟩ = some (.int .i64 9) ∧ wz.cell? ⟨w.heap.size, 3, none⟩ = some (.slice none 0 0) ∧ wz.cell? ⟨w.heap.size, 4, none⟩ = some (.slice none 0 0) ∧ wz.cell? ⟨w.heap.size, 5, none⟩ = some (.slice none 0 0)) := hid_of (fun wz hz => ⟨blk_kept (cs := [.int .i64 2, .int .i64 0, .int .i64 9, .slice none 0 0, .slice none 0 0, .slice none 0 0]) z0 hz rfl, blk_kept (cs := [.int .i64 2, .int .i64 0, .int .i64 9, .slice none 0 0, .slice none 0 0, .slice none 0 0]) z0 hz rfl, blk_kept (cs := [.int .i64 2, .int .i64 0, .int .i64 9, .slice none 0 0, .slice none 0 0, .slice none 0 0]) z0 hz rfl, blk_kept (cs := [.int .i64 2, .int .i64 0, .int .i64 9, .slice none 0 0, .slice none 0 0, .slice none 0 0]) z0 hz rfl, blk_kept (cs := [.int .i64 2, .int .i64 0, .int .i64 9, .slice none 0 0, .slice none 0 0, .slice none 0 0]) z0 hz rfl, blk_kept (cs := [.int .i64 2, .int .i64 0, .int .i64 9, .slice none 0 0, .slice none 0 0, .slice none 0 0]) z0 hz rfl⟩)
  have HS : Hid (∀ wz, Below W.heap.size W wz → wz.cell? ⟨w.heap.size + 1, 0, none⟩ = some (.int .i64 4) ∧ wz.cell? ⟨w.heap.size + 1, 1, none⟩ = some (.int .i64 0) ∧ wz.cell? ⟨w.heap.size + 1, 2, none⟩ = some (.int .i64 0) ∧ wz.cell? ⟨w.heap.size + 1, 3, none⟩ = some (.slice none 0 0) ∧ wz.cell? ⟨w.heap.size + 1, 4, none⟩ = some (.slice none 0 0) ∧ wz.cell? ⟨w.heap.size + 1, 5, none⟩ = some (.slice none 0 0)) := hid_of (fun wz hz => ⟨blk_kept (cs := [.int .i64 4, .int .i64 0, .int .i64 0, .slice none 0 0, .slice none 0 0, .slice none 0 0]) z1 hz rfl, blk_kept (cs := [.int .i64 4, .int .i64 0, .int .i64 0, .slice none 0 0, .slice none 0 0, .slice none 0 0]) z1 hz rfl, blk_kept (cs := [.int .i64 4, .int .i64 0, .int .i64 0, .slice none 0 0, .slice none 0 0, .slice none 0 0]) z1 hz rfl, blk_kept (cs := [.int .i64 4, .int .i64 0, .int .i64 0, .slice none 0 0, .slice none 0 0, .slice none 0 0]) z1 hz rfl, blk_kept (cs := [.int .i64 4, .int .i64 0, .int .i64 0, .slice none 0 0, .slice none 0 0, .slice none 0 0]) z1 hz rfl, blk_kept (cs := [.int .i64 4, .int .i64 0, .int .i64 0, .slice none 0 0, .slice none 0 0, .slice none 0 0]) z1 hz rfl⟩)
  have HX : Hid (∀ wz, Below W.heap.size W wz → wz.cell? ⟨w.heap.size + 1 + 1 + 1, 0, none⟩ = some (.int .i64 7) ∧ wz.cell? ⟨w.heap.size + 1 + 1 + 1, 1, none⟩ = some (.int .i64 0) ∧ wz.cell? ⟨w.heap.size + 1 + 1 + 1, 2, none⟩ = some (.int .i64 0) ∧ wz.cell? ⟨w.heap.size + 1 + 1 + 1, 3, none⟩ = some (.slice none 0 0) ∧ wz.cell? ⟨w.heap.size + 1 + 1 + 1, 4, none⟩ = some (.slice (some ⟨w.heap.size + 1 + 1, 0, none⟩) 2 2) ∧ wz.cell? ⟨w.heap.size + 1 + 1 + 1, 5, none⟩ = some (.slice none 0 0)) := hid_of (fun wz hz => ⟨blk_kept (cs := [.int .i64 7, .int .i64 0, .int .i64 0, .slice none 0 0, .slice (some ⟨w.heap.size + 1 + 1, 0, none⟩) 2 2, .slice none 0 0]) z3 hz rfl, blk_kept (cs := [.int .i64 7, .int .i64 0, .int .i64 0, .slice none 0 0, .slice (some ⟨w.heap.size + 1 + 1, 0, none⟩) 2 2, .slice none 0 0]) z3 hz rfl, blk_kept (cs := [.int .i64 7, .int .i64 0, .int .i64 0, .slice none 0 0, .slice (some ⟨w.heap.size + 1 + 1, 0, none⟩) 2 2, .slice none 0 0]) z3 hz rfl, blk_kept (cs := [.int .i64 7, .int .i64 0, .int .i64 0, .slice none 0 0, .slice (some ⟨w.heap.size + 1 + 1, 0, none⟩) 2 2, .slice none 0 0]) z3 hz rfl, blk_kept (cs := [.int .i64 7, .int .i64 0, .int .i64 0, .slice none 0 0, .slice (some ⟨w.heap.size + 1 + 1, 0, none⟩) 2 2, .slice none 0 0]) z3 hz rfl, blk_kept (cs := [.int .i64 7, .int .i64 0, .int .i64 0, .slice none 0 0, .slice (some ⟨w.heap.size + 1 + 1, 0, none⟩) 2 2, .slice none 0 0]) z3 hz rfl⟩)
  have LXW : Hid (LO W 7 0 0 none 0 0 (some ⟨w.heap.size + 1 + 1, 0, none⟩) 2 2 none 0 0 tx) := hid_of (lex_row (pair_row ⟨2, 0, 9, .slice none 0 0, .slice none 0 0, .slice none 0 0⟩ ⟨4, 0, 0, .slice none 0 0, .slice none 0 0, .slice none 0 0⟩ z2 (lo_n W).ld (lo_s W).ld) rfl)
  have RN : Rd W (.slice (some ⟨w.heap.size + 1 + 1 + 1 + 1, 0, none⟩) 2 2) (ss [[98], [97]]) := ⟨_, _, rfl, by simp [ss], by simp [ss], fun _ => ⟨_, _, rfl, lt_of_block z4, fun j u hu => by
    rw [Nat.zero_add]
    match j, hu with
    | 0, hu => simp only [ss, List.map_cons, List.getElem?_cons_zero, Option.some.injEq] at hu; subst hu; exact cell_blk (cs := [.string { data := #[98] }, .string { data := #[97] }]) z4 rfl
    | 1, hu => simp only [ss, List.map_cons, List.map_nil, List.getElem?_cons_succ, List.getElem?_cons_zero, Option.some.injEq] at hu; subst hu; exact cell_blk (cs := [.string { data := #[98] }, .string { data := #[97] }]) z4 rfl
    | j + 2, hu => simp [ss] at hu⟩⟩
  have FI := hid_of (field_yes 0 0 (some ⟨w.heap.size + 1 + 1 + 1 + 1, 0, none⟩) 2 2 (w.heap.size + 1 + 1 + 1 + 1 + 1) 0 2 2 none 0 0 4 0 0 none 0 0 none 0 0 none 0 0 [[98], [97]] [97] 1 W RN (.inl ⟨1, rfl, rfl, by intro j hj; match j, hj with | 0, _ => simp⟩) (by omega) (by omega)
    (fun w' h => ⟨blk_kept (cs := [.int .i64 1, .int .i64 0, .int .i64 0, .slice none 0 0, .slice none 0 0, .slice none 0 0, .int .i64 4, .int .i64 0, .int .i64 0, .slice none 0 0, .slice none 0 0, .slice none 0 0]) z5 h rfl, blk_kept (cs := [.int .i64 1, .int .i64 0, .int .i64 0, .slice none 0 0, .slice none 0 0, .slice none 0 0, .int .i64 4, .int .i64 0, .int .i64 0, .slice none 0 0, .slice none 0 0, .slice none 0 0]) z5 h rfl, blk_kept (cs := [.int .i64 1, .int .i64 0, .int .i64 0, .slice none 0 0, .slice none 0 0, .slice none 0 0, .int .i64 4, .int .i64 0, .int .i64 0, .slice none 0 0, .slice none 0 0, .slice none 0 0]) z5 h rfl, blk_kept (cs := [.int .i64 1, .int .i64 0, .int .i64 0, .slice none 0 0, .slice none 0 0, .slice none 0 0, .int .i64 4, .int .i64 0, .int .i64 0, .slice none 0 0, .slice none 0 0, .slice none 0 0]) z5 h rfl, blk_kept (cs := [.int .i64 1, .int .i64 0, .int .i64 0, .slice none 0 0, .slice none 0 0, .slice none 0 0, .int .i64 4, .int .i64 0, .int .i64 0, .slice none 0 0, .slice none 0 0, .slice none 0 0]) z5 h rfl, blk_kept (cs := [.int .i64 1, .int .i64 0, .int .i64 0, .slice none 0 0, .slice none 0 0, .slice none 0 0, .int .i64 4, .int .i64 0, .int .i64 0, .slice none 0 0, .slice none 0 0, .slice none 0 0]) z5 h rfl⟩) (fun cells _ => cells = #[.int .i64 4, .int .i64 0, .int .i64 0, .slice none 0 0, .slice none 0 0, .slice none 0 0]) (fun wz hz _ => (clone_leaf 4 0 0 wz).mono (by
      rintro e w' ⟨rfl, h2⟩
      exact ⟨_, rfl, rfl, by simp [Value.oneCell'], h2, rfl⟩)))
  clear z0 z1 z2 z3 z4 z5 z6 RN
  have HF : Hid (∀ w1 wz : World, Below (w1.alloc (.cells #[.int .i64 4, .int .i64 0, .int .i64 0, .slice none 0 0, .slice none 0 0, .slice none 0 0] 26)).heap.size (w1.alloc (.cells #[.int .i64 4, .int .i64 0, .int .i64 0, .slice none 0 0, .slice none 0 0, .slice none 0 0] 26)) wz → wz.cell? ⟨w1.heap.size, 0, none⟩ = some (.int .i64 4)) := hid_of (fun w1 wz hz => blk_kept (cs := [.int .i64 4, .int .i64 0, .int .i64 0, .slice none 0 0, .slice none 0 0, .slice none 0 0]) (heap_alloc_new w1 _) hz rfl)
  have HD : Hid (∀ w2 wz : World, Below (w2.alloc (.cells #[.int .i64 2, .int .i64 0, .int .i64 9, .slice none 0 0, .slice none 0 0, .slice none 0 0] 26)).heap.size (w2.alloc (.cells #[.int .i64 2, .int .i64 0, .int .i64 9, .slice none 0 0, .slice none 0 0, .slice none 0 0] 26)) wz → wz.cell? ⟨w2.heap.size, 0, none⟩ = some (.int .i64 2) ∧ wz.cell? ⟨w2.heap.size, 1, none⟩ = some (.int .i64 0) ∧ wz.cell? ⟨w2.heap.size, 2, none⟩ = some (.int .i64 9) ∧ wz.cell? ⟨w2.heap.size, 3, none⟩ = some (.slice none 0 0) ∧ wz.cell? ⟨w2.heap.size, 4, none⟩ = some (.slice none 0 0) ∧ wz.cell? ⟨w2.heap.size, 5, none⟩ = some (.slice none 0 0)) := hid_of (fun w2 wz hz => ⟨blk_kept (cs := [.int .i64 2, .int .i64 0, .int .i64 9, .slice none 0 0, .slice none 0 0, .slice none 0 0]) (heap_alloc_new w2 _) hz rfl, blk_kept (cs := [.int .i64 2, .int .i64 0, .int .i64 9, .slice none 0 0, .slice none 0 0, .slice none 0 0]) (heap_alloc_new w2 _) hz rfl, blk_kept (cs := [.int .i64 2, .int .i64 0, .int .i64 9, .slice none 0 0, .slice none 0 0, .slice none 0 0]) (heap_alloc_new w2 _) hz rfl, blk_kept (cs := [.int .i64 2, .int .i64 0, .int .i64 9, .slice none 0 0, .slice none 0 0, .slice none 0 0]) (heap_alloc_new w2 _) hz rfl, blk_kept (cs := [.int .i64 2, .int .i64 0, .int .i64 9, .slice none 0 0, .slice none 0 0, .slice none 0 0]) (heap_alloc_new w2 _) hz rfl, blk_kept (cs := [.int .i64 2, .int .i64 0, .int .i64 9, .slice none 0 0, .slice none 0 0, .slice none 0 0]) (heap_alloc_new w2 _) hz rfl⟩)
  have DC : Hid (∀ w1 : World, Calls Try.prog 11 #[.slice (some ⟨w1.heap.size + 1, 0, none⟩) 3 3] ((w1.alloc (.cells #[.int .i64 4, .int .i64 0, .int .i64 0, .slice none 0 0, .slice none 0 0, .slice none 0 0] 26)).alloc (.cells #[.int .u8 2, .int .u8 0, .int .u8 18] 5)) fun e w' => e = .returned (.tuple #[.agg #[.int .i64 2, .int .i64 0, .int .i64 9, .slice none 0 0, .slice none 0 0, .slice none 0 0], .int .i64 0]) ∧ Below ((w1.alloc (.cells #[.int .i64 4, .int .i64 0, .int .i64 0, .slice none 0 0, .slice none 0 0, .slice none 0 0] 26)).alloc (.cells #[.int .u8 2, .int .u8 0, .int .u8 18] 5)).heap.size ((w1.alloc (.cells #[.int .i64 4, .int .i64 0, .int .i64 0, .slice none 0 0, .slice none 0 0, .slice none 0 0] 26)).alloc (.cells #[.int .u8 2, .int .u8 0, .int .u8 18] 5)) w') := hid_of (fun w1 => by
    have q := (two_new w1 (.cells #[.int .i64 4, .int .i64 0, .int .i64 0, .slice none 0 0, .slice none 0 0, .slice none 0 0] 26) (.cells #[.int .u8 2, .int .u8 0, .int .u8 18] 5)).2
    have u0 : Wr.unzig 0 = 0 := by rfl
    have u1 : Wr.unzig 18 = 9 := by rfl
    have := decmax_any (some ⟨w1.heap.size + 1, 0, none⟩) 3 1 1 1 0 18 [2, 0, 18] ((w1.alloc (.cells #[.int .i64 4, .int .i64 0, .int .i64 0, .slice none 0 0, .slice none 0 0, .slice none 0 0] 26)).alloc (.cells #[.int .u8 2, .int .u8 0, .int .u8 18] 5)) (by intro x hx; simp at hx; omega) (by simp)
      (fun _ => ⟨_, rfl, fun w' hb j v hv => by rw [Addr.add_mid, Nat.zero_add]; exact blk_kept (cs := Wr.bs [2, 0, 18]) q hb hv⟩)
      (by rfl) (by rfl) (by rfl) (by rfl) (by rw [u0]; exact ⟨by omega, by omega⟩) (by rw [u1]; exact ⟨by omega, by omega⟩) (by rw [u0, u1]; kernel_rfl)
    rw [u0, u1] at this
    exact this)
  have EN : Hid (∀ wz : World, Calls Try.prog 10 #[.agg #[.int .i64 2, .int .i64 0, .int .i64 9, .slice none 0 0, .slice none 0 0, .slice none 0 0]] wz fun e w' => ∃ g, e = .returned (.slice (some ⟨g, 0, none⟩) 3 3) ∧ w'.heap[g]? = some (.cells (Wr.bs [2, 0, 18]).toArray 5 (0, 0)) ∧ Below wz.heap.size wz w' ∧ wz.heap.size ≤ g) := hid_of (fun wz =>
    encmax_any 0 9 tn rfl (by kernel_rfl) wz ⟨by omega, by omega⟩ ⟨by omega, by omega⟩ [2, 0, 18] (by
      rw [show Wr.zig 0 = 0 by rfl, show Wr.zig 9 = 18 by rfl, Wr.enc_lt (by omega), Wr.enc_lt (by omega), Wr.enc_lt (by omega)]; rfl))
  have CK1 : Hid (∀ wz : World, Calls Try.prog 6 #[.agg #[.int .i64 2, .int .i64 3, .int .i64 2, .slice none 0 0, .slice none 0 0, .slice none 0 0]] wz (ErP 5 wz)) := hid_of (fun wz => by
    have := check_any _ 2 3 2 none 0 0 none 0 0 none 0 0 wz (lo_leaf 2 3 2 ⟨by omega, by omega⟩ ⟨by omega, by omega⟩ ⟨by omega, by omega⟩ wz)
    rwa [show chkL ⟨2, 3, 2, [], [], []⟩ = 5 by kernel_rfl] at this)
  have CN : Hid (∀ wz : World, Calls Try.prog 14 #[.agg #[.int .i64 2, .int .i64 0, .int .i64 9, .slice none 0 0, .slice none 0 0, .slice none 0 0]] wz (BoP true wz)) := hid_of (fun wz => by
    have := chain_any tn 2 0 9 none 0 0 none 0 0 none 0 0 wz (lo_n wz)
    rwa [show chainL tn = true by kernel_rfl] at this)
  have CX : Hid (∀ wz : World, Below W.heap.size W wz → Calls Try.prog 14 #[.agg #[.int .i64 7, .int .i64 0, .int .i64 0, .slice none 0 0, .slice (some ⟨w.heap.size + 1 + 1, 0, none⟩) 2 2, .slice none 0 0]] wz (BoP false wz)) := hid_of (fun wz hz => by
    have := chain_any tx 7 0 0 none 0 0 _ 2 2 none 0 0 wz (LXW.out.at hz)
    rwa [show chainL tx = false by kernel_rfl] at this)
  have FN : Hid (∀ wz : World, Calls Try.prog 15 #[.agg #[.int .i64 2, .int .i64 0, .int .i64 9, .slice none 0 0, .slice none 0 0, .slice none 0 0]] wz (BoP true wz)) := hid_of (fun wz => by
    have := finite_any tn 2 0 9 none 0 0 none 0 0 none 0 0 wz (lo_n wz)
    rwa [show finL tn = true by kernel_rfl] at this)
  have FX : Hid (∀ wz : World, Below W.heap.size W wz → Calls Try.prog 15 #[.agg #[.int .i64 7, .int .i64 0, .int .i64 0, .slice none 0 0, .slice (some ⟨w.heap.size + 1 + 1, 0, none⟩) 2 2, .slice none 0 0]] wz (BoP false wz)) := hid_of (fun wz hz => by
    have := finite_any tx 7 0 0 none 0 0 _ 2 2 none 0 0 wz (LXW.out.at hz)
    rwa [show finL tx = false by kernel_rfl] at this)
  have DX : Hid (∀ wz : World, Below W.heap.size W wz → Calls Try.prog 16 #[.agg #[.int .i64 7, .int .i64 0, .int .i64 0, .slice none 0 0, .slice (some ⟨w.heap.size + 1 + 1, 0, none⟩) 2 2, .slice none 0 0]] wz (BoP true wz)) := hid_of (fun wz hz => by
    have := dist_any tx 7 0 0 none 0 0 _ 2 2 none 0 0 wz (LXW.out.at hz)
    rwa [show distL tx = true by kernel_rfl] at this)
  have PX : Hid (∀ wz : World, Below W.heap.size W wz → Calls Try.prog 17 #[.agg #[.int .i64 7, .int .i64 0, .int .i64 0, .slice none 0 0, .slice (some ⟨w.heap.size + 1 + 1, 0, none⟩) 2 2, .slice none 0 0]] wz fun e w' => e = .returned (.int .i64 2) ∧ Below wz.heap.size wz w') := hid_of (fun wz hz => by
    have hd : depthL tx = 2 := by kernel_rfl
    have := depth_any tx 7 0 0 none 0 0 _ 2 2 none 0 0 wz (LXW.out.at hz) (by rw [hd]; omega)
    unfold DepP at this
    rwa [hd] at this)
  have EQ1 : Hid (∀ wz : World, Calls Try.prog 8 #[.agg #[.int .i64 2, .int .i64 0, .int .i64 9, .slice none 0 0, .slice none 0 0, .slice none 0 0], .agg #[.int .i64 2, .int .i64 0, .int .i64 9, .slice none 0 0, .slice none 0 0, .slice none 0 0]] wz (BoP true wz)) := hid_of (fun wz => by
    have := equal_any tn tn 2 0 9 none 0 0 none 0 0 none 0 0 2 0 9 none 0 0 none 0 0 none 0 0 wz (lo_n wz) (lo_n wz)
    rwa [show decide (tn = tn) = true by simp] at this)
  have EQ2 : Hid (∀ wz : World, Calls Try.prog 8 #[.agg #[.int .i64 2, .int .i64 0, .int .i64 9, .slice none 0 0, .slice none 0 0, .slice none 0 0], .agg #[.int .i64 4, .int .i64 0, .int .i64 0, .slice none 0 0, .slice none 0 0, .slice none 0 0]] wz (BoP false wz)) := hid_of (fun wz => by
    have := equal_any tn ts 2 0 9 none 0 0 none 0 0 none 0 0 4 0 0 none 0 0 none 0 0 none 0 0 wz (lo_n wz) (lo_s wz)
    rwa [tn_ts] at this)
  have CK2 : Hid (∀ wz : World, Calls Try.prog 6 #[.agg #[.int .i64 7, .int .i64 0, .int .i64 0, .slice none 0 0, .slice (some ⟨wz.heap.size, 0, none⟩) 2 2, .slice none 0 0]] (wz.alloc (.cells #[.int .i64 4, .int .i64 0, .int .i64 0, .slice none 0 0, .slice none 0 0, .slice none 0 0, .int .i64 2, .int .i64 0, .int .i64 9, .slice none 0 0, .slice none 0 0, .slice none 0 0] 26)) (ErP 4 (wz.alloc (.cells #[.int .i64 4, .int .i64 0, .int .i64 0, .slice none 0 0, .slice none 0 0, .slice none 0 0, .int .i64 2, .int .i64 0, .int .i64 9, .slice none 0 0, .slice none 0 0, .slice none 0 0] 26)))) := hid_of (fun wz => by
    have := check_any tl 7 0 0 none 0 0 _ 2 2 none 0 0 (wz.alloc (.cells #[.int .i64 4, .int .i64 0, .int .i64 0, .slice none 0 0, .slice none 0 0, .slice none 0 0, .int .i64 2, .int .i64 0, .int .i64 9, .slice none 0 0, .slice none 0 0, .slice none 0 0] 26)) (lex_row (pair_row ⟨4, 0, 0, .slice none 0 0, .slice none 0 0, .slice none 0 0⟩ ⟨2, 0, 9, .slice none 0 0, .slice none 0 0, .slice none 0 0⟩ (heap_alloc_new wz _) (lo_s _).ld (lo_n _).ld) rfl)
    rwa [show chkL tl = 4 by kernel_rfl] at this)
  have HSTR : Hid (strOfNums [2, 0, 18] = { data := #[2, 0, 18] }) := hid_of (by rfl)
  have FI2 : Hid (Calls Try.prog 7 #[.agg #[.int .i64 6, .int .i64 0, .int .i64 0, .slice (some ⟨w.heap.size + 1 + 1 + 1 + 1, 0, none⟩) 2 2, .slice (some ⟨w.heap.size + 1 + 1 + 1 + 1 + 1, 0, none⟩) 2 2, .slice none 0 0], .string { data := #[97] }] W fun e w' => e = .returned (.tuple #[.agg #[.int .i64 4, .int .i64 0, .int .i64 0, .slice none 0 0, .slice none 0 0, .slice none 0 0], .bool true]) ∧ Below W.heap.size W w') := hid_of (FI.out.mono (by
    rintro e w' ⟨cells, w3, rfl, rfl, _, h⟩
    exact ⟨rfl, h⟩))
  clear FI
  go_enter Try.func5, Try.ntmps5
  clear hW
  go_wp2_with (first
    | (go_at_call 7; ((rw [← HW.out]); (refine (FI2.out).mono ?_); (rintro e w1 ⟨rfl, h1⟩); (have B1 := hid_of h1); clear h1))
    | (go_at_call 11; ((with_reducible refine (DC.out w1).mono ?_); (rintro e w2 ⟨rfl, h2⟩); (have XF0 : Hid (Below (w1.alloc (.cells #[.int .i64 4, .int .i64 0, .int .i64 0, .slice none 0 0, .slice none 0 0, .slice none 0 0] 26)).heap.size (w1.alloc (.cells #[.int .i64 4, .int .i64 0, .int .i64 0, .slice none 0 0, .slice none 0 0, .slice none 0 0] 26)) w2) := hid_of ((bel_alloc _ _).trans (h2.mono (by simp)))); (have XF : Hid (Below (w1.alloc (.cells #[.int .i64 4, .int .i64 0, .int .i64 0, .slice none 0 0, .slice none 0 0, .slice none 0 0] 26)).heap.size (w1.alloc (.cells #[.int .i64 4, .int .i64 0, .int .i64 0, .slice none 0 0, .slice none 0 0, .slice none 0 0] 26)) (w2.alloc (.cells #[.int .i64 2, .int .i64 0, .int .i64 9, .slice none 0 0, .slice none 0 0, .slice none 0 0] 26))) := hid_of (XF0.out.trans ((bel_alloc w2 _).mono XF0.out.size))); (have XW : Hid (Below W.heap.size W (w2.alloc (.cells #[.int .i64 2, .int .i64 0, .int .i64 9, .slice none 0 0, .slice none 0 0, .slice none 0 0] 26))) := hid_of (((B1.out.trans ((bel_alloc w1 _).mono B1.out.size))).trans (XF.out.mono (by have := B1.out.size; simp; omega)))); (have E2 : Hid (Below (w2.alloc (.cells #[.int .i64 2, .int .i64 0, .int .i64 9, .slice none 0 0, .slice none 0 0, .slice none 0 0] 26)).heap.size (w2.alloc (.cells #[.int .i64 2, .int .i64 0, .int .i64 9, .slice none 0 0, .slice none 0 0, .slice none 0 0] 26)) (w2.alloc (.cells #[.int .i64 2, .int .i64 0, .int .i64 9, .slice none 0 0, .slice none 0 0, .slice none 0 0] 26))) := hid_of (Below.refl _ _)); (obtain ⟨n20, n21, n22, n23, n24, n25⟩ := HN.out (w2.alloc (.cells #[.int .i64 2, .int .i64 0, .int .i64 9, .slice none 0 0, .slice none 0 0, .slice none 0 0] 26)) XW.out); clear h2))
    | (go_at_call 10; ((with_reducible refine (EN.out _).mono ?_); (rintro e w3 ⟨g3, rfl, hg3, h3, _⟩); (have E3 := hid_of h3); (have G3 := hid_of hg3); (have cv := Wr.run_str w3 34 9 5 Try.underlying34 Try.underlying5 Try.underlying9 (some ⟨g3, 0, none⟩) [2, 0, 18] 3 (Wr.row_src G3.out)); (rw [HSTR.out] at cv); (simp only [List.length_cons, List.length_nil, Nat.zero_add, Nat.reduceAdd] at cv); clear h3 hg3 n20 n21 n22 n23 n24 n25))
    | (go_at_call 6; ((with_reducible refine (CK1.out _).mono ?_); (rintro e w4 ⟨rfl, h4⟩); (have E4 := hid_of (E3.out.trans (h4.mono E3.out.size))); (obtain ⟨n40, n41, n42, n43, n44, n45⟩ := HN.out w4 (XW.out.trans (E4.out.mono XW.out.size))); clear h4))
    | (go_at_call 14; ((with_reducible refine (CN.out _).mono ?_); (rintro e w5 ⟨rfl, h5⟩); (have E5 := hid_of (E4.out.trans (h5.mono E4.out.size))); (obtain ⟨x50, x51, x52, x53, x54, x55⟩ := HX.out w5 (XW.out.trans (E5.out.mono XW.out.size))); clear n40 n41 n42 n43 n44 n45; clear h5))
    | (go_at_call 14; ((with_reducible refine (CX.out _ (XW.out.trans (E5.out.mono XW.out.size))).mono ?_); (rintro e w6 ⟨rfl, h6⟩); (have E6 := hid_of (E5.out.trans (h6.mono E5.out.size))); (obtain ⟨n60, n61, n62, n63, n64, n65⟩ := HN.out w6 (XW.out.trans (E6.out.mono XW.out.size))); clear x50 x51 x52 x53 x54 x55; clear h6))
    | (go_at_call 15; ((with_reducible refine (FN.out _).mono ?_); (rintro e w7 ⟨rfl, h7⟩); (have E7 := hid_of (E6.out.trans (h7.mono E6.out.size))); (obtain ⟨x70, x71, x72, x73, x74, x75⟩ := HX.out w7 (XW.out.trans (E7.out.mono XW.out.size))); clear n60 n61 n62 n63 n64 n65; clear h7))
    | (go_at_call 15; ((with_reducible refine (FX.out _ (XW.out.trans (E7.out.mono XW.out.size))).mono ?_); (rintro e w8 ⟨rfl, h8⟩); (have E8 := hid_of (E7.out.trans (h8.mono E7.out.size))); (obtain ⟨x80, x81, x82, x83, x84, x85⟩ := HX.out w8 (XW.out.trans (E8.out.mono XW.out.size))); clear x70 x71 x72 x73 x74 x75; clear h8))
    | (go_at_call 16; ((with_reducible refine (DX.out _ (XW.out.trans (E8.out.mono XW.out.size))).mono ?_); (rintro e w9 ⟨rfl, h9⟩); (have E9 := hid_of (E8.out.trans (h9.mono E8.out.size))); (obtain ⟨x90, x91, x92, x93, x94, x95⟩ := HX.out w9 (XW.out.trans (E9.out.mono XW.out.size))); clear x80 x81 x82 x83 x84 x85; clear h9))
    | (go_at_call 17; ((with_reducible refine (PX.out _ (XW.out.trans (E9.out.mono XW.out.size))).mono ?_); (rintro e w10 ⟨rfl, h10⟩); (have E10 := hid_of (E9.out.trans (h10.mono E9.out.size))); (obtain ⟨n100, n101, n102, n103, n104, n105⟩ := HN.out w10 (XW.out.trans (E10.out.mono XW.out.size))); (obtain ⟨d100, d101, d102, d103, d104, d105⟩ := HD.out w2 w10 E10.out); (have f10 := HF.out w1 w10 (XF.out.trans (E10.out.mono XF.out.size))); clear x90 x91 x92 x93 x94 x95; clear h10))
    | (go_at_call 8; ((with_reducible refine (EQ1.out _).mono ?_); (rintro e w11 ⟨rfl, h11⟩); (have E11 := hid_of (E10.out.trans (h11.mono E10.out.size))); (obtain ⟨s110, s111, s112, s113, s114, s115⟩ := HS.out w11 (XW.out.trans (E11.out.mono XW.out.size))); (obtain ⟨d110, d111, d112, d113, d114, d115⟩ := HD.out w2 w11 E11.out); clear f10 d100 d101 d102 d103 d104 d105 n100 n101 n102 n103 n104 n105; clear h11))
    | (go_at_call 8; ((with_reducible refine (EQ2.out _).mono ?_); (rintro e w12 ⟨rfl, h12⟩); (have E12 := hid_of (E11.out.trans (h12.mono E11.out.size))); (obtain ⟨n120, n121, n122, n123, n124, n125⟩ := HN.out w12 (XW.out.trans (E12.out.mono XW.out.size))); (obtain ⟨s120, s121, s122, s123, s124, s125⟩ := HS.out w12 (XW.out.trans (E12.out.mono XW.out.size))); clear d110 d111 d112 d113 d114 d115 s110 s111 s112 s113 s114 s115; clear h12))
    | (go_at_call 6; ((with_reducible refine (CK2.out w12).mono ?_); (rintro e w13 ⟨rfl, h13⟩); (have E13 := hid_of (E12.out.trans (((bel_alloc w12 _).trans (h13.mono (by simp))).mono E12.out.size))); clear h13)))
  go_ret
  exact ⟨rfl, HBW.out.trans ((XW.out.trans (E13.out.mono XW.out.size)).mono HBW.out.size)⟩
end Go.Proofs.Ytdmonbcinlmljaa

/- What is asked of the parts of a description. Plain mathematics. -/
namespace Go.Proofs.Ytdmonbcinlmljaa
open Go.RowKit

mutual
theorem chkT_mono : ∀ (t : Lat) (d c d' c' : Nat), d' ≤ d → c' ≤ c → (chkT t d c).2 = 0 → (chkT t d' c').2 = 0 ∧ (chkT t d' c').1 + c = (chkT t d c).1 + c'
  | ⟨k, lo, hi, ns, ps, rs⟩, d, c, d', c', hd, hc, h => by
    rw [chkT] at h ⊢
    split at h
    · cases h
    · rename_i h1
      split at h
      · rename_i h2; exact absurd h h2
      · rename_i h2
        have := chkTs_mono ps (d + 1) (c + 1) (d' + 1) (c' + 1) (by omega) (by omega) h
        rw [if_neg (by omega), if_neg h2, chkT, if_neg h1, if_neg h2]
        exact ⟨this.1, by omega⟩
theorem chkTs_mono : ∀ (l : List Lat) (d c d' c' : Nat), d' ≤ d → c' ≤ c → (chkTs l d c).2 = 0 → (chkTs l d' c').2 = 0 ∧ (chkTs l d' c').1 + c = (chkTs l d c).1 + c'
  | [], d, c, d', c', hd, hc, h => by rw [chkTs, chkTs]; exact ⟨rfl, by simp only; omega⟩
  | p :: ps, d, c, d', c', hd, hc, h => by
    rw [chkTs] at h
    split at h
    · rename_i h2; exact absurd h h2
    · rename_i h2
      have h2 := Classical.not_not.1 h2
      have a := chkT_mono p d c d' c' hd hc h2
      have b := chkTs_mono ps d (chkT p d c).1 d' (chkT p d' c').1 hd (by omega) h
      rw [chkTs, if_neg (by rw [a.1]; simp), chkTs, if_neg (by rw [h2]; simp)]
      exact ⟨b.1, by omega⟩
end
mutual
theorem chkT_depth : ∀ (t : Lat) (d c : Nat), (chkT t d c).2 = 0 → depthL t + d ≤ 7
  | ⟨k, lo, hi, ns, ps, rs⟩, d, c, h => by
    rw [chkT] at h
    split at h
    · cases h
    · rename_i h1
      split at h
      · rename_i h2; exact absurd h h2
      · rw [depthL]
        have := chkTs_depth ps (d + 1) (c + 1) h
        omega
theorem chkTs_depth : ∀ (l : List Lat) (d c : Nat), (chkTs l d c).2 = 0 → depthsL l = 0 ∨ depthsL l + d ≤ 7
  | [], d, c, h => .inl (by rw [depthsL])
  | p :: ps, d, c, h => by
    rw [chkTs] at h
    split at h
    · rename_i h2; exact absurd h h2
    · rename_i h2
      have h2 := Classical.not_not.1 h2
      have a := chkT_depth p d c h2
      have b := chkTs_depth ps d _ h
      rw [depthsL]
      omega
end
/-- What is asked of the parts of a description without an error. -/
theorem parts_ok {t : Lat} (h : chkL t = 0) : depthL t ≤ 6 ∧ ∀ p ∈ t.ps, chkL p = 0 ∧ (distL t = true → distL p = true) ∧ (finL t = true → finL p = true) := by
  have hd := chkT_depth t 1 0 h
  have ho := okay_of t 1 0 h
  refine ⟨by omega, fun p hp => ?_⟩
  have h1 := h
  unfold chkL at h1
  rw [chkT_eq] at h1
  split at h1
  · cases h1
  · split at h1
    · rename_i h2; exact absurd h1 h2
    · obtain ⟨c', h3⟩ := chkTs_mem _ _ _ h1 p hp
      refine ⟨?_, fun hq => ?_, fun hq => ?_⟩
      · -- at any place: the place 1, 0
        have : ∀ (l : List Lat) (d c : Nat), (chkTs l d c).2 = 0 → 1 ≤ d → p ∈ l → chkL p = 0 := by
          intro l
          induction l with
          | nil => intro d c _ _ hp; cases hp
          | cons q l ih =>
            intro d c h hd hp
            rw [chkTs] at h
            split at h
            · rename_i h2; exact absurd h h2
            · rename_i h2
              rcases List.mem_cons.1 hp with rfl | hp
              · exact (chkT_mono p d c 1 0 hd (Nat.zero_le _) (Classical.not_not.1 h2)).1
              · exact ih _ _ h hd hp
        exact this t.ps _ _ h1 (by omega) hp
      · obtain ⟨k, lo, hi, ns, ps, rs⟩ := t
        rw [distL] at hq
        split at hq
        · cases hq
        · rw [distsL_all, List.all_eq_true] at hq
          exact hq p hp
      · cases ho with
        | mk h0 _ =>
          have hl := shape_leaf (node_shape h0)
          obtain ⟨k, lo, hi, ns, ps, rs⟩ := t
          simp only [Lat.k, Lat.ps] at hl hp
          rw [finL] at hq
          have hno : ps ≠ [] := fun e => by rw [e] at hp; cases hp
          have hk : ¬(k = 1 ∨ k = 2 ∨ k = 3 ∨ k = 10) := fun e => hno (hl (by omega))
          have hk2 : ¬(k = 4 ∨ k = 8) := fun e => hno (hl (by omega))
          rw [if_neg hk, if_neg hk2] at hq
          split at hq
          · rw [Bool.and_eq_true, finsL_all, List.all_eq_true] at hq
            exact hq.2 p hp
          · split at hq
            · rw [finsL_all, List.all_eq_true] at hq
              exact hq p hp
            · cases hq
end Go.Proofs.Ytdmonbcinlmljaa

/- Descriptions that came in, opened. What a row may take is asked of the form's own reach. -/
namespace Go.Proofs.Ytdmonbcinlmljaa
open Go.RowKit Go.ChangeShapes Go.WideShapes

theorem wf_r64 {n : Int} (h : (Lit.int .i64 n).wf = true) : R64 n := by
  have h1 : IntKind.i64.min = -9223372036854775808 := by rfl
  have h2 : IntKind.i64.max = 9223372036854775807 := by rfl
  have : (decide (IntKind.i64.min ≤ n) && decide (n ≤ IntKind.i64.max)) = true := h
  rw [h1, h2] at this
  simpa using this
section
variable {H : Type} {enc : TypeId × Value → H} {P : Program} {w : World} {base : Nat} {spare : TypeId → Bool} {held : Bool}
/-- Every weight is within the form's reach. -/
def Fits (P : Program) (t : TypeId) (d : DataW H) : Prop := ∀ n ∈ d.weights P t, n ≤ reachBytes
theorem fits_each : ∀ {ts : List TypeId} {ds : List (DataW H)}, (∀ n ∈ DataW.weightsEach P ts ds, n ≤ reachBytes) → ∀ (i : Nat) (t : TypeId) (d : DataW H), ts[i]? = some t → ds[i]? = some d → Fits P t d :=
  fun h _ _ _ ht hd n hn => h n (DataW.weights_mem_each ht hd n hn)
theorem fits_all : ∀ {e : TypeId} {ds : List (DataW H)}, (∀ n ∈ DataW.weightsAll P e ds, n ≤ reachBytes) → ∀ d ∈ ds, Fits P e d
  | _, [], _, d, hd => by cases hd
  | e, x :: r, h, d, hd => by
    simp only [DataW.weightsAll, List.mem_append] at h
    rcases List.mem_cons.1 hd with rfl | hd
    · exact fun n hn => h n (.inl hn)
    · exact fits_all (fun n hn => h n (.inr hn)) d hd
end
theorem Try.cellsLat : Try.prog.cellsOf 26 = 6 := by kernel_rfl
theorem Try.cellsRule : Try.prog.cellsOf 47 = 2 := by kernel_rfl
theorem Try.cellsStrs : Try.prog.cellsOf 22 = 1 := by kernel_rfl
theorem Try.cellsLats : Try.prog.cellsOf 23 = 1 := by kernel_rfl
theorem Try.cellsRules : Try.prog.cellsOf 24 = 1 := by kernel_rfl
theorem Try.cellsStr : Try.prog.cellsOf 9 = 1 := by kernel_rfl
theorem Try.cellsInt : Try.prog.cellsOf 3 = 1 := by kernel_rfl
theorem Try.cellsI64 : Try.prog.cellsOf 2 = 1 := by kernel_rfl
theorem Try.bytesStr : Try.prog.bytesOf 9 = 16 := by kernel_rfl
theorem plain_add (a o j : Nat) : (⟨a, o, none⟩ : Addr).add j = ⟨a, o + j, none⟩ := by unfold Addr.add; split <;> simp_all
/-- A slice that came in: nil, or a row of elements, each read with less fuel. -/
theorem open_row {H : Type} {enc : TypeId × Value → H} {w : World} {fuel : Nat} {S e : TypeId} {v : Value} {y : DataW H × List MemPlace} (ht : Try.prog.underlying S = some (.slice e)) (h : DataW.trod enc Try.prog w 0 (fun _ => true) true fuel S [v] = some y) :
    (v = .slice none 0 0 ∧ y.1 = .nil) ∨ ∃ (ad : Addr) (len cap n : Nat) (elems spare : List (DataW H)), v = .slice (some ad) len cap ∧ fuel = n + 1 ∧ y.1 = .slice elems spare ∧ elems.length = len ∧ elems.length + spare.length = cap ∧ len ≤ cap ∧ cap ≤ maxLen ∧
      ∀ i, i < len → ∃ cs' z, w.cells? 0 (ad.add (i * Try.prog.cellsOf e)) (Try.prog.cellsOf e) = some cs' ∧ DataW.trod enc Try.prog w 0 (fun _ => true) true n e cs' = some z ∧ elems[i]? = some z.1 := by
  rcases DataW.trod_slice ht h with ⟨e1, e2⟩ | ⟨a, len, cap, elems, rest, n, hf, e1, e2, _, hl, hm, hlen, hel, hsp, _⟩
  · simp only [List.cons.injEq, and_true] at e1
    exact .inl ⟨e1, by rw [e2]⟩
  · simp only [List.cons.injEq, and_true] at e1
    refine .inr ⟨a, len, cap, n, elems.map (·.1), rest.map (·.1), e1, hf, by rw [e2], by simp [hlen], by have := (hsp rfl).1; simp [hlen, this]; omega, hl, hm, fun i hi => ?_⟩
    have := hel i hi
    rw [List.getElem?_eq_getElem (by omega)] at this
    rw [Option.bind_eq_some_iff] at this
    obtain ⟨cs', h1, h2⟩ := this
    exact ⟨cs', elems[i]'(by omega), h1, h2, by rw [List.getElem?_map, List.getElem?_eq_getElem (by omega)]; rfl⟩
set_option maxRecDepth 100000 in
/-- A slice of strings. -/
theorem open_sl {H : Type} {enc : TypeId × Value → H} {w : World} {fuel : Nat} {v : Value} {x : DataW H × List MemPlace} (h : DataW.trod enc Try.prog w 0 (fun _ => true) true fuel 22 [v] = some x) :
    ∃ l : List Str, Rd w v (ss l) ∧ Ok l ∧ (Fits Try.prog 22 x.1 → l.length * 16 ≤ reachBytes) := by
  rcases open_row Try.underlying22 h with ⟨rfl, _⟩ | ⟨ad, len, cap, n, elems, sp, rfl, _, hd, hlen, hcap, hlc, hcm, hel⟩
  · exact ⟨[], ⟨none, 0, rfl, Nat.le_refl _, by omega, fun h => by simp [ss] at h⟩, (fun y hy => by cases hy), fun _ => by simp⟩
  unfold maxLen at hcm
  have hex : ∀ i, i < len → ∃ s : ByteArray, w.cell? (ad.add i) = some (.string s) ∧ s.size ≤ maxLen := by
    intro i hi
    obtain ⟨cs', z, h1, h2, _⟩ := hel i hi
    rw [Try.cellsStr, Nat.mul_one] at h1
    obtain ⟨s, e, _, hs⟩ := DataW.trod_string Try.underlying9 h2
    subst e
    obtain ⟨_, _, hc⟩ := World.cells?_some h1
    refine ⟨s, ?_, hs⟩
    have := hc 0 (by omega)
    simpa [Addr.add] using this
  have hfit : Fits Try.prog 22 x.1 → len * 16 ≤ reachBytes := fun hf => by
    rw [hd] at hf
    have := hf ((elems.length + sp.length) * Try.prog.bytesOf 9) (by simp [DataW.weights, Try.underlying22])
    rw [Try.bytesStr] at this
    omega
  haveI : Inhabited ByteArray := ⟨⟨#[]⟩⟩
  obtain ⟨f, hf⟩ := Go.Deep.choose_lt hex
  have hget : ∀ (i : Nat) (q : Nat), (List.range len)[i]? = some q → i < len ∧ q = i := by
    intro i q hr
    obtain ⟨h1, h2⟩ := List.getElem?_eq_some_iff.1 hr
    simp at h1 h2
    exact ⟨h1, h2.symm⟩
  refine ⟨(List.range len).map fun i => (f i).data.toList, ?_, fun y hy => ?_, fun h => by simpa using hfit h⟩
  · refine ⟨some ad, cap, by rw [ss_length]; simp, by rw [ss_length]; simpa using hlc, by omega, fun h0 => ?_⟩
    rw [ss_length, List.length_map, List.length_range] at h0
    have h6 := (hf 0 h0).1
    rw [show ad.add 0 = ad by rfl] at h6
    have hx := spot_none h6
    refine ⟨ad.block, ad.off, by rw [← hx], World.block_lt_of_cell? w _ h6, fun j u hu => ?_⟩
    simp only [ss, List.map_map, List.getElem?_map] at hu
    obtain ⟨q, hq, rfl⟩ := Option.map_eq_some_iff.1 hu
    obtain ⟨h1, rfl⟩ := hget j q hq
    have h7 := (hf q h1).1
    rw [hx, Addr.add_mid] at h7
    rw [h7]
    rfl
  · obtain ⟨q, hq, rfl⟩ := List.mem_map.1 hy
    have := (hf q (by simpa using hq)).2
    unfold maxLen at this
    have e : (f q).data.toList.length = (f q).size := Array.length_toList
    omega
set_option maxRecDepth 100000 in
theorem rule_fields : ∃ f0 f1 : Field, Try.prog.underlying 47 = some (.struct #[f0, f1]) ∧ f0.type = 22 ∧ f1.type = 9 ∧ f0.offset = 0 ∧ f1.offset = 1 :=
  ⟨_, _, Try.underlying47, rfl, rfl, rfl, rfl⟩
set_option maxRecDepth 100000 in
/-- A slice of rules. -/
theorem open_rl {H : Type} {enc : TypeId × Value → H} {w : World} {fuel : Nat} {v : Value} {x : DataW H × List MemPlace} (h : DataW.trod enc Try.prog w 0 (fun _ => true) true fuel 24 [v] = some x) (hfit : Fits Try.prog 24 x.1) :
    ∃ rs : List Gr, RuR w v rs ∧ OkR rs := by
  rcases open_row Try.underlying24 h with ⟨rfl, _⟩ | ⟨ad, len, cap, n, elems, sp, rfl, _, hd, hlen, hcap, hlc, hcm, hel⟩
  · exact ⟨[], rur_nil w, fun r hr => by cases hr⟩
  unfold maxLen at hcm
  have hfe : ∀ d ∈ elems, Fits Try.prog 47 d := by
    rw [hd] at hfit
    refine fits_all fun m hm => hfit m ?_
    simp only [DataW.weights, Try.underlying24, List.mem_cons, List.mem_append]
    exact .inr (.inl hm)
  have hex : ∀ i, i < len → ∃ q : Value × Gr, (w.cell? ((ad.add (i * 2)).add 0) = some q.1 ∧ w.cell? ((ad.add (i * 2)).add 1) = some (.string (ba q.2.2))) ∧ Rd w q.1 (ss q.2.1) ∧ Ok q.2.1 ∧ q.2.2.length ≤ 9223372036854775807 ∧ q.2.1.length ≤ 8796093021952 := by
    intro i hi
    obtain ⟨cs', z, h1, h2, h3⟩ := hel i hi
    rw [Try.cellsRule] at h1
    have hz := hfe z.1 (List.mem_of_getElem? h3)
    obtain ⟨f0, f1, hu, t0, t1, o0, o1⟩ := rule_fields
    obtain ⟨xs, m, _, hzz, hl, hlx, hf⟩ := DataW.trod_struct hu h2
    match xs, hlx with
    | [y0, y1], _ =>
      have g0 := hf 0 f0 rfl
      have g1 := hf 1 f1 rfl
      rw [t0, o0, Try.cellsStrs] at g0
      rw [t1, o1, Try.cellsStr] at g1
      rw [Try.cellsRule] at hl
      match cs', hl with
      | [v0, v1], _ =>
        simp only [List.drop_zero, List.drop_succ_cons, List.take_succ_cons, List.take_zero, List.getElem?_cons_zero, List.getElem?_cons_succ] at g0 g1
        obtain ⟨l, r1, r2, r3⟩ := open_sl g0
        obtain ⟨s, e, _, hs⟩ := DataW.trod_string Try.underlying9 g1
        simp only [List.cons.injEq, and_true] at e
        subst e
        obtain ⟨_, _, hc⟩ := World.cells?_some h1
        refine ⟨(v0, l, s.data.toList), ⟨by simpa using hc 0 (by omega), by simpa [ba_of] using hc 1 (by omega)⟩, r1, r2, ?_, ?_⟩
        · unfold maxLen at hs
          have e : s.data.toList.length = s.size := Array.length_toList
          show s.data.toList.length ≤ _
          omega
        · have hz0 : Fits Try.prog 22 y0.1 := by
            rw [hzz] at hz
            refine fits_each (ts := [22, 9]) (ds := [y0.1, y1.1]) (fun m hm => hz m ?_) 0 _ _ rfl rfl
            simp only [DataW.weights, hu, List.map_cons, List.map_nil, t0, t1]
            exact hm
          have := r3 hz0
          have hr : reachBytes = 140737488351232 := by rfl
          show l.length ≤ _
          omega
  by_cases h0 : len = 0
  · subst h0
    exact ⟨[], ⟨[], ⟨some ad, cap, rfl, hlc, by omega, fun h => by simp at h⟩, rfl, fun i t r ht => by simp at ht⟩, fun r hr => by cases hr⟩
  have hsp : ad.spot = none := by
    obtain ⟨y, hc, _⟩ := hex 0 (by omega)
    have := hc.1
    simpa [Addr.add] using World.cell?_spot (w := w) (a := (ad.add (0 * 2)).add 0) this
  obtain ⟨b, o, sp2⟩ := ad
  simp only at hsp
  subst hsp
  haveI : Inhabited (Value × Gr) := ⟨⟨.slice none 0 0, [], []⟩⟩
  obtain ⟨f, hf⟩ := Go.Deep.choose_lt hex
  have hget : ∀ (i : Nat) (q : Nat), (List.range len)[i]? = some q → i < len ∧ q = i := by
    intro i q hr
    obtain ⟨h1, h2⟩ := List.getElem?_eq_some_iff.1 hr
    simp at h1 h2
    exact ⟨h1, h2.symm⟩
  have c00 := (hf 0 (by omega)).1.1
  rw [plain_add, plain_add] at c00
  refine ⟨(List.range len).map fun i => (f i).2, ⟨(List.range len).map fun i => ((f i).1, .string (ba (f i).2.2)), ⟨_, _, by rw [List.length_map, List.length_range], by simpa using hlc, by omega, fun _ => ⟨b, o, rfl, World.block_lt_of_cell? w _ c00, fun i t ht => ?_⟩⟩, by simp, fun i t r ht hr => ?_⟩, fun r hr => ?_⟩
  · rw [List.getElem?_map] at ht
    obtain ⟨q, hq, rfl⟩ := Option.map_eq_some_iff.1 ht
    obtain ⟨h1, rfl⟩ := hget i q hq
    obtain ⟨⟨a1, a2⟩, _⟩ := hf q h1
    rw [plain_add, plain_add] at a1 a2
    exact ⟨a1, a2⟩
  · rw [List.getElem?_map] at ht hr
    obtain ⟨q, hq, rfl⟩ := Option.map_eq_some_iff.1 ht
    obtain ⟨q', hq', rfl⟩ := Option.map_eq_some_iff.1 hr
    obtain ⟨h1, rfl⟩ := hget i q hq
    obtain ⟨_, rfl⟩ := hget _ q' hq'
    exact ⟨(hf _ h1).2.1, rfl⟩
  · obtain ⟨q, hq, rfl⟩ := List.mem_map.1 hr
    exact (hf q (by simpa using hq)).2.2
set_option maxRecDepth 100000 in
theorem lat_fields : ∃ f0 f1 f2 f3 f4 f5 : Field, Try.prog.underlying 26 = some (.struct #[f0, f1, f2, f3, f4, f5]) ∧ f0.type = 3 ∧ f1.type = 2 ∧ f2.type = 2 ∧ f3.type = 22 ∧ f4.type = 23 ∧ f5.type = 24 ∧ f0.offset = 0 ∧ f1.offset = 1 ∧ f2.offset = 2 ∧ f3.offset = 3 ∧ f4.offset = 4 ∧ f5.offset = 5 :=
  ⟨_, _, _, _, _, _, Try.underlying26, rfl, rfl, rfl, rfl, rfl, rfl, rfl, rfl, rfl, rfl, rfl, rfl⟩
set_option maxRecDepth 100000 in
/-- A description. -/
theorem open_lat {H : Type} {enc : TypeId × Value → H} {w : World} : ∀ (F fuel : Nat), fuel < F → ∀ (cs : List Value) (x : DataW H × List MemPlace), DataW.trod enc Try.prog w 0 (fun _ => true) true fuel 26 cs = some x → Fits Try.prog 26 x.1 → ∃ (y : LX) (t : Lat), cs = y.q.cs ∧ LD w y t := by
  intro F
  induction F with
  | zero => intro fuel h; omega
  | succ F ih =>
    intro fuel hF cs x h hfit
    obtain ⟨f0, f1, f2, f3, f4, f5, hu, t0, t1, t2, t3, t4, t5, o0, o1, o2, o3, o4, o5⟩ := lat_fields
    obtain ⟨xs, m, hm, hxx, hl, hlx, hf⟩ := DataW.trod_struct hu h
    match xs, hlx with
    | [y0, y1, y2, y3, y4, y5], _ =>
      have g0 := hf 0 f0 rfl
      have g1 := hf 1 f1 rfl
      have g2 := hf 2 f2 rfl
      have g3 := hf 3 f3 rfl
      have g4 := hf 4 f4 rfl
      have g5 := hf 5 f5 rfl
      rw [Try.cellsLat] at hl
      match cs, hl with
      | [v0, v1, v2, v3, v4, v5], _ =>
        rw [t0, o0, Try.cellsInt] at g0
        rw [t1, o1, Try.cellsI64] at g1
        rw [t2, o2, Try.cellsI64] at g2
        rw [t3, o3, Try.cellsStrs] at g3
        rw [t4, o4, Try.cellsLats] at g4
        rw [t5, o5, Try.cellsRules] at g5
        simp only [List.drop_zero, List.drop_succ_cons, List.take_succ_cons, List.take_zero, List.getElem?_cons_zero, List.getElem?_cons_succ] at g0 g1 g2 g3 g4 g5
        obtain ⟨k0, e0, _, q0⟩ := DataW.trod_int Try.underlying3 g0
        obtain ⟨k1, e1, _, q1⟩ := DataW.trod_int Try.underlying2 g1
        obtain ⟨k2, e2, _, q2⟩ := DataW.trod_int Try.underlying2 g2
        simp only [List.cons.injEq, and_true] at e0 e1 e2
        subst e0 e1 e2
        have hz : ∀ (i : Nat) (t : TypeId) (d : DataW H), [3, 2, 2, 22, 23, 24][i]? = some t → [y0.1, y1.1, y2.1, y3.1, y4.1, y5.1][i]? = some d → Fits Try.prog t d := by
          refine fits_each (fun n hn => hfit n ?_)
          rw [hxx]
          simp only [DataW.weights, hu, List.map_cons, List.map_nil, t0, t1, t2, t3, t4, t5]
          exact hn
        obtain ⟨ns, n1, n2, _⟩ := open_sl g3
        obtain ⟨rs, r1, r2⟩ := open_rl g5 (hz 5 _ _ rfl rfl)
        have hp : ∃ ts, LDs w v4 ts := by
          rcases open_row Try.underlying23 g4 with ⟨rfl, _⟩ | ⟨ad, len, cap, n, elems, sp, rfl, hfu, hd, hlen, hcap, hlc, hcm, hel⟩
          · exact ⟨[], lds_nil w⟩
          unfold maxLen at hcm
          have hfe : ∀ d ∈ elems, Fits Try.prog 26 d := by
            have hz4 := hz 4 _ _ rfl rfl
            rw [hd] at hz4
            refine fits_all fun m hm => hz4 m ?_
            simp only [DataW.weights, Try.underlying23, List.mem_cons, List.mem_append]
            exact .inr (.inl hm)
          have hex : ∀ i, i < len → ∃ q : LX × Lat, (∀ j, j < 6 → w.cell? ((ad.add (i * 6)).add j) = q.1.q.cs[j]?) ∧ LD w q.1 q.2 := by
            intro i hi
            obtain ⟨cs', z, h1, h2, h3⟩ := hel i hi
            rw [Try.cellsLat] at h1
            obtain ⟨y, t, e, hy⟩ := ih n (by omega) cs' z h2 (hfe z.1 (List.mem_of_getElem? h3))
            obtain ⟨_, _, hc⟩ := World.cells?_some h1
            exact ⟨(y, t), fun j hj => by rw [hc j hj, e], hy⟩
          by_cases h0 : len = 0
          · subst h0
            exact ⟨[], [], ⟨some ad, cap, rfl, hlc, by omega, fun h => by simp at h⟩, rfl, fun i y u hy => by simp at hy⟩
          have hsp : ad.spot = none := by
            obtain ⟨y, hc, _⟩ := hex 0 (by omega)
            have := hc 0 (by omega)
            simpa [Addr.add] using World.cell?_spot (w := w) (a := (ad.add (0 * 6)).add 0) this
          obtain ⟨b, o, sp2⟩ := ad
          simp only at hsp
          subst hsp
          haveI : Inhabited (LX × Lat) := ⟨⟨⟨0, 0, 0, .slice none 0 0, .slice none 0 0, .slice none 0 0⟩, ⟨0, 0, 0, [], [], []⟩⟩⟩
          obtain ⟨f, hf⟩ := Go.Deep.choose_lt hex
          have hget : ∀ (i : Nat) (q : Nat), (List.range len)[i]? = some q → i < len ∧ q = i := by
            intro i q hr
            obtain ⟨h1, h2⟩ := List.getElem?_eq_some_iff.1 hr
            simp at h1 h2
            exact ⟨h1, h2.symm⟩
          have hcell : ∀ i j, i < len → j < 6 → w.cell? ⟨b, o + i * 6 + j, none⟩ = (f i).1.q.cs[j]? := by
            intro i j hi hj
            have := (hf i hi).1 j hj
            rwa [plain_add, plain_add] at this
          refine ⟨(List.range len).map fun i => (f i).2, (List.range len).map fun i => (f i).1, ⟨some ⟨b, o, none⟩, cap, by simp, by simpa using hlc, by omega, fun _ => ⟨b, o, rfl, World.block_lt_of_cell? w _ (hcell 0 0 (by omega) (by omega)), fun i t ht => ?_⟩⟩, by simp, fun i y u hy hu => ?_⟩
          · rw [List.getElem?_map, List.getElem?_map] at ht
            obtain ⟨q, hq, rfl⟩ := Option.map_eq_some_iff.1 ht
            obtain ⟨q', hq', rfl⟩ := Option.map_eq_some_iff.1 hq
            obtain ⟨h1, rfl⟩ := hget i q' hq'
            exact ⟨hcell q' 0 h1 (by omega), hcell q' 1 h1 (by omega), hcell q' 2 h1 (by omega), hcell q' 3 h1 (by omega), hcell q' 4 h1 (by omega), hcell q' 5 h1 (by omega)⟩
          · rw [List.getElem?_map] at hy hu
            obtain ⟨q, hq, rfl⟩ := Option.map_eq_some_iff.1 hy
            obtain ⟨q', hq', rfl⟩ := Option.map_eq_some_iff.1 hu
            obtain ⟨h1, rfl⟩ := hget i q hq
            obtain ⟨_, rfl⟩ := hget _ q' hq'
            exact (hf _ h1).2
        obtain ⟨ts, ps, p1, p2, p3⟩ := hp
        exact ⟨⟨k0, k1, k2, v3, v4, v5⟩, ⟨k0, k1, k2, ns, ts, rs⟩, rfl, .mk ps rfl rfl rfl (wf_r64 q0) (wf_r64 q1) (wf_r64 q2) n1 n2 r1 r2 p1 p2 p3⟩
set_option maxRecDepth 100000 in
/-- A description by value. -/
theorem open_latv {H : Type} {enc : TypeId × Value → H} {w : World} {base : Nat} {v : Value} {d : DataW H} {p : List MemPlace} (hv : Value.okWide Try.prog w .any base 26 v) (h : DataW.Trod enc Try.prog w 0 (fun _ => true) true 26 v d p) (hfit : Fits Try.prog 26 d) :
    ∃ (k lo hi : Int) (an : Option Addr) (nn cn : Nat) (ap : Option Addr) (np cp : Nat) (ar : Option Addr) (nr cr : Nat) (t : Lat), v = .agg #[.int .i64 k, .int .i64 lo, .int .i64 hi, .slice an nn cn, .slice ap np cp, .slice ar nr cr] ∧ LO w k lo hi an nn cn ap np cp ar nr cr t := by
  obtain ⟨cs, rfl, _⟩ := okWide_struct Try.underlying26 hv
  obtain ⟨fuel, hf⟩ := h
  obtain ⟨y, t, e, r⟩ := open_lat _ fuel (Nat.lt_succ_self _) _ _ hf hfit
  obtain ⟨k, lo, hi, an, nn, cn, ap, np, cp, ar, nr, cr, rfl, ho⟩ := r.open
  have e3 : cs = #[.int .i64 k, .int .i64 lo, .int .i64 hi, .slice an nn cn, .slice ap np cp, .slice ar nr cr] := by rw [← Array.toArray_toList (xs := cs), show cs.toList = _ from e]; rfl
  subst e3
  exact ⟨k, lo, hi, an, nn, cn, ap, np, cp, ar, nr, cr, t, rfl, ho⟩
end Go.Proofs.Ytdmonbcinlmljaa

/- The law on fields. Bounds on sizes alone. -/
namespace Go.Proofs.Ytdmonbcinlmljaa
open Go.RowKit

theorem okay_kid {t u : Lat} {i : Nat} (h : Okay t) (hu : t.ps[i]? = some u) : Okay u := by
  cases h with
  | mk _ hp => exact hp u (List.mem_of_getElem? hu)
set_option maxRecDepth 100000 in
set_option maxHeartbeats 6400000 in
theorem fields_law (t : Lat) (k lo hi : Int) (an : Option Addr) (nn cn : Nat) (ap : Option Addr) (np cp : Nat) (ar : Option Addr) (nr cr : Nat) (bs : ByteArray) (w : World) (H1 : LO w k lo hi an nn cn ap np cp ar nr cr t) : Calls Try.prog 3 #[.agg #[.int .i64 k, .int .i64 lo, .int .i64 hi, .slice an nn cn, .slice ap np cp, .slice ar nr cr], .string bs] w (BoP true w) := by
  obtain ⟨s, hbs⟩ : ∃ s : Str, bs = ba s := ⟨bs.data.toList, by rw [ba_of]⟩
  have HBB := hid_of (bel_alloc w (.cells #[.int .i64 k, .int .i64 lo, .int .i64 hi, .slice an nn cn, .slice ap np cp, .slice ar nr cr] 26))
  have HC := hid_of (fun (w' : World) (h : Below (w.alloc (.cells #[.int .i64 k, .int .i64 lo, .int .i64 hi, .slice an nn cn, .slice ap np cp, .slice ar nr cr] 26)).heap.size (w.alloc (.cells #[.int .i64 k, .int .i64 lo, .int .i64 hi, .slice an nn cn, .slice ap np cp, .slice ar nr cr] 26)) w') => box6 k lo hi an nn cn ap np cp ar nr cr h)
  have AW := hid_of (fun w => awake_any w)
  have HL := hid_of (fun (wz : World) (hz : Below (w.alloc (.cells #[.int .i64 k, .int .i64 lo, .int .i64 hi, .slice an nn cn, .slice ap np cp, .slice ar nr cr] 26)).heap.size (w.alloc (.cells #[.int .i64 k, .int .i64 lo, .int .i64 hi, .slice an nn cn, .slice ap np cp, .slice ar nr cr] 26)) wz) => H1.at (HBB.out.trans (hz.mono HBB.out.size)))
  have CH := hid_of (fun (wz : World) (hz : Below (w.alloc (.cells #[.int .i64 k, .int .i64 lo, .int .i64 hi, .slice an nn cn, .slice ap np cp, .slice ar nr cr] 26)).heap.size (w.alloc (.cells #[.int .i64 k, .int .i64 lo, .int .i64 hi, .slice an nn cn, .slice ap np cp, .slice ar nr cr] 26)) wz) => check_any t k lo hi an nn cn ap np cp ar nr cr wz (HL.out wz hz))
  have HOK : Hid (chkL t = 0 → Okay t) := hid_of (fun h => okay_of t 1 0 h)
  obtain ⟨r, hr⟩ : ∃ r, r = chkL t := ⟨_, rfl⟩
  rw [← hr] at CH HOK
  have HK1 := hid_of H1.hk
  clear hr
  by_cases h0 : r = 0
  case neg =>
    have e0 : (r == 0) = false := beq_eq_false_iff_ne.2 h0
    have e0' : (r != 0) = true := bne_iff_ne.2 h0
    clear H1 h0 HL
    go_enter Try.func3, Try.ntmps3
    go_wp2_with (first
      | (go_at_call 5; ((with_reducible refine (AW.out _).mono ?_); (rintro e w1 ⟨rfl, h1⟩); (have E1 := hid_of h1); (obtain ⟨c0, c1, c2, c3, c4, c5⟩ := HC.out w1 h1); clear h1))
      | (go_at_call 6; ((with_reducible refine (CH.out w1 E1.out).mono ?_); (rintro e w2 ⟨rfl, h2⟩); (have E2 := hid_of (E1.out.trans (h2.mono E1.out.size))); clear h2)))
    go_ret
    exact ⟨rfl, HBB.out.trans (E2.out.mono HBB.out.size)⟩
  subst h0
  have hok := HOK.out rfl
  clear HOK
  have hsm := node_shape (by cases hok; assumption)
  obtain ⟨a, hat⟩ := at_exists t.ns s
  by_cases hyes : k = 6 ∧ a ≠ -1
  case neg =>
    have FN := hid_of (fun (wz : World) (hz : Below (w.alloc (.cells #[.int .i64 k, .int .i64 lo, .int .i64 hi, .slice an nn cn, .slice ap np cp, .slice ar nr cr] 26)).heap.size (w.alloc (.cells #[.int .i64 k, .int .i64 lo, .int .i64 hi, .slice an nn cn, .slice ap np cp, .slice ar nr cr] 26)) wz) => field_no k lo hi an nn cn ap np cp ar nr cr t.ns s a wz (HL.out wz hz).n hat (by
      by_cases h6 : k = 6
      · exact .inr (Classical.not_not.1 (fun h => hyes ⟨h6, h⟩))
      · exact .inl h6))
    rw [← hbs] at FN
    by_cases h6 : k = 6
    · have hnot : Hid (s ∉ t.ns) := hid_of (by
        rcases hat with ⟨n, rfl, _⟩ | ⟨_, h⟩
        · exact absurd ⟨h6, by omega⟩ hyes
        · exact h)
      have HRN := hid_of H1.n
      obtain ⟨hn1, hn2, hn3, hn4⟩ := rds_open H1.n
      have hnn9 : nn ≤ 9223372036854775807 := by omega
      have HN := hid_of hn1
      have H4 := hid_of hn4
      have HBS := hid_of hbs
      clear H1 hyes hat hok hsm hbs hn1 hn2 hn3 hn4
      subst h6
      go_enter Try.func3, Try.ntmps3
      go_wp2_with (first
        | (go_at_call 5; ((with_reducible refine (AW.out _).mono ?_); (rintro e w1 ⟨rfl, h1⟩); (have E1 := hid_of h1); (obtain ⟨c0, c1, c2, c3, c4, c5⟩ := HC.out w1 h1); clear h1))
        | (go_at_call 6; ((with_reducible refine (CH.out w1 E1.out).mono ?_); (rintro e w2 ⟨rfl, h2⟩); (have E2 := hid_of (E1.out.trans (h2.mono E1.out.size))); (obtain ⟨d0, d1, d2, d3, d4, d5⟩ := HC.out w2 (E1.out.trans (h2.mono E1.out.size))); clear h2))
        | (go_at_call 7; ((with_reducible refine (FN.out w2 E2.out).mono ?_); (rintro e w3 ⟨rfl, h3⟩); (have E3 := hid_of (E2.out.trans (h3.mono E2.out.size))); (obtain ⟨f0, f1, f2, f3, f4, f5⟩ := HC.out w3 (E2.out.trans (h3.mono E2.out.size))); (have l3 : w.heap.size < w3.heap.size := World.block_lt_of_cell? w3 _ f0); clear h3)))
      have E4 := hid_of (E3.out.trans ((bel_alloc w3 (.cells #[.int .i64 0, .int .i64 0, .int .i64 0, .slice none 0 0, .slice none 0 0, .slice none 0 0] 26)).mono E3.out.size))
      obtain ⟨q0, q1, q2, q3, q4, q5⟩ := HC.out _ E4.out
      go_loopw [7] (fun iv wr => ∃ i : Nat, iv = .int .i64 i ∧ i ≤ nn ∧ wr = w3.alloc (.cells #[.int .i64 0, .int .i64 0, .int .i64 0, .slice none 0 0, .slice none 0 0, .slice none 0 0] 26)) (fun iv _ => nn - (intOf iv).toNat)
      case atStart => exact ⟨0, rfl, Nat.zero_le _, rfl⟩
      case round =>
        obtain ⟨i, rfl, hin, rfl⟩ := hrel
        by_cases hlt : i < nn
        · have dd : decide (i < nn) = true := decide_eq_true hlt
          have hlt' : (i : Int) < (nn : Int) := by omega
          have HLT := hid_of hlt
          have hl : i < t.ns.length := by have := HN.out; omega
          rcases H4.out with h3 | ⟨g, o, rfl, hg, hc⟩
          · exfalso; rw [h3] at hl; simp at hl
          have cc := ((HBB.out.trans (E4.out.mono HBB.out.size)).cell (p := ⟨g, o + i, none⟩) hg).trans (hc i _ (List.getElem?_eq_getElem hl))
          obtain ⟨bx, hx⟩ : ∃ bx, bx = ba t.ns[i] := ⟨_, rfl⟩
          rw [← hx] at cc
          have et := eq_f hx HBS.out (show t.ns[i] ≠ s from fun e => hnot.out (by rw [← e]; exact List.getElem_mem hl))
          clear hlt hc hx hl H4 hg
          go_wp2
          go_roundw
          case rel => exact ⟨i + 1, by go_num, HLT.out, by first | trivial | rfl⟩
          case measure => have := HLT.out; simp [intOf]; omega
        · have dd : decide (i < nn) = false := decide_eq_false hlt
          clear hlt
          go_wp2
          go_ret
          exact ⟨rfl, HBB.out.trans (E4.out.mono HBB.out.size)⟩
    · have e6 : (k == 6) = false := beq_eq_false_iff_ne.2 h6
      clear H1 hyes hat hok hsm hbs h6
      go_enter Try.func3, Try.ntmps3
      go_wp2_with (first
        | (go_at_call 5; ((with_reducible refine (AW.out _).mono ?_); (rintro e w1 ⟨rfl, h1⟩); (have E1 := hid_of h1); (obtain ⟨c0, c1, c2, c3, c4, c5⟩ := HC.out w1 h1); clear h1))
        | (go_at_call 6; ((with_reducible refine (CH.out w1 E1.out).mono ?_); (rintro e w2 ⟨rfl, h2⟩); (have E2 := hid_of (E1.out.trans (h2.mono E1.out.size))); (obtain ⟨d0, d1, d2, d3, d4, d5⟩ := HC.out w2 (E1.out.trans (h2.mono E1.out.size))); clear h2))
        | (go_at_call 7; ((with_reducible refine (FN.out w2 E2.out).mono ?_); (rintro e w3 ⟨rfl, h3⟩); (have E3 := hid_of (E2.out.trans (h3.mono E2.out.size))); (obtain ⟨f0, f1, f2, f3, f4, f5⟩ := HC.out w3 (E2.out.trans (h3.mono E2.out.size))); (have l3 : w.heap.size < w3.heap.size := World.block_lt_of_cell? w3 _ f0); clear h3)))
      go_ret
      exact ⟨rfl, HBB.out.trans ((E3.out.trans ((bel_alloc w3 _).mono E3.out.size)).mono HBB.out.size)⟩
  obtain ⟨hk6, ha⟩ := hyes
  have e6 : (k == 6) = true := by simpa using hk6
  obtain ⟨n, rfl, hn, hfirst⟩ : ∃ n : Nat, a = n ∧ t.ns[n]? = some s ∧ ∀ j, j < n → t.ns[j]? ≠ some s := by
    rcases hat with h | ⟨h, _⟩
    · exact h
    · exact absurd h ha
  have hpl : t.ps.length = t.ns.length := by
    have hk6 : t.k = 6 := HK1.out.symm.trans hk6
    unfold shapeB at hsm
    rw [hk6] at hsm
    simp at hsm
    exact hsm.2.2.2.1
  obtain ⟨u, hu⟩ : ∃ u, t.ps[n]? = some u := ⟨_, List.getElem?_eq_getElem (by have := (List.getElem?_eq_some_iff.1 hn).1; omega)⟩
  have FA := hid_of (fun (wz : World) (hz : Below (w.alloc (.cells #[.int .i64 k, .int .i64 lo, .int .i64 hi, .slice an nn cn, .slice ap np cp, .slice ar nr cr] 26)).heap.size (w.alloc (.cells #[.int .i64 k, .int .i64 lo, .int .i64 hi, .slice an nn cn, .slice ap np cp, .slice ar nr cr] 26)) wz) => field_at t u k lo hi an nn cn ap np cp ar nr cr s n wz (HL.out wz hz) hk6 hu (okay_kid hok hu) hat)
  rw [← hbs] at FA
  obtain ⟨g, o, kU, loU, hiU, anU, nnU, cnU, apU, npU, cpU, arU, nrU, crU, hap, LU, hcU⟩ := H1.p.get hu
  have HAP := hid_of hap
  obtain ⟨hn1, hn2, hn3, hn4⟩ := rds_open H1.n
  have hpn := H1.p.len
  have hnn9 : nn ≤ 9223372036854775807 := by omega
  have hnp9 : np ≤ 9223372036854775807 := by omega
  have hnlt : n < nn := by have := (List.getElem?_eq_some_iff.1 hn).1; omega
  have hnpl : n < np := by have := (List.getElem?_eq_some_iff.1 hu).1; omega
  have HN := hid_of hn1
  have H4 := hid_of hn4
  have HBS := hid_of hbs
  have HF := hid_of hfirst
  have HNS := hid_of hn
  have HNL := hid_of (And.intro hnlt hnpl)
  have HCU := hid_of (fun (wz : World) (hz : Below (w.alloc (.cells #[.int .i64 k, .int .i64 lo, .int .i64 hi, .slice an nn cn, .slice ap np cp, .slice ar nr cr] 26)).heap.size (w.alloc (.cells #[.int .i64 k, .int .i64 lo, .int .i64 hi, .slice an nn cn, .slice ap np cp, .slice ar nr cr] 26)) wz) => hcU wz (HBB.out.trans (hz.mono HBB.out.size)))
  have LUH := hid_of (fun (wz : World) (hz : Below (w.alloc (.cells #[.int .i64 k, .int .i64 lo, .int .i64 hi, .slice an nn cn, .slice ap np cp, .slice ar nr cr] 26)).heap.size (w.alloc (.cells #[.int .i64 k, .int .i64 lo, .int .i64 hi, .slice an nn cn, .slice ap np cp, .slice ar nr cr] 26)) wz) => LU.at (HBB.out.trans (hz.mono HBB.out.size)))
  clear H1 hat hok hsm hbs hn1 hn2 hn3 hn4 hpn hpl hu hn hfirst ha hk6 hap LU hcU hnlt hnpl
  go_enter Try.func3, Try.ntmps3
  go_wp2_with (first
    | (go_at_call 5; ((with_reducible refine (AW.out _).mono ?_); (rintro e w1 ⟨rfl, h1⟩); (have E1 := hid_of h1); (obtain ⟨c0, c1, c2, c3, c4, c5⟩ := HC.out w1 h1); clear h1))
    | (go_at_call 6; ((with_reducible refine (CH.out w1 E1.out).mono ?_); (rintro e w2 ⟨rfl, h2⟩); (have E2 := hid_of (E1.out.trans (h2.mono E1.out.size))); (obtain ⟨d0, d1, d2, d3, d4, d5⟩ := HC.out w2 (E1.out.trans (h2.mono E1.out.size))); clear h2))
    | (go_at_call 7; ((with_reducible refine (FA.out w2 E2.out).mono ?_); (rintro e w3 ⟨kF, loF, hiF, anF, nnF, cnF, apF, npF, cpF, arF, nrF, crF, rfl, hlf, h3⟩); (have LF := hid_of hlf); (have E3 := hid_of (E2.out.trans (h3.mono E2.out.size))); (obtain ⟨f0, f1, f2, f3, f4, f5⟩ := HC.out w3 (E2.out.trans (h3.mono E2.out.size))); (have l3 : w.heap.size < w3.heap.size := World.block_lt_of_cell? w3 _ f0); clear h3 hlf)))
  have E4 := hid_of (E3.out.trans ((bel_alloc w3 (.cells #[.int .i64 kF, .int .i64 loF, .int .i64 hiF, .slice anF nnF cnF, .slice apF npF cpF, .slice arF nrF crF] 26)).mono E3.out.size))
  have HFB := hid_of (fun (wz : World) (hz : Below (w3.alloc (.cells #[.int .i64 kF, .int .i64 loF, .int .i64 hiF, .slice anF nnF cnF, .slice apF npF cpF, .slice arF nrF crF] 26)).heap.size (w3.alloc (.cells #[.int .i64 kF, .int .i64 loF, .int .i64 hiF, .slice anF nnF cnF, .slice apF npF cpF, .slice arF nrF crF] 26)) wz) => box6 kF loF hiF anF nnF cnF apF npF cpF arF nrF crF hz)
  obtain ⟨q0, q1, q2, q3, q4, q5⟩ := HC.out _ E4.out
  go_loopw [7] (fun iv wr => ∃ i : Nat, iv = .int .i64 i ∧ i ≤ n ∧ wr = w3.alloc (.cells #[.int .i64 kF, .int .i64 loF, .int .i64 hiF, .slice anF nnF cnF, .slice apF npF cpF, .slice arF nrF crF] 26)) (fun iv _ => nn - (intOf iv).toNat)
  case atStart => exact ⟨0, rfl, Nat.zero_le _, rfl⟩
  case round =>
    obtain ⟨i, rfl, hin, rfl⟩ := hrel
    have dd : decide (i < nn) = true := decide_eq_true (by have := HNL.out.1; omega)
    have hlt' : (i : Int) < (nn : Int) := by have := HNL.out.1; omega
    have HLT : Hid (i < nn) := hid_of (by have := HNL.out.1; omega)
    have hl : i < t.ns.length := by have := HN.out; have := HNL.out.1; omega
    rcases H4.out with h3 | ⟨gn, on, rfl, hg, hc⟩
    · exfalso; rw [h3] at hl; simp at hl
    have cc := ((HBB.out.trans (E4.out.mono HBB.out.size)).cell (p := ⟨gn, on + i, none⟩) hg).trans (hc i _ (List.getElem?_eq_getElem hl))
    obtain ⟨bx, hx⟩ : ∃ bx, bx = ba t.ns[i] := ⟨_, rfl⟩
    rw [← hx] at cc
    by_cases hi : i = n
    · subst hi
      have hs : t.ns[i] = s := by
        have h := HNS.out
        rw [List.getElem?_eq_getElem hl] at h
        exact Option.some.inj h
      have et := eq_t hx HBS.out hs
      have hip : i < np := HNL.out.2
      have hip' : (i : Int) < (np : Int) := by omega
      obtain ⟨u0, u1, u2, u3, u4, u5⟩ := HCU.out _ E4.out
      obtain ⟨v0, v1, v2, v3, v4, v5⟩ := HFB.out _ (Below.refl _ _)
      have HSS : Hid (∀ wz, Below (w3.alloc (.cells #[.int .i64 kF, .int .i64 loF, .int .i64 hiF, .slice anF nnF cnF, .slice apF npF cpF, .slice arF nrF crF] 26)).heap.size (w3.alloc (.cells #[.int .i64 kF, .int .i64 loF, .int .i64 hiF, .slice anF nnF cnF, .slice apF npF cpF, .slice arF nrF crF] 26)) wz → (fun (wz : World) => wz.cell? ⟨w.heap.size, 4, none⟩ = some (.slice (some ⟨g, o, none⟩) np cp) ∧ wz.cell? ⟨w3.heap.size, 0, none⟩ = some (.int .i64 kF) ∧ wz.cell? ⟨w3.heap.size, 1, none⟩ = some (.int .i64 loF) ∧ wz.cell? ⟨w3.heap.size, 2, none⟩ = some (.int .i64 hiF) ∧ wz.cell? ⟨w3.heap.size, 3, none⟩ = some (.slice anF nnF cnF) ∧ wz.cell? ⟨w3.heap.size, 4, none⟩ = some (.slice apF npF cpF) ∧ wz.cell? ⟨w3.heap.size, 5, none⟩ = some (.slice arF nrF crF) ∧ wz.cell? ⟨g, o + i * 6, none⟩ = some (.int .i64 kU) ∧ wz.cell? ⟨g, o + i * 6 + 1, none⟩ = some (.int .i64 loU) ∧ wz.cell? ⟨g, o + i * 6 + 2, none⟩ = some (.int .i64 hiU) ∧ wz.cell? ⟨g, o + i * 6 + 3, none⟩ = some (.slice anU nnU cnU) ∧ wz.cell? ⟨g, o + i * 6 + 4, none⟩ = some (.slice apU npU cpU) ∧ wz.cell? ⟨g, o + i * 6 + 5, none⟩ = some (.slice arU nrU crU)) wz) := hid_of (fun wz hz => ⟨(by have q := (HC.out wz (E4.out.trans (hz.mono E4.out.size))).2.2.2.2.1; rw [HAP.out] at q; exact q), (HFB.out wz hz).1, (HFB.out wz hz).2.1, (HFB.out wz hz).2.2.1, (HFB.out wz hz).2.2.2.1, (HFB.out wz hz).2.2.2.2.1, (HFB.out wz hz).2.2.2.2.2, HCU.out wz (E4.out.trans (hz.mono E4.out.size))⟩)
      have EQ := hid_of (fun (wz : World) (hz : Below (w3.alloc (.cells #[.int .i64 kF, .int .i64 loF, .int .i64 hiF, .slice anF nnF cnF, .slice apF npF cpF, .slice arF nrF crF] 26)).heap.size (w3.alloc (.cells #[.int .i64 kF, .int .i64 loF, .int .i64 hiF, .slice anF nnF cnF, .slice apF npF cpF, .slice arF nrF crF] 26)) wz) => equal_any u u kF loF hiF anF nnF cnF apF npF cpF arF nrF crF kU loU hiU anU nnU cnU apU npU cpU arU nrU crU wz (LF.out.at ((bel_alloc w3 _).trans (hz.mono (by simp)))) (LUH.out wz (E4.out.trans (hz.mono E4.out.size))))
      rw [show decide (u = u) = true by simp] at EQ
      have cs0 := HSS.out (w3.alloc (.cells #[.int .i64 kF, .int .i64 loF, .int .i64 hiF, .slice anF nnF cnF, .slice apF npF cpF, .slice arF nrF crF] 26)).drew (redrewB (Below.refl _ _))
      clear hc hx hl H4 hg hs
      go_wp2
      go_region_held3 (fun (wz : World) => wz.cell? ⟨w.heap.size, 4, none⟩ = some (.slice (some ⟨g, o, none⟩) np cp) ∧ wz.cell? ⟨w3.heap.size, 0, none⟩ = some (.int .i64 kF) ∧ wz.cell? ⟨w3.heap.size, 1, none⟩ = some (.int .i64 loF) ∧ wz.cell? ⟨w3.heap.size, 2, none⟩ = some (.int .i64 hiF) ∧ wz.cell? ⟨w3.heap.size, 3, none⟩ = some (.slice anF nnF cnF) ∧ wz.cell? ⟨w3.heap.size, 4, none⟩ = some (.slice apF npF cpF) ∧ wz.cell? ⟨w3.heap.size, 5, none⟩ = some (.slice arF nrF crF) ∧ wz.cell? ⟨g, o + i * 6, none⟩ = some (.int .i64 kU) ∧ wz.cell? ⟨g, o + i * 6 + 1, none⟩ = some (.int .i64 loU) ∧ wz.cell? ⟨g, o + i * 6 + 2, none⟩ = some (.int .i64 hiU) ∧ wz.cell? ⟨g, o + i * 6 + 3, none⟩ = some (.slice anU nnU cnU) ∧ wz.cell? ⟨g, o + i * 6 + 4, none⟩ = some (.slice apU npU cpU) ∧ wz.cell? ⟨g, o + i * 6 + 5, none⟩ = some (.slice arU nrU crU)) (first | with_reducible exact cs0 | with_reducible exact cs2 | go_keep) (first
        | (go_at_call 8; ((with_reducible refine (EQ.out _ (by first | exact redrewB (Below.refl _ _) | exact Below.refl _ _)).mono ?_); (rintro e w5 ⟨rfl, h5⟩); (have E5 := hid_of (undrew h5)); (have cs2 := HSS.out w5 (undrew h5)); clear h5)))
      go_wp2
      go_ret
      exact ⟨rfl, HBB.out.trans ((E4.out.trans (E5.out.mono E4.out.size)).mono HBB.out.size)⟩
    · have et := eq_f hx HBS.out (show t.ns[i] ≠ s from fun e => HF.out i (by omega) (by rw [List.getElem?_eq_getElem hl, e]))
      have HIN : Hid (i < n) := hid_of (by omega)
      clear hc hx hl H4 hg hi
      go_wp2
      go_roundw
      case rel => exact ⟨i + 1, by go_num, HIN.out, by first | trivial | rfl⟩
      case measure => have := HLT.out; simp [intOf]; omega
end Go.Proofs.Ytdmonbcinlmljaa
