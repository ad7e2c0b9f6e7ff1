/- clone of a description. Bounds on sizes alone. -/
import Derived.Test.YthgfhplhjplmcaaLatLc
namespace Go.Proofs.Ythgfhplhjplmcaa
open Go.RowKit

theorem redrewB {B : Nat} {w0 w : World} (h : Below B w0 w) : Below B w0 w.drew := ⟨h.os, h.tape, h.output, h.size, h.block⟩
theorem KI.start {w w1 w3 w4 w5 : World} {k lo hi : Int} {xo : Option Addr} {nn xc : Nat} {yo : Option Addr} {np yc : Nat} {zo : Option Addr} {nr zc : Nat} {t : Lat} {ps : List SxV} {ls : List PV} {c3 c4 c5 : Value}
    (hb1 : Below w.heap.size w w1) (hs : w1.heap.size = w.heap.size + 2) (hbox : w1.heap[w.heap.size]? = some (.cells [.int .i64 k, .int .i64 lo, .int .i64 hi, c3, c4, c5].toArray 26 (0, 0))) (hres : w1.heap[w.heap.size + 1]? = some (.cells #[.int .i64 0, .int .i64 0, .int .i64 0, .slice none 0 0, .slice none 0 0, .slice none 0 0] 26 (0, 0)))
    (b1 : Below w1.heap.size w1 w3) (n1 : w3.ownsRow w1.heap.size 9 1 (.slice xo nn xc) nn (ss t.ns)) (b2 : Below w3.heap.size w3 w4) (n2 : w4.ownsRow w3.heap.size 26 6 (.slice yo np yc) np (sxds ps)) (b3 : Below w4.heap.size w4 w5) (n3 : w5.ownsRow w4.heap.size 49 2 (.slice zo nr zc) nr (prs ls))
    (wf : World) (hwf : wf = ((w5.setCell ⟨w.heap.size, 3, none⟩ (.slice xo nn xc)).setCell ⟨w.heap.size, 4, none⟩ (.slice yo np yc)).setCell ⟨w.heap.size, 5, none⟩ (.slice zo nr zc)) :
    KI w w5.heap.size k lo hi xo nn xc yo np yc zo nr zc t ps ls [] 0 [] 0 wf := by
  have hsb : SameBut w.heap.size w5 wf := by rw [hwf]; exact (((SameBut.refl _ w5).set 3 _).set 4 _).set 5 _
  obtain ⟨ho, hsz, hos⟩ := hsb
  have s1 := b1.size
  have s2 := b2.size
  have s3 := b3.size
  have b13 : Below w1.heap.size w1 w5 := b1.trans ((b2.trans (b3.mono b2.size)).mono b1.size)
  have hb5 : Below w.heap.size w w5 := hb1.trans (b13.mono hb1.size)
  have lx : ∀ g, (Value.slice xo nn xc).ownBlock = some g → w1.heap.size ≤ g ∧ g < w3.heap.size := fun g hg => own_lt n1 hg
  have ly : ∀ g, (Value.slice yo np yc).ownBlock = some g → w3.heap.size ≤ g ∧ g < w4.heap.size := fun g hg => own_lt n2 hg
  have lz : ∀ g, (Value.slice zo nr zc).ownBlock = some g → w4.heap.size ≤ g ∧ g < w5.heap.size := fun g hg => own_lt n3 hg
  have base : ∀ {E s n : Nat} {v : Value} {xs : List Value} {wz : World} {B B' : Nat}, wz.ownsRow B E s v n xs → B' ≤ B → wz.ownsRow B' E s v n xs := fun h hB => by
    obtain ⟨h1, h2⟩ := h
    refine ⟨h1, ?_⟩
    rcases h2 with h2 | ⟨g, cap, cur, hv, hb, r⟩
    · exact .inl h2
    · exact .inr ⟨g, cap, cur, hv, Nat.le_trans hB hb, r⟩
  refine ⟨⟨hos.1.trans hb5.os, hos.2.1.trans hb5.tape, hos.2.2.trans hb5.output, by rw [hsz]; exact hb5.size, fun b hb => (ho b (by omega)).trans (hb5.block b hb)⟩, by omega, by omega, ?_, (ho _ (by omega)).trans ((b13.block _ (by omega)).trans hres), ?_, ?_, ?_, fun g hg => by have := lx g hg; omega, fun g hg => ?_, fun g hg => ?_, rfl, rfl, fun m y u hy => by simp at hy, fun m d r hd => by simp at hd⟩
  · have e1 := (b13.block w.heap.size (by omega)).trans hbox
    rw [hwf]
    exact blk_setCell (k := 5) (u := .slice zo nr zc) (blk_setCell (k := 4) (u := .slice yo np yc) (blk_setCell (k := 3) (u := .slice xo nn xc) e1))
  · exact own_same (base n1 (by omega)) fun g hg => (ho g (by have := lx g hg; omega)).trans ((b3.block g (by have := lx g hg; omega)).trans (b2.block g (by have := lx g hg; omega)))
  · rw [List.nil_append, List.drop_zero]
    exact own_same (base n2 (by omega)) fun g hg => (ho g (by have := ly g hg; omega)).trans (b3.block g (by have := ly g hg; omega))
  · rw [List.nil_append, List.drop_zero]
    exact own_same (base n3 (by omega)) fun g hg => ho g (by have := lz g hg; omega)
  · have := ly g hg
    exact ⟨by omega, fun e => by have := lx g e; omega, fun e => by have := lz g e; omega⟩
  · have := lz g hg
    exact ⟨by omega, fun e => by have := lx g e; omega⟩
theorem cs6 {w : World} {b : Nat} {E : TypeId} {m : Nat × Nat} {v0 v1 v2 v3 v4 v5 : Value} (h : w.heap[b]? = some (.cells #[v0, v1, v2, v3, v4, v5] E m)) : w.cell? ⟨b, 0, none⟩ = some v0 ∧ w.cell? ⟨b, 1, none⟩ = some v1 ∧ w.cell? ⟨b, 2, none⟩ = some v2 ∧ w.cell? ⟨b, 3, none⟩ = some v3 ∧ w.cell? ⟨b, 4, none⟩ = some v4 ∧ w.cell? ⟨b, 5, none⟩ = some v5 :=
  ⟨cell_blk (cs := [v0, v1, v2, v3, v4, v5]) h rfl, cell_blk (cs := [v0, v1, v2, v3, v4, v5]) h rfl, cell_blk (cs := [v0, v1, v2, v3, v4, v5]) h rfl, cell_blk (cs := [v0, v1, v2, v3, v4, v5]) h rfl, cell_blk (cs := [v0, v1, v2, v3, v4, v5]) h rfl, cell_blk (cs := [v0, v1, v2, v3, v4, v5]) h rfl⟩
theorem fz6 {w : World} {b : Nat} {E : TypeId} {cs : Array Value} (h : w.heap[b]? = some (.cells cs E (0, 0))) : w.frozen? ⟨b, 0, none⟩ = false ∧ w.frozen? ⟨b, 1, none⟩ = false ∧ w.frozen? ⟨b, 2, none⟩ = false ∧ w.frozen? ⟨b, 3, none⟩ = false ∧ w.frozen? ⟨b, 4, none⟩ = false ∧ w.frozen? ⟨b, 5, none⟩ = false :=
  ⟨by simp [World.frozen?, h], by simp [World.frozen?, h], by simp [World.frozen?, h], by simp [World.frozen?, h], by simp [World.frozen?, h], by simp [World.frozen?, h]⟩
theorem own_down {w : World} {B B' : Nat} {E : TypeId} {s n : Nat} {v : Value} {xs : List Value} (h : w.ownsRow B E s v n xs) (hB : B' ≤ B) : w.ownsRow B' E s v n xs := by
  obtain ⟨h1, h2⟩ := h
  refine ⟨h1, ?_⟩
  rcases h2 with h2 | ⟨g, cap, cur, hv, hb, r⟩
  · exact .inl h2
  · exact .inr ⟨g, cap, cur, hv, Nat.le_trans hB hb, r⟩
theorem small_of {t : Lat} (h : nodeE t = 0) : t.ns.length ≤ 32 ∧ t.rs.length ≤ 32 ∧ t.ps.length ≤ 32 := by
  have hs := node_shape h
  unfold nodeE at h
  split at h
  · cases h
  split at h
  · cases h
  rename_i h1 h2
  have hl : limL t.k ≤ 32 := by unfold limL; split <;> (try split) <;> omega
  refine ⟨by omega, by omega, ?_⟩
  unfold shapeB at hs
  split at hs
  · simp at hs; simp [hs]
  split at hs
  · simp at hs; simp [hs]
  split at hs
  · simp at hs; simp [hs]
  split at hs
  · simp at hs; omega
  split at hs
  · simp at hs; omega
  split at hs
  · simp at hs; omega
  split at hs
  · simp at hs; simp [hs]
  · cases hs
def CloC (t : Lat) : Prop := ∀ (k lo hi : Int) (an : Option Addr) (nn cn : Nat) (ap : Option Addr) (np cp : Nat) (ar : Option Addr) (nr cr : Nat) (w : World), LO w k lo hi an nn cn ap np cp ar nr cr t → Okay t → Calls Try.prog 41 #[.agg #[.int .i64 k, .int .i64 lo, .int .i64 hi, .slice an nn cn, .slice ap np cp, .slice ar nr cr]] w (ClP k lo hi nn np nr t w)
set_option maxRecDepth 100000 in
set_option maxHeartbeats 12800000 in
theorem clone_any : ∀ t, CloC t := by
  refine lat_ind ?_
  intro k' lo' hi' ns' ps' rs' ih k lo hi an nn cn ap np cp ar nr cr w H hok
  obtain ⟨t, ht⟩ : ∃ t, t = Lat.mk k' lo' hi' ns' ps' rs' := ⟨_, rfl⟩
  rw [← ht] at H hok ⊢
  obtain rfl : ps' = t.ps := by rw [ht]; rfl
  have hsm := small_of (by cases hok; assumption)
  have hkid : ∀ p ∈ t.ps, Okay p := by cases hok; assumption
  obtain ⟨psx, hp1, hp2, hp3⟩ := H.p
  obtain ⟨ls, hr1, hr2, hr3⟩ := H.r
  have hlp := H.lp
  have hln := H.ln
  have hlr := H.lr
  have hone6 : ∀ u ∈ sxds (psx.map LX.q), u.oneCell' = true := by
    intro u hu
    unfold sxds at hu
    obtain ⟨q, hq, hu⟩ := List.mem_flatMap.1 hu
    obtain ⟨x, hx, rfl⟩ := List.mem_map.1 hq
    obtain ⟨i, hi⟩ := List.getElem?_of_mem hx
    obtain ⟨v, hv⟩ : ∃ v, t.ps[i]? = some v := ⟨_, List.getElem?_eq_getElem (by have := (List.getElem?_eq_some_iff.1 hi).1; omega)⟩
    obtain ⟨a1, a2, a3, a4, a5, a6, a7, a8, a9, b1, b2, b3, rfl, _⟩ := (hp3 i x v hi hv).open
    simp only [LX.q, SxV.cs, List.mem_cons, List.not_mem_nil, or_false] at hu
    rcases hu with rfl | rfl | rfl | rfl | rfl | rfl <;> rfl
  have hone2 : ∀ u ∈ prs ls, u.oneCell' = true := by
    intro u hu
    unfold prs at hu
    obtain ⟨q, hq, hu⟩ := List.mem_flatMap.1 hu
    obtain ⟨i, hi⟩ := List.getElem?_of_mem hq
    obtain ⟨r, hr⟩ : ∃ r, t.rs[i]? = some r := ⟨_, List.getElem?_eq_getElem (by have := (List.getElem?_eq_some_iff.1 hi).1; omega)⟩
    obtain ⟨e1, e2⟩ := hr3 i q r hi hr
    obtain ⟨a, c, e, _⟩ := e1
    simp only [List.mem_cons, List.not_mem_nil, or_false] at hu
    rcases hu with rfl | rfl
    · rw [e]; rfl
    · rw [e2]; rfl
  have hplen : (psx.map LX.q).length = np := by rw [List.length_map]; omega
  have CS := hid_of (fun (wz : World) (hz : Below w.heap.size w wz) => cloneS_any an nn cn (ss t.ns) wz (H.n.at hz) (ss_one _) (by rw [ss_length]; omega))
  have CL := hid_of (fun (wz : World) (hz : Below w.heap.size w wz) => cloneL_any ap np cp (psx.map LX.q) wz (hp1.at hz) hone6 (by rw [hplen]; omega))
  have CR := hid_of (fun (wz : World) (hz : Below w.heap.size w wz) => cloneR_any ar nr cr ls wz (hr1.at hz) hone2 (by omega))
  have CALL := hid_of (fun (i : Nat) (u : Lat) (hu : t.ps[i]? = some u) => ih u (List.mem_of_getElem? hu))
  have HOK := hid_of hkid
  have HPD := hid_of hp3
  have HRD := hid_of hr3
  have HPL := hid_of hplen
  have HLL : Hid (ls.length = nr) := hid_of (by omega)
  have HNP := hid_of hlp
  have HNR := hid_of hlr
  have HNN := hid_of hln
  have HFF := hid_of (And.intro H.hk (And.intro H.hlo (And.intro H.hhi (And.intro H.rk (And.intro H.rlo (And.intro H.rhi (And.intro H.on H.or)))))))
  have hnp9 : np ≤ 9223372036854775807 := by omega
  have hnr9 : nr ≤ 9223372036854775807 := by omega
  have HRL := hid_of (fun (j : Nat) (r : Gr) (hr : t.rs[j]? = some r) => (H.or r (List.mem_of_getElem? hr)).2.2)
  have HB1 := hid_of (show Below w.heap.size w ((w.alloc (.cells #[.int .i64 k, .int .i64 lo, .int .i64 hi, .slice an nn cn, .slice ap np cp, .slice ar nr cr] 26)).alloc (.cells #[.int .i64 0, .int .i64 0, .int .i64 0, .slice none 0 0, .slice none 0 0, .slice none 0 0] 26)) from (bel_alloc w _).trans ((bel_alloc _ _).mono (by simp)))
  have h2n := two_new w (.cells #[.int .i64 k, .int .i64 lo, .int .i64 hi, .slice an nn cn, .slice ap np cp, .slice ar nr cr] 26) (.cells #[.int .i64 0, .int .i64 0, .int .i64 0, .slice none 0 0, .slice none 0 0, .slice none 0 0] 26)
  have H2N := hid_of h2n
  have HX : Hid (∀ wz, Below ((w.alloc (.cells #[.int .i64 k, .int .i64 lo, .int .i64 hi, .slice an nn cn, .slice ap np cp, .slice ar nr cr] 26)).alloc (.cells #[.int .i64 0, .int .i64 0, .int .i64 0, .slice none 0 0, .slice none 0 0, .slice none 0 0] 26)).heap.size ((w.alloc (.cells #[.int .i64 k, .int .i64 lo, .int .i64 hi, .slice an nn cn, .slice ap np cp, .slice ar nr cr] 26)).alloc (.cells #[.int .i64 0, .int .i64 0, .int .i64 0, .slice none 0 0, .slice none 0 0, .slice none 0 0] 26)) wz → wz.cell? ⟨w.heap.size, 3, none⟩ = some (.slice an nn cn) ∧ wz.cell? ⟨w.heap.size, 4, none⟩ = some (.slice ap np cp) ∧ wz.cell? ⟨w.heap.size, 5, none⟩ = some (.slice ar nr cr)) := hid_of (fun wz hz => by
    have e : wz.heap[w.heap.size]? = some (.cells [.int .i64 k, .int .i64 lo, .int .i64 hi, .slice an nn cn, .slice ap np cp, .slice ar nr cr].toArray 26) := (hz.block _ (by simp; omega)).trans h2n.1
    exact ⟨cell_blk e rfl, cell_blk e rfl, cell_blk e rfl⟩)
  have HFZ : Hid (∀ wz, Below ((w.alloc (.cells #[.int .i64 k, .int .i64 lo, .int .i64 hi, .slice an nn cn, .slice ap np cp, .slice ar nr cr] 26)).alloc (.cells #[.int .i64 0, .int .i64 0, .int .i64 0, .slice none 0 0, .slice none 0 0, .slice none 0 0] 26)).heap.size ((w.alloc (.cells #[.int .i64 k, .int .i64 lo, .int .i64 hi, .slice an nn cn, .slice ap np cp, .slice ar nr cr] 26)).alloc (.cells #[.int .i64 0, .int .i64 0, .int .i64 0, .slice none 0 0, .slice none 0 0, .slice none 0 0] 26)) wz → wz.frozen? ⟨w.heap.size, 3, none⟩ = false ∧ wz.frozen? ⟨w.heap.size, 4, none⟩ = false ∧ wz.frozen? ⟨w.heap.size, 5, none⟩ = false) := hid_of (fun wz hz => by
    have e : wz.heap[w.heap.size]? = some (.cells [.int .i64 k, .int .i64 lo, .int .i64 hi, .slice an nn cn, .slice ap np cp, .slice ar nr cr].toArray 26) := (hz.block _ (by simp; omega)).trans h2n.1
    exact ⟨by simp [World.frozen?, e], by simp [World.frozen?, e], by simp [World.frozen?, e]⟩)
  clear h2n ih H hok hsm hkid hp1 hp2 hp3 hr1 hr2 hr3 hlp hln hlr hone6 hone2 hplen ht
  go_enter Try.func41, Try.ntmps41
  go_wp2
  have cs0 := HX.out (((w.alloc (.cells #[.int .i64 k, .int .i64 lo, .int .i64 hi, .slice an nn cn, .slice ap np cp, .slice ar nr cr] 26)).alloc (.cells #[.int .i64 0, .int .i64 0, .int .i64 0, .slice none 0 0, .slice none 0 0, .slice none 0 0] 26)).drew) (redrewB (Below.refl _ _))
  refine wp_region_T (S := (fun (wz : World) => wz.cell? ⟨w.heap.size, 3, none⟩ = some (.slice an nn cn) ∧ wz.cell? ⟨w.heap.size, 4, none⟩ = some (.slice ap np cp) ∧ wz.cell? ⟨w.heap.size, 5, none⟩ = some (.slice ar nr cr))) (T := fun j => decide (j < 9)) (by kernel_rfl) ?_
  refine wpAnyT_take (i := 0) (oi := ⟨some 7, _, _, _, _, _⟩) (v := ?_) rfl (by kernel_rfl) (by kernel_rfl) (by kernel_rfl) (by kernel_rfl) (fun _ _ _ h => h) (Or.inl ⟨by rfl, ?hy⟩) cs0 ?_
  case hy => ((intro w hSw); (try dsimp only at hSw); go_simp <;> with_reducible rfl)
  (try simp only [Act.put, List.setIfInBounds_toArray, List.set_cons_zero, List.set_cons_succ])
  refine wpAnyT_take (i := 1) (oi := ⟨some 8, _, _, _, _, _⟩) (v := ?_) rfl (by kernel_rfl) (by kernel_rfl) (by kernel_rfl) (by kernel_rfl) (fun _ _ _ h => h) (Or.inl ⟨by rfl, ?hy⟩) cs0 ?_
  case hy => ((intro w hSw); (try dsimp only at hSw); go_simp <;> with_reducible rfl)
  (try simp only [Act.put, List.setIfInBounds_toArray, List.set_cons_zero, List.set_cons_succ])
  refine wpAnyT_take (i := 3) (oi := ⟨some 10, _, _, _, _, _⟩) (v := ?_) rfl (by kernel_rfl) (by kernel_rfl) (by kernel_rfl) (by kernel_rfl) (fun _ _ _ h => h) (Or.inl ⟨by rfl, ?hy⟩) cs0 ?_
  case hy => ((intro w hSw); (try dsimp only at hSw); go_simp <;> with_reducible rfl)
  (try simp only [Act.put, List.setIfInBounds_toArray, List.set_cons_zero, List.set_cons_succ])
  refine wpAnyT_take (i := 4) (oi := ⟨some 11, _, _, _, _, _⟩) (v := ?_) rfl (by kernel_rfl) (by kernel_rfl) (by kernel_rfl) (by kernel_rfl) (fun _ _ _ h => h) (Or.inl ⟨by rfl, ?hy⟩) cs0 ?_
  case hy => ((intro w hSw); (try dsimp only at hSw); go_simp <;> with_reducible rfl)
  (try simp only [Act.put, List.setIfInBounds_toArray, List.set_cons_zero, List.set_cons_succ])
  refine wpAnyT_take (i := 6) (oi := ⟨some 13, _, _, _, _, _⟩) (v := ?_) rfl (by kernel_rfl) (by kernel_rfl) (by kernel_rfl) (by kernel_rfl) (fun _ _ _ h => h) (Or.inl ⟨by rfl, ?hy⟩) cs0 ?_
  case hy => ((intro w hSw); (try dsimp only at hSw); go_simp <;> with_reducible rfl)
  (try simp only [Act.put, List.setIfInBounds_toArray, List.set_cons_zero, List.set_cons_succ])
  refine wpAnyT_take (i := 7) (oi := ⟨some 14, _, _, _, _, _⟩) (v := ?_) rfl (by kernel_rfl) (by kernel_rfl) (by kernel_rfl) (by kernel_rfl) (fun _ _ _ h => h) (Or.inl ⟨by rfl, ?hy⟩) cs0 ?_
  case hy => ((intro w hSw); (try dsimp only at hSw); go_simp <;> with_reducible rfl)
  (try simp only [Act.put, List.setIfInBounds_toArray, List.set_cons_zero, List.set_cons_succ])
  refine wpAnyT_ready (rs := [2]) (by kernel_rfl) (by simp) ?_
  refine AllReadyT.cons (o := _) rfl (fun K hK => ?_) AllReadyT.nil
  go_simp
  (go_at_call 58; ((with_reducible refine (CS.out _ (by first | exact redrewB HB1.out | exact HB1.out)).mono ?_); (rintro e w3 ⟨xo, xc, rfl, h3⟩); (have n1q := h3.own); (rw [ss_length, ← HNN.out] at n1q); (have N1 := hid_of n1q); (clear n1q); (have B1 := hid_of (undrew h3.bel)); (have BB3 := hid_of (HB1.out.trans ((undrew h3.bel).mono HB1.out.size))); (have cs3 := HX.out w3 (undrew h3.bel)); clear h3))
  (try go_wp2_with fail)
  refine hK.out _ _ (fun _ => cs3) ?_
  clear hK K
  (try simp only [Act.put, List.setIfInBounds_toArray, List.set_cons_zero, List.set_cons_succ])
  refine wpAnyT_pure (i := 9) (oi := ⟨some 16, _, _, _, _, _⟩) (v := ?_) rfl (by kernel_rfl) (by kernel_rfl) (by kernel_rfl) (by decide) (fun _ _ _ h => h) (Or.inl ⟨by rfl, ?hy⟩) ?_
  case hy => (intro w; go_simp <;> with_reducible rfl)
  (try simp only [Act.put, List.setIfInBounds_toArray, List.set_cons_zero, List.set_cons_succ])
  refine wpAnyT_ready (rs := [5]) (by kernel_rfl) (by simp) ?_
  refine AllReadyT.cons (o := _) rfl (fun K hK => ?_) AllReadyT.nil
  go_simp
  (go_at_call 59; ((with_reducible refine (CL.out _ BB3.out).mono ?_); (rintro e w4 ⟨yo, yc, rfl, h4⟩); (have n2q := h4.own); (rw [HPL.out] at n2q); (have N2 := hid_of n2q); (clear n2q); (have B2 := hid_of h4.bel); (have BB4 := hid_of (BB3.out.trans (h4.bel.mono BB3.out.size))); (have cs4 := HX.out w4 (B1.out.trans (h4.bel.mono B1.out.size))); clear h4))
  (try go_wp2_with fail)
  refine hK.out _ _ (fun _ => cs4) ?_
  clear hK K
  (try simp only [Act.put, List.setIfInBounds_toArray, List.set_cons_zero, List.set_cons_succ])
  refine wpAnyT_ready (rs := [8]) (by kernel_rfl) (by simp) ?_
  refine AllReadyT.cons (o := _) rfl (fun K hK => ?_) AllReadyT.nil
  go_simp
  (go_at_call 60; ((with_reducible refine (CR.out _ BB4.out).mono ?_); (rintro e w5 ⟨zo, zc, rfl, h5⟩); (have n3q := h5.own); (rw [HLL.out] at n3q); (have N3 := hid_of n3q); (clear n3q); (have B3 := hid_of h5.bel); (have cs5 := HX.out w5 (B1.out.trans ((B2.out.trans (h5.bel.mono B2.out.size)).mono B1.out.size))); (have fz := HFZ.out w5 (B1.out.trans ((B2.out.trans (h5.bel.mono B2.out.size)).mono B1.out.size))); clear h5))
  (try go_wp2_with fail)
  refine hK.out _ _ (fun _ => cs5) ?_
  clear hK K
  (try simp only [Act.put, List.setIfInBounds_toArray, List.set_cons_zero, List.set_cons_succ])
  refine wpAnyT_of_any _ _ _ _ (spent_spec (by kernel_rfl)) ?_
  obtain ⟨fz0, fz1, fz2⟩ := fz
  obtain ⟨cc0, cc1, cc2⟩ := cs5
  refine wpAny_ready (rs := [10]) (by kernel_rfl) (by simp) ?_
  refine AllReady.cons (o := _) rfl (fun K hK => ?_) AllReady.nil
  go_simp
  refine hK _ _ ?_
  clear hK K
  (try simp only [Act.put, List.setIfInBounds_toArray, List.set_cons_zero, List.set_cons_succ])
  refine wpAny_take (i := 11) (oi := ⟨some 17, _, _, _, _, _⟩) (v := ?_) rfl (by kernel_rfl) (by kernel_rfl) (by kernel_rfl) (fun _ _ _ h => h) (Or.inl ⟨by rfl, ?hy⟩) ?_
  case hy => (intro w; go_simp <;> with_reducible rfl)
  (try simp only [Act.put, List.setIfInBounds_toArray, List.set_cons_zero, List.set_cons_succ])
  refine wpAny_ready (rs := [12]) (by kernel_rfl) (by simp) ?_
  refine AllReady.cons (o := _) rfl (fun K hK => ?_) AllReady.nil
  go_simp
  refine hK _ _ ?_
  clear hK K
  (try simp only [Act.put, List.setIfInBounds_toArray, List.set_cons_zero, List.set_cons_succ])
  refine wpAny_take (i := 13) (oi := ⟨some 18, _, _, _, _, _⟩) (v := ?_) rfl (by kernel_rfl) (by kernel_rfl) (by kernel_rfl) (fun _ _ _ h => h) (Or.inl ⟨by rfl, ?hy⟩) ?_
  case hy => (intro w; go_simp <;> with_reducible rfl)
  (try simp only [Act.put, List.setIfInBounds_toArray, List.set_cons_zero, List.set_cons_succ])
  refine wpAny_ready (rs := [14]) (by kernel_rfl) (by simp) ?_
  refine AllReady.cons (o := _) rfl (fun K hK => ?_) AllReady.nil
  go_simp
  refine hK _ _ ?_
  clear hK K
  (try simp only [Act.put, List.setIfInBounds_toArray, List.set_cons_zero, List.set_cons_succ])
  refine wpAny_done (by kernel_rfl) ?_ _
  have HK0 := hid_of (KI.start (k := k) (lo := lo) (hi := hi) (t := t) HB1.out (by simp) H2N.out.1 H2N.out.2 B1.out N1.out B2.out N2.out B3.out N3.out _ rfl)
  generalize hD : w5.heap.size = D at HK0
  clear hD CS CL CR N1 N2 N3 B1 B2 B3 BB3 BB4 cs0 cs3 cs4 fz0 fz1 fz2 cc0 cc1 cc2 HX HFZ H2N HB1
  obtain ⟨wf, hwf⟩ : ∃ wf, wf = ((w5.setCell ⟨w.heap.size, 3, none⟩ (.slice xo nn xc)).setCell ⟨w.heap.size, 4, none⟩ (.slice yo np yc)).setCell ⟨w.heap.size, 5, none⟩ (.slice zo nr zc) := ⟨_, rfl⟩
  rw [← hwf] at HK0 ⊢
  have bx0 := HK0.out.box
  have bx4 : wf.cell? ⟨w.heap.size, 4, none⟩ = some (.slice yo np yc) := cell_blk (cs := [.int .i64 k, .int .i64 lo, .int .i64 hi, .slice xo nn xc, .slice yo np yc, .slice zo nr zc]) bx0 rfl
  clear hwf bx0
  go_wp2
  clear bx4
  go_loopw [22] (fun iv wr => ∃ (i : Nat) (qs : List SxV), iv = .int .i64 i ∧ i ≤ np ∧ Hid (KI w D k lo hi xo nn xc yo np yc zo nr zc t (psx.map LX.q) ls qs i [] 0 wr)) (fun iv _ => np - (intOf iv).toNat)
  case atStart => exact ⟨0, [], rfl, Nat.zero_le _, HK0⟩
  case round =>
    clear HK0
    obtain ⟨i, qs, rfl, hin, HK⟩ := hrel
    by_cases hlt : i < np
    · have d1 : decide (i < np) = true := decide_eq_true hlt
      have hlt' : (i : Int) < (np : Int) := by omega
      have HLT := hid_of hlt
      obtain ⟨u, hu⟩ : ∃ u, t.ps[i]? = some u := ⟨_, List.getElem?_eq_getElem (by have := HNP.out; omega)⟩
      obtain ⟨x, hx⟩ : ∃ x, psx[i]? = some x := ⟨_, List.getElem?_eq_getElem (by have := HPL.out; rw [List.length_map] at this; omega)⟩
      have hq : (psx.map LX.q)[i]? = some x.q := by rw [List.getElem?_map, hx]; rfl
      have hat : (qs ++ (psx.map LX.q).drop i)[i]? = some x.q := by
        rw [List.getElem?_append_right (by rw [HK.out.ql]; exact Nat.le_refl _), HK.out.ql, Nat.sub_self, List.getElem?_drop]
        exact hq
      obtain ⟨kA, loA, hiA, anA, nnA, cnA, apA, npA, cpA, arA, nrA, crA, rfl, LU⟩ := (HPD.out i x u hx hu).open
      obtain ⟨g, rfl, hg1, hg2, hc⟩ := own_at HK.out.par (by omega)
      obtain ⟨g0, g1, g2, g3, g4, g5⟩ := sxds_get _ _ _ hat
      have c0 := (hc _ _ g0).1
      have c1 := (hc _ _ g1).1
      have c2 := (hc _ _ g2).1
      have c3 := (hc _ _ g3).1
      have c4 := (hc _ _ g4).1
      have c5 := (hc _ _ g5).1
      simp only [LX.q] at c0 c1 c2 c3 c4 c5
      have HGB : Hid (w.heap.size + 2 ≤ g) := hid_of hg1
      have CI := hid_of (fun (wz : World) (hz : Below w.heap.size w wz) => CALL.out i u hu kA loA hiA anA nnA cnA apA npA cpA arA nrA crA wz (LU.at hz) (HOK.out u (List.mem_of_getElem? hu)))
      have HBX : Hid (∀ w2, Below wr.heap.size wr w2 → w2.cell? ⟨w.heap.size, 4, none⟩ = some (.slice (some ⟨g, 0, none⟩) np yc)) := hid_of (fun w2 h2 => cell_blk (cs := [.int .i64 k, .int .i64 lo, .int .i64 hi, .slice xo nn xc, .slice (some ⟨g, 0, none⟩) np yc, .slice zo nr zc]) (HK.out.call h2).box rfl)
      have HSP : Hid (∀ w2, Below wr.heap.size wr w2 → (∃ p0 p1 p2 p3 p4 p5, w2.cell? ⟨g, i * 6, none⟩ = some p0 ∧ w2.cell? ⟨g, i * 6 + 1, none⟩ = some p1 ∧ w2.cell? ⟨g, i * 6 + 2, none⟩ = some p2 ∧ w2.cell? ⟨g, i * 6 + 3, none⟩ = some p3 ∧ w2.cell? ⟨g, i * 6 + 4, none⟩ = some p4 ∧ w2.cell? ⟨g, i * 6 + 5, none⟩ = some p5) ∧ w2.frozen? ⟨g, i * 6, none⟩ = false ∧ w2.frozen? ⟨g, i * 6 + 1, none⟩ = false ∧ w2.frozen? ⟨g, i * 6 + 2, none⟩ = false ∧ w2.frozen? ⟨g, i * 6 + 3, none⟩ = false ∧ w2.frozen? ⟨g, i * 6 + 4, none⟩ = false ∧ w2.frozen? ⟨g, i * 6 + 5, none⟩ = false) := hid_of (fun w2 h2 => by
        obtain ⟨g', e, _, _, hc2⟩ := own_at (HK.out.call h2).par (by have := HLT.out; omega)
        cases e
        exact ⟨⟨_, _, _, _, _, _, (hc2 _ _ g0).1, (hc2 _ _ g1).1, (hc2 _ _ g2).1, (hc2 _ _ g3).1, (hc2 _ _ g4).1, (hc2 _ _ g5).1⟩, (hc2 _ _ g0).2, (hc2 _ _ g1).2, (hc2 _ _ g2).2, (hc2 _ _ g3).2, (hc2 _ _ g4).2, (hc2 _ _ g5).2⟩)
      have HSS : Hid (∀ w2, Below (wr.alloc (.cells #[.int .i64 kA, .int .i64 loA, .int .i64 hiA, .slice anA nnA cnA, .slice apA npA cpA, .slice arA nrA crA] 26)).heap.size (wr.alloc (.cells #[.int .i64 kA, .int .i64 loA, .int .i64 hiA, .slice anA nnA cnA, .slice apA npA cpA, .slice arA nrA crA] 26)) w2 → ∀ v0 v1 v2 v3 v4 v5 wg, wg = ((((((w2.setCell ⟨g, i * 6, none⟩ v0).setCell ⟨g, i * 6 + 1, none⟩ v1).setCell ⟨g, i * 6 + 2, none⟩ v2).setCell ⟨g, i * 6 + 3, none⟩ v3).setCell ⟨g, i * 6 + 4, none⟩ v4).setCell ⟨g, i * 6 + 5, none⟩ v5) → (fun (wz : World) => wz.cell? ⟨w.heap.size, 4, none⟩ = some (.slice (some ⟨g, 0, none⟩) np yc) ∧ wz.cell? ⟨wr.heap.size, 0, none⟩ = some (.int .i64 kA) ∧ wz.cell? ⟨wr.heap.size, 1, none⟩ = some (.int .i64 loA) ∧ wz.cell? ⟨wr.heap.size, 2, none⟩ = some (.int .i64 hiA) ∧ wz.cell? ⟨wr.heap.size, 3, none⟩ = some (.slice anA nnA cnA) ∧ wz.cell? ⟨wr.heap.size, 4, none⟩ = some (.slice apA npA cpA) ∧ wz.cell? ⟨wr.heap.size, 5, none⟩ = some (.slice arA nrA crA)) wg) := hid_of (fun w2 h2 v0 v1 v2 v3 v4 v5 wg hwg => by
        obtain ⟨ho, _, _⟩ := six_set w2 g (i * 6) v0 v1 v2 v3 v4 v5 wg hwg
        obtain ⟨a0, a1, a2, a3, a4, a5⟩ := box6 kA loA hiA anA nnA cnA apA npA cpA arA nrA crA h2
        have hgD := (HK.out.lty g rfl).1
        have hD2 := HK.out.d2
        have hgb := HGB.out
        exact ⟨(World.cell?_of_block (w := w2) (ho w.heap.size (by omega))).trans (HBX.out w2 ((bel_alloc wr _).trans (h2.mono (by simp)))), (World.cell?_of_block (w := w2) (ho wr.heap.size (by omega))).trans a0, (World.cell?_of_block (w := w2) (ho wr.heap.size (by omega))).trans a1, (World.cell?_of_block (w := w2) (ho wr.heap.size (by omega))).trans a2, (World.cell?_of_block (w := w2) (ho wr.heap.size (by omega))).trans a3, (World.cell?_of_block (w := w2) (ho wr.heap.size (by omega))).trans a4, (World.cell?_of_block (w := w2) (ho wr.heap.size (by omega))).trans a5⟩)
      have HS2 : Hid (∀ w2, Below (wr.alloc (.cells #[.int .i64 kA, .int .i64 loA, .int .i64 hiA, .slice anA nnA cnA, .slice apA npA cpA, .slice arA nrA crA] 26)).heap.size (wr.alloc (.cells #[.int .i64 kA, .int .i64 loA, .int .i64 hiA, .slice anA nnA cnA, .slice apA npA cpA, .slice arA nrA crA] 26)) w2 → ∀ v0 v1 v2 v3 v4 v5, (fun (wz : World) => wz.cell? ⟨w.heap.size, 4, none⟩ = some (.slice (some ⟨g, 0, none⟩) np yc) ∧ wz.cell? ⟨wr.heap.size, 0, none⟩ = some (.int .i64 kA) ∧ wz.cell? ⟨wr.heap.size, 1, none⟩ = some (.int .i64 loA) ∧ wz.cell? ⟨wr.heap.size, 2, none⟩ = some (.int .i64 hiA) ∧ wz.cell? ⟨wr.heap.size, 3, none⟩ = some (.slice anA nnA cnA) ∧ wz.cell? ⟨wr.heap.size, 4, none⟩ = some (.slice apA npA cpA) ∧ wz.cell? ⟨wr.heap.size, 5, none⟩ = some (.slice arA nrA crA)) ((((((w2.setCell ⟨g, i * 6, none⟩ v0).setCell ⟨g, i * 6 + 1, none⟩ v1).setCell ⟨g, i * 6 + 2, none⟩ v2).setCell ⟨g, i * 6 + 3, none⟩ v3).setCell ⟨g, i * 6 + 4, none⟩ v4).setCell ⟨g, i * 6 + 5, none⟩ v5)) := hid_of (fun w2 h2 v0 v1 v2 v3 v4 v5 => HSS.out w2 h2 v0 v1 v2 v3 v4 v5 _ rfl)
      have HST : Hid (∀ (w2 : World) (a1 : Option Addr) (m1 : Nat) (a2 : Option Addr) (m2 : Nat) (a3 : Option Addr) (m3 : Nat), Below wr.heap.size wr w2 → LB wr.heap.size w2 ⟨kA, loA, hiA, .slice a1 nnA m1, .slice a2 npA m2, .slice a3 nrA m3⟩ u → ∀ wg, wg = ((((((w2.setCell ⟨g, i * 6, none⟩ (.int .i64 kA)).setCell ⟨g, i * 6 + 1, none⟩ (.int .i64 loA)).setCell ⟨g, i * 6 + 2, none⟩ (.int .i64 hiA)).setCell ⟨g, i * 6 + 3, none⟩ (.slice a1 nnA m1)).setCell ⟨g, i * 6 + 4, none⟩ (.slice a2 npA m2)).setCell ⟨g, i * 6 + 5, none⟩ (.slice a3 nrA m3)) → ∃ qs', KI w D k lo hi xo nn xc (some ⟨g, 0, none⟩) np yc zo nr zc t (psx.map LX.q) ls qs' (i + 1) [] 0 wg) := hid_of (fun w2 a1 m1 a2 m2 a3 m3 hb hl wg hwg => ⟨_, (HK.out.call hb).part hq hu (hl.mono HK.out.d2) wg hwg⟩)
      have HBL := hid_of HK.out.bel
      have HB0 := HBX.out wr (Below.refl _ _)
      have HTB : Hid (∀ w2, Below (wr.alloc (.cells #[.int .i64 kA, .int .i64 loA, .int .i64 hiA, .slice anA nnA cnA, .slice apA npA cpA, .slice arA nrA crA] 26)).heap.size (wr.alloc (.cells #[.int .i64 kA, .int .i64 loA, .int .i64 hiA, .slice anA nnA cnA, .slice apA npA cpA, .slice arA nrA crA] 26)) w2 → (fun (wz : World) => wz.cell? ⟨w.heap.size, 4, none⟩ = some (.slice (some ⟨g, 0, none⟩) np yc) ∧ wz.cell? ⟨wr.heap.size, 0, none⟩ = some (.int .i64 kA) ∧ wz.cell? ⟨wr.heap.size, 1, none⟩ = some (.int .i64 loA) ∧ wz.cell? ⟨wr.heap.size, 2, none⟩ = some (.int .i64 hiA) ∧ wz.cell? ⟨wr.heap.size, 3, none⟩ = some (.slice anA nnA cnA) ∧ wz.cell? ⟨wr.heap.size, 4, none⟩ = some (.slice apA npA cpA) ∧ wz.cell? ⟨wr.heap.size, 5, none⟩ = some (.slice arA nrA crA)) w2) := hid_of (fun w2 h2 => ⟨HBX.out w2 ((bel_alloc wr _).trans (h2.mono (by simp))), box6 kA loA hiA anA nnA cnA apA npA cpA arA nrA crA h2⟩)
      have HBA := hid_of (bel_alloc wr (.cells #[.int .i64 kA, .int .i64 loA, .int .i64 hiA, .slice anA nnA cnA, .slice apA npA cpA, .slice arA nrA crA] 26))
      clear hlt hu hx hq hat LU hc g0 g1 g2 g3 g4 g5 hg1 hg2 CALL
      go_wp2
      have cs0 := HTB.out (wr.alloc (.cells #[.int .i64 kA, .int .i64 loA, .int .i64 hiA, .slice anA nnA cnA, .slice apA npA cpA, .slice arA nrA crA] 26)).drew (redrewB (Below.refl _ _))
      go_region_held3 (fun (wz : World) => wz.cell? ⟨w.heap.size, 4, none⟩ = some (.slice (some ⟨g, 0, none⟩) np yc) ∧ wz.cell? ⟨wr.heap.size, 0, none⟩ = some (.int .i64 kA) ∧ wz.cell? ⟨wr.heap.size, 1, none⟩ = some (.int .i64 loA) ∧ wz.cell? ⟨wr.heap.size, 2, none⟩ = some (.int .i64 hiA) ∧ wz.cell? ⟨wr.heap.size, 3, none⟩ = some (.slice anA nnA cnA) ∧ wz.cell? ⟨wr.heap.size, 4, none⟩ = some (.slice apA npA cpA) ∧ wz.cell? ⟨wr.heap.size, 5, none⟩ = some (.slice arA nrA crA)) (first | with_reducible exact cs0 | with_reducible exact cs2 | with_reducible exact k9 _ _ _ _ _ _ | go_keep) (first
        | (go_at_call 41; ((with_reducible refine (CI.out _ (by first | exact redrewB (HBL.out.trans (HBA.out.mono HBL.out.size)) | exact (HBL.out.trans (HBA.out.mono HBL.out.size)))).mono ?_); (rintro e w2 ⟨a1, m1, a2, m2, a3, m3, rfl, hl, h2⟩); (have HLB := hid_of hl); (have HB2 := hid_of (undrew h2)); (have cs2 := HTB.out w2 (undrew h2)); (have k9 := HS2.out w2 (undrew h2)); (obtain ⟨⟨p0, p1, p2, p3, p4, p5, q0, q1, q2, q3, q4, q5⟩, r0, r1, r2, r3, r4, r5⟩ := HSP.out w2 (HBA.out.trans ((undrew h2).mono HBA.out.size))); clear hl h2)))
      go_wp2
      go_roundw
      case rel =>
        obtain ⟨qs2, hk2⟩ := HST.out w2 a1 m1 a2 m2 a3 m3 (HBA.out.trans (HB2.out.mono HBA.out.size)) (HLB.out.mono HBA.out.size) _ rfl
        exact ⟨i + 1, qs2, by go_num, HLT.out, hid_of hk2⟩
      case measure => have := HLT.out; simp [intOf]; omega
    · have d1 : decide (i < np) = false := decide_eq_false hlt
      obtain rfl : i = np := by omega
      have hbx := HK.out.box
      have bx5 : wr.cell? ⟨w.heap.size, 5, none⟩ = some (.slice zo nr zc) := cell_blk (cs := [.int .i64 k, .int .i64 lo, .int .i64 hi, .slice xo nn xc, .slice yo i yc, .slice zo nr zc]) hbx rfl
      have HKA := HK
      clear hbx hlt HK
      go_wp2
      clear bx5
      obtain ⟨wo, hwo⟩ : ∃ wo : World, wo = wr := ⟨_, rfl⟩
      rw [← hwo] at HKA ⊢
      clear hwo
      go_loopw [37] (fun iv wr => ∃ (j : Nat) (ds : List PV), iv = .int .i64 j ∧ j ≤ nr ∧ Hid (KI w D k lo hi xo nn xc yo i yc zo nr zc t (psx.map LX.q) ls qs i ds j wr)) (fun iv _ => nr - (intOf iv).toNat)
      case atStart => exact ⟨0, [], rfl, Nat.zero_le _, HKA⟩
      case round =>
        clear HKA
        obtain ⟨j, ds, rfl, hjn, HK⟩ := hrel
        by_cases hlt : j < nr
        · have d2 : decide (j < nr) = true := decide_eq_true hlt
          have hlt' : (j : Int) < (nr : Int) := by omega
          have HLT := hid_of hlt
          obtain ⟨r, hr⟩ : ∃ r, t.rs[j]? = some r := ⟨_, List.getElem?_eq_getElem (by have := HNR.out; omega)⟩
          obtain ⟨d, hd⟩ : ∃ d, ls[j]? = some d := ⟨_, List.getElem?_eq_getElem (by have := HLL.out; omega)⟩
          have hat : (ds ++ ls.drop j)[j]? = some d := by
            rw [List.getElem?_append_right (by rw [HK.out.dl]; exact Nat.le_refl _), HK.out.dl, Nat.sub_self, List.getElem?_drop]
            exact hd
          obtain ⟨hr1, hr2⟩ := HRD.out j d r hd hr
          have hr1b := hr1
          obtain ⟨rA, rC, hrv, _⟩ := hr1
          obtain ⟨rN, hrN⟩ : ∃ rN, rN = r.1.length := ⟨_, rfl⟩
          rw [ss_length, ← hrN] at hrv
          rw [hrv] at hr1b
          obtain ⟨bt, hbt⟩ : ∃ bt, bt = ba r.2 := ⟨_, rfl⟩
          have hr2b := hr2
          rw [← hbt] at hr2b
          obtain ⟨g, rfl, hg1, hg2, hc⟩ := own_at HK.out.rul (by omega)
          obtain ⟨g0, g1⟩ := prs_get _ _ _ hat
          have c0 := (hc _ _ g0).1
          have c1 := (hc _ _ g1).1
          rw [hrv] at c0
          rw [hr2b] at c1
          have HGB : Hid (w.heap.size + 2 ≤ g) := hid_of hg1
          have HRR := hid_of hrN
          have CI := hid_of (fun (wz : World) (hz : Below w.heap.size w wz) => cloneS_any rA rN rC (ss r.1) wz (hr1b.at hz) (ss_one _) (by rw [ss_length]; have := HRL.out j r hr; omega))
          have HBX : Hid (∀ w2, Below wr.heap.size wr w2 → w2.cell? ⟨w.heap.size, 5, none⟩ = some (.slice (some ⟨g, 0, none⟩) nr zc)) := hid_of (fun w2 h2 => cell_blk (cs := [.int .i64 k, .int .i64 lo, .int .i64 hi, .slice xo nn xc, .slice yo i yc, .slice (some ⟨g, 0, none⟩) nr zc]) (HK.out.call h2).box rfl)
          have HSP : Hid (∀ w2, Below wr.heap.size wr w2 → (∃ p0, w2.cell? ⟨g, j * 2, none⟩ = some p0) ∧ w2.frozen? ⟨g, j * 2, none⟩ = false) := hid_of (fun w2 h2 => by
            obtain ⟨g', e, _, _, hc2⟩ := own_at (HK.out.call h2).rul (by have := HLT.out; omega)
            cases e
            exact ⟨⟨_, (hc2 _ _ g0).1⟩, (hc2 _ _ g0).2⟩)
          have HT0 : Hid (∀ w2, Below (wr.alloc (.cells #[.slice rA rN rC, .string bt] 49)).heap.size (wr.alloc (.cells #[.slice rA rN rC, .string bt] 49)) w2 → w2.cell? ⟨wr.heap.size, 0, none⟩ = some (.slice rA rN rC)) := hid_of (fun w2 h2 => cell_blk (cs := [.slice rA rN rC, .string bt]) ((h2.block _ (by simp)).trans (heap_alloc_new wr _)) rfl)
          have HTB : Hid (∀ w2, Below (wr.alloc (.cells #[.slice rA rN rC, .string bt] 49)).heap.size (wr.alloc (.cells #[.slice rA rN rC, .string bt] 49)) w2 → (fun (wz : World) => wz.cell? ⟨w.heap.size, 5, none⟩ = some (.slice (some ⟨g, 0, none⟩) nr zc) ∧ wz.cell? ⟨wr.heap.size, 0, none⟩ = some (.slice rA rN rC)) w2) := hid_of (fun w2 h2 => ⟨HBX.out w2 ((bel_alloc wr _).trans (h2.mono (by simp))), HT0.out w2 h2⟩)
          have HSS : Hid (∀ w2, Below (wr.alloc (.cells #[.slice rA rN rC, .string bt] 49)).heap.size (wr.alloc (.cells #[.slice rA rN rC, .string bt] 49)) w2 → ∀ v0, (fun (wz : World) => wz.cell? ⟨w.heap.size, 5, none⟩ = some (.slice (some ⟨g, 0, none⟩) nr zc) ∧ wz.cell? ⟨wr.heap.size, 0, none⟩ = some (.slice rA rN rC)) (w2.setCell ⟨g, j * 2, none⟩ v0)) := hid_of (fun w2 h2 v0 => by
            have hgD := (HK.out.ltz g rfl).1
            have hD2 := HK.out.d2
            have hgb := HGB.out
            exact ⟨(World.cell?_of_block (w := w2) (Below.heap_setCell _ _ _ _ (show w.heap.size ≠ g by omega))).trans (HTB.out w2 h2).1, (World.cell?_of_block (w := w2) (Below.heap_setCell _ _ _ _ (show wr.heap.size ≠ g by omega))).trans (HTB.out w2 h2).2⟩)
          have HST : Hid (∀ (w2 : World) (a1 : Option Addr) (m1 : Nat), Below wr.heap.size wr w2 → w2.ownsRow wr.heap.size 9 1 (.slice a1 rN m1) rN (ss r.1) → ∃ ds', KI w D k lo hi xo nn xc yo i yc (some ⟨g, 0, none⟩) nr zc t (psx.map LX.q) ls qs i ds' (j + 1) (w2.setCell ⟨g, j * 2, none⟩ (.slice a1 rN m1))) := hid_of (fun w2 a1 m1 hb hl => ⟨_, (HK.out.call hb).rule hd hr (rd_of_own hl (by rw [ss_length, HRR.out])) ((own_ge hl).mono HK.out.d2) hr2⟩)
          have HBL := hid_of HK.out.bel
          have HBA := hid_of (bel_alloc wr (.cells #[.slice rA rN rC, .string bt] 49))
          clear hlt hr hd hat hr1b hr2 hr2b hrv hbt hrN hc g0 g1 hg1 hg2
          go_wp2
          have cs0 := HTB.out (wr.alloc (.cells #[.slice rA rN rC, .string bt] 49)).drew (redrewB (Below.refl _ _))
          go_region_held3 (fun (wz : World) => wz.cell? ⟨w.heap.size, 5, none⟩ = some (.slice (some ⟨g, 0, none⟩) nr zc) ∧ wz.cell? ⟨wr.heap.size, 0, none⟩ = some (.slice rA rN rC)) (first | with_reducible exact cs0 | with_reducible exact cs2 | with_reducible exact k9 _ | go_keep) (first
            | (go_at_call 58; ((with_reducible refine (CI.out _ (by first | exact redrewB (HBL.out.trans (HBA.out.mono HBL.out.size)) | exact (HBL.out.trans (HBA.out.mono HBL.out.size)))).mono ?_); (rintro e w2 ⟨a1, m1, rfl, hl⟩); (have hlo := hl.own); (rw [ss_length, ← HRR.out] at hlo); (have HLO := hid_of hlo); (have HB2 := hid_of (undrew hl.bel)); (have cs2 := HTB.out w2 (undrew hl.bel)); (have k9 := HSS.out w2 (undrew hl.bel)); (obtain ⟨⟨p0, q0⟩, r0⟩ := HSP.out w2 (HBA.out.trans ((undrew hl.bel).mono HBA.out.size))); clear hl hlo)))
          go_wp2
          go_roundw
          case rel =>
            have hlo := HLO.out
            obtain ⟨ds2, hk2⟩ := HST.out w2 a1 m1 (HBA.out.trans (HB2.out.mono HBA.out.size)) (own_down hlo HBA.out.size)
            exact ⟨j + 1, ds2, by go_num, HLT.out, hid_of hk2⟩
          case measure => have := HLT.out; simp [intOf]; omega
        · have d2 : decide (j < nr) = false := decide_eq_false hlt
          obtain rfl : j = nr := by omega
          obtain ⟨e1, e2, e3, e4, e5, e6, e7, e8⟩ := HFF.out
          have HKD := hid_of HK.out
          obtain ⟨b0, b1, b2, b3, b4, b5⟩ := cs6 HK.out.box
          obtain ⟨z0, z1, z2, z3, z4, z5⟩ := cs6 HK.out.res
          obtain ⟨y0, y1, y2, y3, y4, y5⟩ := fz6 HK.out.res
          have HDN := hid_of (fun (wf : World) hwf => HK.out.done HPL.out HLL.out HNP.out HNN.out HNR.out e1 e2 e3 e4 e5 e6 e7 e8 wf hwf)
          clear e1 e2 e3 e4 e5 e6 e7 e8 hlt
          go_wp2
          have hz := HDN.out _ rfl
          refine bodyPost_ret (results_cell_row rfl _ _ (w.heap.size + 1) 26 #[.int .i64 k, .int .i64 lo, .int .i64 hi, .slice xo nn xc, .slice yo i yc, .slice zo j zc] (0, 0) _ rfl hz.1 Try.underlying26 rfl infoLat) rfl ⟨_, _, _, _, _, _, rfl, hz.2.1, hz.2.2⟩
end Go.Proofs.Ythgfhplhjplmcaa
