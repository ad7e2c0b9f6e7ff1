/- Blame, Monotone, contains. No condition. -/
import Derived.Test.YtdacalplnggnoaaDoorVarBla
namespace Go.Proofs.YtdacalplnggnoaaDoor
open Go.RowKit

theorem cs16 {w : World} {b : Nat} {E : TypeId} {m : Nat × Nat} {u0 u1 u2 u3 v0 v1 v2 v3 v4 v5 v6 v7 v8 v9 v10 v11 : Value} (h : w.heap[b]? = some (.cells #[u0, u1, u2, u3, v0, v1, v2, v3, v4, v5, v6, v7, v8, v9, v10, v11] E m)) :
    w.cell? ⟨b, 3, none⟩ = some u3 ∧ w.cell? ⟨b, 4, none⟩ = some v0 ∧ w.cell? ⟨b, 4 + 1, none⟩ = some v1 ∧ w.cell? ⟨b, 4 + 2, none⟩ = some v2 ∧ w.cell? ⟨b, 4 + 3, none⟩ = some v3 ∧ w.cell? ⟨b, 4 + 4, none⟩ = some v4 ∧ w.cell? ⟨b, 4 + 5, none⟩ = some v5 ∧ w.cell? ⟨b, 4 + 6, none⟩ = some v6 ∧ w.cell? ⟨b, 4 + 7, none⟩ = some v7 ∧ w.cell? ⟨b, 4 + 8, none⟩ = some v8 ∧ w.cell? ⟨b, 4 + 9, none⟩ = some v9 ∧ w.cell? ⟨b, 4 + 10, none⟩ = some v10 ∧ w.cell? ⟨b, 4 + 11, none⟩ = some v11 := by
  have q : ∀ j u, #[u0, u1, u2, u3, v0, v1, v2, v3, v4, v5, v6, v7, v8, v9, v10, v11].toList[j]? = some u → w.cell? ⟨b, j, none⟩ = some u := fun j u hu => by
    have := World.news_of_block h j u hu
    rw [Addr.add_mid, Nat.zero_add] at this
    exact this
  exact ⟨q _ _ rfl, q _ _ rfl, q _ _ rfl, q _ _ rfl, q _ _ rfl, q _ _ rfl, q _ _ rfl, q _ _ rfl, q _ _ rfl, q _ _ rfl, q _ _ rfl, q _ _ rfl, q _ _ rfl⟩
theorem xat_fun {w : World} (u0 u1 u2 u3 : Value) (opa sra kda loa hia : Int) (vna vpa vra : Value) (na : Int) (vta : Value) (pta : Int) (vka : Value) {t : Ex} (H : ED w ⟨opa, sra, kda, loa, hia, vna, vpa, vra, na, vta, pta, vka⟩ t) : XAt (w.alloc (.cells #[u0, u1, u2, u3, .int .i64 opa, .int .i64 sra, .int .i64 kda, .int .i64 loa, .int .i64 hia, vna, vpa, vra, .int .i64 na, vta, .int .i64 pta, vka] 43)) w.heap.size 4 ⟨opa, sra, kda, loa, hia, vna, vpa, vra, na, vta, pta, vka⟩ t := by
  obtain ⟨-, c0, c1, c2, c3, c4, c5, c6, c7, c8, c9, c10, c11⟩ := cs16 (heap_alloc_new w (.cells #[u0, u1, u2, u3, .int .i64 opa, .int .i64 sra, .int .i64 kda, .int .i64 loa, .int .i64 hia, vna, vpa, vra, .int .i64 na, vta, .int .i64 pta, vka] 43))
  exact ⟨H.at (bel_alloc w _), by simp, c0, c1, c2, c3, c4, c5, c6, c7, c8, c9, c10, c11⟩
def blmF (res : Int) (t : Ex) : Int := if res = 0 then -1 else if accB (vary t) then -1 else blameF t 1
def monF (res : Int) (t : Ex) : Bool := decide (res ≠ 0) && accB (vary t)
set_option maxRecDepth 100000 in
set_option maxHeartbeats 3200000 in
theorem mono_any (u0 u1 u2 : Value) (res : Int) (opa sra kda loa hia : Int) (vna vpa vra : Value) (na : Int) (vta : Value) (pta : Int) (vka : Value) (t : Ex) (w : World) (HG : Gl w) (H : ED w ⟨opa, sra, kda, loa, hia, vna, vpa, vra, na, vta, pta, vka⟩ t) (hw : Wid t) :
    Calls Tryd.prog 15 #[.agg #[u0, u1, u2, .int .i64 res, .int .i64 opa, .int .i64 sra, .int .i64 kda, .int .i64 loa, .int .i64 hia, vna, vpa, vra, .int .i64 na, vta, .int .i64 pta, vka]] w (BooP (monF res t) w) := by
  have OF := hid_of (of_any opa sra kda loa hia vna vpa vra na vta pta vka t _ (HG.at (bel_alloc w (.cells #[u0, u1, u2, .int .i64 res, .int .i64 opa, .int .i64 sra, .int .i64 kda, .int .i64 loa, .int .i64 hia, vna, vpa, vra, .int .i64 na, vta, .int .i64 pta, vka] 43))) (H.at (bel_alloc w _)) hw)
  have HB := hid_of (bel_alloc w (.cells #[u0, u1, u2, .int .i64 res, .int .i64 opa, .int .i64 sra, .int .i64 kda, .int .i64 loa, .int .i64 hia, vna, vpa, vra, .int .i64 na, vta, .int .i64 pta, vka] 43))
  obtain ⟨r, hr⟩ : ∃ r, r = monF res t := ⟨_, rfl⟩
  rw [← hr]
  unfold monF at hr
  by_cases h0 : res = 0
  · rw [decide_eq_false (fun h => h h0), Bool.false_and] at hr
    subst h0 hr
    clear OF H hw HG
    go_enter Tryd.func15, Tryd.ntmps15
    go_wp2
    go_ret
    exact ⟨rfl, HB.out⟩
  · rw [decide_eq_true h0, Bool.true_and] at hr
    have e0 : (res != 0) = true := bne_iff_ne.2 h0
    have AC := hid_of (fun wz => acc_any (vary t) wz)
    rw [← hr] at AC
    obtain ⟨vv, hvv⟩ : ∃ vv, vv = vary t := ⟨_, rfl⟩
    rw [← hvv] at OF AC
    clear h0 H hw HG hr hvv
    go_enter Tryd.func15, Tryd.ntmps15
    go_wp2_with (first
      | (go_at_call 13; ((with_reducible refine (OF.out).mono ?_); (rintro e w2 ⟨rfl, h2⟩); (have H2 := hid_of h2); clear h2))
      | (go_at_call 19; ((with_reducible refine (AC.out _).mono ?_); (rintro e w3 ⟨rfl, rfl⟩))))
    go_ret
    exact ⟨rfl, bel_chain HB.out H2.out⟩
set_option maxRecDepth 100000 in
set_option maxHeartbeats 3200000 in
theorem blamef_any (u0 u1 u2 : Value) (res : Int) (opa sra kda loa hia : Int) (vna vpa vra : Value) (na : Int) (vta : Value) (pta : Int) (vka : Value) (t : Ex) (w : World) (HG : Gl w) (H : ED w ⟨opa, sra, kda, loa, hia, vna, vpa, vra, na, vta, pta, vka⟩ t) (hw : Wid t) :
    Calls Tryd.prog 14 #[.agg #[u0, u1, u2, .int .i64 res, .int .i64 opa, .int .i64 sra, .int .i64 kda, .int .i64 loa, .int .i64 hia, vna, vpa, vra, .int .i64 na, vta, .int .i64 pta, vka]] w (IntP .i64 (blmF res t) w) := by
  have HB := hid_of (bel_alloc w (.cells #[u0, u1, u2, .int .i64 res, .int .i64 opa, .int .i64 sra, .int .i64 kda, .int .i64 loa, .int .i64 hia, vna, vpa, vra, .int .i64 na, vta, .int .i64 pta, vka] 43))
  obtain ⟨r, hr⟩ : ∃ r, r = blmF res t := ⟨_, rfl⟩
  rw [← hr]
  unfold blmF at hr
  by_cases h0 : res = 0
  · rw [if_pos h0] at hr
    subst h0 hr
    clear H hw HG
    go_enter Tryd.func14, Tryd.ntmps14
    go_wp2
    go_ret
    exact ⟨rfl, HB.out⟩
  rw [if_neg h0] at hr
  have e0 := ne_f h0
  obtain ⟨W0, hW0⟩ : ∃ W0, W0 = w.alloc (.cells #[u0, u1, u2, .int .i64 res, .int .i64 opa, .int .i64 sra, .int .i64 kda, .int .i64 loa, .int .i64 hia, vna, vpa, vra, .int .i64 na, vta, .int .i64 pta, vka] 43) := ⟨_, rfl⟩
  have HX := xat_fun u0 u1 u2 (.int .i64 res) opa sra kda loa hia vna vpa vra na vta pta vka H
  rw [← hW0] at HX
  have HG0 : Gl W0 := by rw [hW0]; exact HG.at (bel_alloc w _)
  have HJ0 := judge_any t w.heap.size 4 _ W0 W0 HG0 HX (Below.refl _ _) hw
  rw [hW0] at HJ0
  have HJ := hid_of HJ0
  rw [← hW0] at HJ
  have HXH := hid_of HX
  have HGH := hid_of HG0
  have HBB : Hid (Below w.heap.size w W0) := hid_of (by rw [hW0]; exact bel_alloc w _)
  have BL := hid_of (fun (b : Nat) (a : Option Addr) (n c : Nat) (wz : World) (h1 : wz.cell? ⟨b, 0, none⟩ = some (.pointer (some ⟨w.heap.size, 4, none⟩))) (h2 : wz.cell? ⟨b, 0 + 1, none⟩ = some (.slice a n c)) (hz : Below W0.heap.size W0 wz) (hn : NDs W0 W0.heap.size wz (.slice a n c) t.ks) => blame_any t b 0 w.heap.size 4 _ a n c W0 W0.heap.size wz 1 (HGH.out.at hz) h1 h2 HXH.out hz hn)
  have AC := hid_of (fun wz => acc_any (vary t) wz)
  obtain ⟨ac, hac⟩ : ∃ ac, ac = accB (vary t) := ⟨_, rfl⟩
  rw [← hac] at AC hr
  obtain ⟨vv, hvv⟩ : ∃ vv, vv = vary t := ⟨_, rfl⟩
  rw [← hvv] at AC
  have HVV := hid_of hvv
  have HW0 := hid_of hW0
  rw [hW0] at HJ
  clear h0 H hw HG hac hvv HX HJ0 HG0 hW0
  cases ac
  case true =>
    rw [if_pos rfl] at hr
    subst hr
    go_enter Tryd.func14, Tryd.ntmps14
    go_wp2_with (first
      | (go_at_call 18; ((with_reducible refine (HJ.out).mono ?_); (rintro e w2 ⟨xa, xm, xc, rfl, hn, h2⟩); (rw [← HVV.out]); (have H2 := hid_of h2); clear h2 hn))
      | (go_at_call 19; ((with_reducible refine (AC.out _).mono ?_); (rintro e w3 ⟨rfl, rfl⟩))))
    go_ret
    exact ⟨rfl, bel_chain (bel_chain HB.out H2.out) (bel_alloc _ _)⟩
  rw [if_neg (by decide)] at hr
  have HR := hid_of hr
  clear hr
  go_enter Tryd.func14, Tryd.ntmps14
  go_wp2_with (first
    | (go_at_call 18; ((with_reducible refine (HJ.out).mono ?_); (rintro e w2 ⟨xa, xm, xc, rfl, hn, h2⟩); (rw [← HVV.out]); (rw [← HW0.out] at hn h2); (have HB9 := hid_of (bel_chain h2 (bel_alloc w2 (.cells #[.pointer (some ⟨w.heap.size, 4, none⟩), .slice xa xm xc, .int .i64 vv] 50)))); (have BLX := hid_of (BL.out w2.heap.size xa xm xc (w2.alloc (.cells #[.pointer (some ⟨w.heap.size, 4, none⟩), .slice xa xm xc, .int .i64 vv] 50)) (cs3 (heap_alloc_new w2 (.cells #[.pointer (some ⟨w.heap.size, 4, none⟩), .slice xa xm xc, .int .i64 vv] 50))).1 (cs3 (heap_alloc_new w2 (.cells #[.pointer (some ⟨w.heap.size, 4, none⟩), .slice xa xm xc, .int .i64 vv] 50))).2.1 (bel_chain h2 (bel_alloc w2 (.cells #[.pointer (some ⟨w.heap.size, 4, none⟩), .slice xa xm xc, .int .i64 vv] 50))) (hn.at (bel_alloc w2 (.cells #[.pointer (some ⟨w.heap.size, 4, none⟩), .slice xa xm xc, .int .i64 vv] 50))))); clear h2 hn))
    | (go_at_call 19; ((with_reducible refine (AC.out _).mono ?_); (rintro e w3 ⟨rfl, rfl⟩)))
    | (go_at_call 20; ((with_reducible refine (BLX.out).mono ?_); (rintro e w6 ⟨g6, o6, x6, u6, rfl, h6, h7, h8⟩); (have H8 := hid_of (bel_chain HB9.out h8)); (obtain ⟨p0, p1, p2, p3, p4, p5, p6, p7, p8, p9, p10, p11, p12, p13, p14, p15, -, -, -, -, -, -, hpt, -, -, -, -, -, -, -, -, -, -, -, -, -, -, -, -, -, -, -, cpt, -⟩ := (h6.at (bel_chain HB9.out h8)).open); (rw [show p12 = r by rw [hpt, h7, HR.out]] at cpt); clear h6 h7 h8 hpt)))
  go_ret
  exact ⟨rfl, HBB.out.trans (H8.out.mono HBB.out.size)⟩
end Go.Proofs.YtdacalplnggnoaaDoor
