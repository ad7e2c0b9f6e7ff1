/- VarianceComposes, walked. No condition. -/
import Derived.Test.YtdacalplnggnoaaDoorVarLw1
namespace Go.Proofs.YtdacalplnggnoaaDoor
open Go.RowKit

theorem both_z (v : Int) (h : 0 ≤ v ∧ v ≤ 3) : both 0 v = v := by
  rcases (show v = 0 ∨ v = 1 ∨ v = 2 ∨ v = 3 by omega) with h | h | h | h <;> subst h <;> rfl
theorem vary_one (op : Int) (t : Ex) (s : Int) (h : formB ⟨op, 0, 0, 0, 0, 0, 0, 0, 0, [t]⟩ = true) (h5 : op ≠ 5) (hs : sgn ⟨op, 0, 0, 0, 0, 0, 0, 0, 0, [t]⟩ 0 = s) : vary ⟨op, 0, 0, 0, 0, 0, 0, 0, 0, [t]⟩ = both 0 (turnF s (vary t)) := by
  rw [vary_eq, vfrom, if_pos h, if_neg (show (Ex.mk op 0 0 0 0 0 0 0 0 [t]).op ≠ 5 from h5)]
  show both 0 (turnF (sgn ⟨op, 0, 0, 0, 0, 0, 0, 0, 0, [t]⟩ 0) (vary t)) = _
  rw [hs]
theorem vary_two (op : Int) (t u : Ex) (s z : Int) (h : formB ⟨op, 0, 0, 0, 0, 0, 0, 0, 0, [t, u]⟩ = true) (h5 : op ≠ 5) (hs : sgn ⟨op, 0, 0, 0, 0, 0, 0, 0, 0, [t, u]⟩ 0 = s) (hz : sgn ⟨op, 0, 0, 0, 0, 0, 0, 0, 0, [t, u]⟩ 1 = z) : vary ⟨op, 0, 0, 0, 0, 0, 0, 0, 0, [t, u]⟩ = both (both 0 (turnF s (vary t))) (turnF z (vary u)) := by
  rw [vary_eq, vfrom, if_pos h, if_neg (show (Ex.mk op 0 0 0 0 0 0 0 0 [t, u]).op ≠ 5 from h5)]
  show both (both 0 (turnF (sgn ⟨op, 0, 0, 0, 0, 0, 0, 0, 0, [t, u]⟩ 0) (vary t))) (turnF (sgn ⟨op, 0, 0, 0, 0, 0, 0, 0, 0, [t, u]⟩ 1) (vary u)) = _
  rw [hs, hz]
theorem turn_p (v : Int) : turnF 43 v = v := rfl
theorem turn_m (v : Int) : turnF 45 v = flip v := rfl
theorem vary_not (t : Ex) : vary ⟨10, 0, 0, 0, 0, 0, 0, 0, 0, [t]⟩ = flip (vary t) := by
  rw [vary_one 10 t 45 rfl (by decide) rfl, turn_m, both_z _ (flip_range _)]
theorem vary_bin (op : Int) (h : op = 9 ∨ op = 8 ∨ op = 17 ∨ op = 16) (t u : Ex) : vary ⟨op, 0, 0, 0, 0, 0, 0, 0, 0, [t, u]⟩ = both (vary t) (vary u) := by
  rcases h with rfl | rfl | rfl | rfl
  · rw [vary_two 9 t u 43 43 rfl (by decide) rfl rfl, turn_p, turn_p, both_z _ (vary_range _)]
  · rw [vary_two 8 t u 43 43 rfl (by decide) rfl rfl, turn_p, turn_p, both_z _ (vary_range _)]
  · rw [vary_two 17 t u 43 43 rfl (by decide) rfl rfl, turn_p, turn_p, both_z _ (vary_range _)]
  · rw [vary_two 16 t u 43 43 rfl (by decide) rfl rfl, turn_p, turn_p, both_z _ (vary_range _)]
theorem vary_sub (t u : Ex) : vary ⟨18, 0, 0, 0, 0, 0, 0, 0, 0, [t, u]⟩ = both (vary t) (flip (vary u)) := by
  rw [vary_two 18 t u 43 45 rfl (by decide) rfl rfl, turn_p, turn_m, both_z _ (vary_range _)]
theorem vary_leq (t u : Ex) : vary ⟨15, 0, 0, 0, 0, 0, 0, 0, 0, [t, u]⟩ = both (flip (vary t)) (vary u) := by
  rw [vary_two 15 t u 45 43 rfl (by decide) rfl rfl, turn_p, turn_m, both_z _ (flip_range _)]
theorem ops4 (i : Nat) (h : i < 4) : ∃ op : Int, #[Value.int .i64 9, .int .i64 8, .int .i64 17, .int .i64 16].toList[i]? = some (.int .i64 op) ∧ (op = 9 ∨ op = 8 ∨ op = 17 ∨ op = 16) := by
  rcases (show i = 0 ∨ i = 1 ∨ i = 2 ∨ i = 3 by omega) with h | h | h | h <;> subst h
  · exact ⟨9, rfl, by omega⟩
  · exact ⟨8, rfl, by omega⟩
  · exact ⟨17, rfl, by omega⟩
  · exact ⟨16, rfl, by omega⟩
set_option maxRecDepth 100000 in
set_option maxHeartbeats 6400000 in
theorem composes_law (opa sra kda loa hia : Int) (vna vpa vra : Value) (na : Int) (vta : Value) (pta : Int) (vka : Value) (opb srb kdb lob hib : Int) (vnb vpb vrb : Value) (nb : Int) (vtb : Value) (ptb : Int) (vkb : Value) (t u : Ex) (w : World) (HG : Gl w) (HX : ED w ⟨opa, sra, kda, loa, hia, vna, vpa, vra, na, vta, pta, vka⟩ t) (HY : ED w ⟨opb, srb, kdb, lob, hib, vnb, vpb, vrb, nb, vtb, ptb, vkb⟩ u) : Calls Tryd.prog 5 #[.agg #[.int .i64 opa, .int .i64 sra, .int .i64 kda, .int .i64 loa, .int .i64 hia, vna, vpa, vra, .int .i64 na, vta, .int .i64 pta, vka], .agg #[.int .i64 opb, .int .i64 srb, .int .i64 kdb, .int .i64 lob, .int .i64 hib, vnb, vpb, vrb, .int .i64 nb, vtb, .int .i64 ptb, vkb]] w fun e w' => e = .returned (.bool true) ∧ Below w.heap.size w w' := by
  have HB := hid_of (bel_alloc2 w (.cells #[.int .i64 opa, .int .i64 sra, .int .i64 kda, .int .i64 loa, .int .i64 hia, vna, vpa, vra, .int .i64 na, vta, .int .i64 pta, vka] 36) (.cells #[.int .i64 opb, .int .i64 srb, .int .i64 kdb, .int .i64 lob, .int .i64 hib, vnb, vpb, vrb, .int .i64 nb, vtb, .int .i64 ptb, vkb] 36))
  have HGW : Hid (∀ wz, Below ((w.alloc (.cells #[.int .i64 opa, .int .i64 sra, .int .i64 kda, .int .i64 loa, .int .i64 hia, vna, vpa, vra, .int .i64 na, vta, .int .i64 pta, vka] 36)).alloc (.cells #[.int .i64 opb, .int .i64 srb, .int .i64 kdb, .int .i64 lob, .int .i64 hib, vnb, vpb, vrb, .int .i64 nb, vtb, .int .i64 ptb, vkb] 36)).heap.size ((w.alloc (.cells #[.int .i64 opa, .int .i64 sra, .int .i64 kda, .int .i64 loa, .int .i64 hia, vna, vpa, vra, .int .i64 na, vta, .int .i64 pta, vka] 36)).alloc (.cells #[.int .i64 opb, .int .i64 srb, .int .i64 kdb, .int .i64 lob, .int .i64 hib, vnb, vpb, vrb, .int .i64 nb, vtb, .int .i64 ptb, vkb] 36)) wz → Gl wz) := hid_of (fun wz hz => (HG.at (bel_alloc2 w (.cells #[.int .i64 opa, .int .i64 sra, .int .i64 kda, .int .i64 loa, .int .i64 hia, vna, vpa, vra, .int .i64 na, vta, .int .i64 pta, vka] 36) (.cells #[.int .i64 opb, .int .i64 srb, .int .i64 kdb, .int .i64 lob, .int .i64 hib, vnb, vpb, vrb, .int .i64 nb, vtb, .int .i64 ptb, vkb] 36))).at hz)
  have HXW : Hid (∀ wz, Below ((w.alloc (.cells #[.int .i64 opa, .int .i64 sra, .int .i64 kda, .int .i64 loa, .int .i64 hia, vna, vpa, vra, .int .i64 na, vta, .int .i64 pta, vka] 36)).alloc (.cells #[.int .i64 opb, .int .i64 srb, .int .i64 kdb, .int .i64 lob, .int .i64 hib, vnb, vpb, vrb, .int .i64 nb, vtb, .int .i64 ptb, vkb] 36)).heap.size ((w.alloc (.cells #[.int .i64 opa, .int .i64 sra, .int .i64 kda, .int .i64 loa, .int .i64 hia, vna, vpa, vra, .int .i64 na, vta, .int .i64 pta, vka] 36)).alloc (.cells #[.int .i64 opb, .int .i64 srb, .int .i64 kdb, .int .i64 lob, .int .i64 hib, vnb, vpb, vrb, .int .i64 nb, vtb, .int .i64 ptb, vkb] 36)) wz → ED wz ⟨opa, sra, kda, loa, hia, vna, vpa, vra, na, vta, pta, vka⟩ t) := hid_of (fun wz hz => (HX.at (bel_alloc2 w (.cells #[.int .i64 opa, .int .i64 sra, .int .i64 kda, .int .i64 loa, .int .i64 hia, vna, vpa, vra, .int .i64 na, vta, .int .i64 pta, vka] 36) (.cells #[.int .i64 opb, .int .i64 srb, .int .i64 kdb, .int .i64 lob, .int .i64 hib, vnb, vpb, vrb, .int .i64 nb, vtb, .int .i64 ptb, vkb] 36))).at hz)
  have HYW : Hid (∀ wz, Below ((w.alloc (.cells #[.int .i64 opa, .int .i64 sra, .int .i64 kda, .int .i64 loa, .int .i64 hia, vna, vpa, vra, .int .i64 na, vta, .int .i64 pta, vka] 36)).alloc (.cells #[.int .i64 opb, .int .i64 srb, .int .i64 kdb, .int .i64 lob, .int .i64 hib, vnb, vpb, vrb, .int .i64 nb, vtb, .int .i64 ptb, vkb] 36)).heap.size ((w.alloc (.cells #[.int .i64 opa, .int .i64 sra, .int .i64 kda, .int .i64 loa, .int .i64 hia, vna, vpa, vra, .int .i64 na, vta, .int .i64 pta, vka] 36)).alloc (.cells #[.int .i64 opb, .int .i64 srb, .int .i64 kdb, .int .i64 lob, .int .i64 hib, vnb, vpb, vrb, .int .i64 nb, vtb, .int .i64 ptb, vkb] 36)) wz → ED wz ⟨opb, srb, kdb, lob, hib, vnb, vpb, vrb, nb, vtb, ptb, vkb⟩ u) := hid_of (fun wz hz => (HY.at (bel_alloc2 w (.cells #[.int .i64 opa, .int .i64 sra, .int .i64 kda, .int .i64 loa, .int .i64 hia, vna, vpa, vra, .int .i64 na, vta, .int .i64 pta, vka] 36) (.cells #[.int .i64 opb, .int .i64 srb, .int .i64 kdb, .int .i64 lob, .int .i64 hib, vnb, vpb, vrb, .int .i64 nb, vtb, .int .i64 ptb, vkb] 36))).at hz)
  have HRX : Hid (∀ wz, Below ((w.alloc (.cells #[.int .i64 opa, .int .i64 sra, .int .i64 kda, .int .i64 loa, .int .i64 hia, vna, vpa, vra, .int .i64 na, vta, .int .i64 pta, vka] 36)).alloc (.cells #[.int .i64 opb, .int .i64 srb, .int .i64 kdb, .int .i64 lob, .int .i64 hib, vnb, vpb, vrb, .int .i64 nb, vtb, .int .i64 ptb, vkb] 36)).heap.size ((w.alloc (.cells #[.int .i64 opa, .int .i64 sra, .int .i64 kda, .int .i64 loa, .int .i64 hia, vna, vpa, vra, .int .i64 na, vta, .int .i64 pta, vka] 36)).alloc (.cells #[.int .i64 opb, .int .i64 srb, .int .i64 kdb, .int .i64 lob, .int .i64 hib, vnb, vpb, vrb, .int .i64 nb, vtb, .int .i64 ptb, vkb] 36)) wz → wz.heap[w.heap.size]? = some (.cells #[.int .i64 opa, .int .i64 sra, .int .i64 kda, .int .i64 loa, .int .i64 hia, vna, vpa, vra, .int .i64 na, vta, .int .i64 pta, vka] 36)) := hid_of (fun wz hz => row_at1 hz)
  have HRY : Hid (∀ wz, Below ((w.alloc (.cells #[.int .i64 opa, .int .i64 sra, .int .i64 kda, .int .i64 loa, .int .i64 hia, vna, vpa, vra, .int .i64 na, vta, .int .i64 pta, vka] 36)).alloc (.cells #[.int .i64 opb, .int .i64 srb, .int .i64 kdb, .int .i64 lob, .int .i64 hib, vnb, vpb, vrb, .int .i64 nb, vtb, .int .i64 ptb, vkb] 36)).heap.size ((w.alloc (.cells #[.int .i64 opa, .int .i64 sra, .int .i64 kda, .int .i64 loa, .int .i64 hia, vna, vpa, vra, .int .i64 na, vta, .int .i64 pta, vka] 36)).alloc (.cells #[.int .i64 opb, .int .i64 srb, .int .i64 kdb, .int .i64 lob, .int .i64 hib, vnb, vpb, vrb, .int .i64 nb, vtb, .int .i64 ptb, vkb] 36)) wz → wz.heap[w.heap.size + 1]? = some (.cells #[.int .i64 opb, .int .i64 srb, .int .i64 kdb, .int .i64 lob, .int .i64 hib, vnb, vpb, vrb, .int .i64 nb, vtb, .int .i64 ptb, vkb] 36)) := hid_of (fun wz hz => row_at2 hz)
  have HLT : Hid (∀ wz, Below ((w.alloc (.cells #[.int .i64 opa, .int .i64 sra, .int .i64 kda, .int .i64 loa, .int .i64 hia, vna, vpa, vra, .int .i64 na, vta, .int .i64 pta, vka] 36)).alloc (.cells #[.int .i64 opb, .int .i64 srb, .int .i64 kdb, .int .i64 lob, .int .i64 hib, vnb, vpb, vrb, .int .i64 nb, vtb, .int .i64 ptb, vkb] 36)).heap.size ((w.alloc (.cells #[.int .i64 opa, .int .i64 sra, .int .i64 kda, .int .i64 loa, .int .i64 hia, vna, vpa, vra, .int .i64 na, vta, .int .i64 pta, vka] 36)).alloc (.cells #[.int .i64 opb, .int .i64 srb, .int .i64 kdb, .int .i64 lob, .int .i64 hib, vnb, vpb, vrb, .int .i64 nb, vtb, .int .i64 ptb, vkb] 36)) wz → w.heap.size + 1 < wz.heap.size) := hid_of (fun wz hz => by have := hz.size; simp at this; omega)
  have AW := hid_of (awake_any ((w.alloc (.cells #[.int .i64 opa, .int .i64 sra, .int .i64 kda, .int .i64 loa, .int .i64 hia, vna, vpa, vra, .int .i64 na, vta, .int .i64 pta, vka] 36)).alloc (.cells #[.int .i64 opb, .int .i64 srb, .int .i64 kdb, .int .i64 lob, .int .i64 hib, vnb, vpb, vrb, .int .i64 nb, vtb, .int .i64 ptb, vkb] 36)) (HG.at (bel_alloc2 w (.cells #[.int .i64 opa, .int .i64 sra, .int .i64 kda, .int .i64 loa, .int .i64 hia, vna, vpa, vra, .int .i64 na, vta, .int .i64 pta, vka] 36) (.cells #[.int .i64 opb, .int .i64 srb, .int .i64 kdb, .int .i64 lob, .int .i64 hib, vnb, vpb, vrb, .int .i64 nb, vtb, .int .i64 ptb, vkb] 36))))
  have SX := hid_of (fun wz hz => small_any opa sra kda loa hia vna vpa vra na vta pta vka t 150 wz (HXW.out wz hz) (by omega) (by omega))
  have SY := hid_of (fun wz hz => small_any opb srb kdb lob hib vnb vpb vrb nb vtb ptb vkb u 150 wz (HYW.out wz hz) (by omega) (by omega))
  clear HG HX HY
  go_enter Tryd.func5, Tryd.ntmps5
  go_wp2_with (go_at_call 7; ((with_reducible refine (AW.out).mono ?_); (rintro e w1 ⟨rfl, h1⟩); (have E1 := hid_of h1); (obtain ⟨p0, p1, p2, p3, p4, p5, p6, p7, p8, p9, p10, p11⟩ := cs12 (HRX.out w1 h1)); clear h1))
  refine (SX.out w1 E1.out).mono ?_
  rintro e w2 ⟨bx, rfl, hbx, h2⟩
  have E2 := hid_of (bel_chain E1.out h2)
  have HBX := hid_of hbx
  clear h2 hbx p0 p1 p2 p3 p4 p5 p6 p7 p8 p9 p10 p11
  cases bx
  · go_wp2
    go_ret
    exact ⟨rfl, HB.out.trans (E2.out.mono HB.out.size)⟩
  obtain ⟨p0, p1, p2, p3, p4, p5, p6, p7, p8, p9, p10, p11⟩ := cs12 (HRY.out w2 E2.out)
  go_wp2_with fail
  refine (SY.out w2 E2.out).mono ?_
  rintro e w3 ⟨by', rfl, hby, h3⟩
  have E3 := hid_of (bel_chain E2.out h3)
  have HBY := hid_of hby
  clear h3 hby p0 p1 p2 p3 p4 p5 p6 p7 p8 p9 p10 p11
  cases by'
  · go_wp2
    go_ret
    exact ⟨rfl, HB.out.trans (E3.out.mono HB.out.size)⟩
  have WX : Hid (Wid t) := hid_of (by first | exact HBX.out rfl | exact HBX.out trivial)
  have WY : Hid (Wid u) := hid_of (by first | exact HBY.out rfl | exact HBY.out trivial)
  clear HBX HBY
  obtain ⟨p0, p1, p2, p3, p4, p5, p6, p7, p8, p9, p10, p11⟩ := cs12 (HRX.out w3 E3.out)
  have OX := hid_of (of_any opa sra kda loa hia vna vpa vra na vta pta vka t w3 (HGW.out _ E3.out) (HXW.out _ E3.out) (WX.out))
  have OY := hid_of (fun wz hz => of_any opb srb kdb lob hib vnb vpb vrb nb vtb ptb vkb u wz (HGW.out _ hz) (HYW.out _ hz) (WY.out))
  obtain ⟨va, hva⟩ : ∃ va, va = vary t := ⟨_, rfl⟩
  obtain ⟨vb, hvb⟩ : ∃ vb, vb = vary u := ⟨_, rfl⟩
  rw [← hva] at OX
  rw [← hvb] at OY
  have VN : Hid (vary ⟨10, 0, 0, 0, 0, 0, 0, 0, 0, [t]⟩ = flip va) := hid_of (by rw [hva]; exact vary_not t)
  have VB : Hid (∀ op : Int, (op = 9 ∨ op = 8 ∨ op = 17 ∨ op = 16) → vary ⟨op, 0, 0, 0, 0, 0, 0, 0, 0, [t, u]⟩ = both va vb) := hid_of (fun op h => by rw [hva, hvb]; exact vary_bin op h t u)
  have VM : Hid (vary ⟨18, 0, 0, 0, 0, 0, 0, 0, 0, [t, u]⟩ = both va (flip vb)) := hid_of (by rw [hva, hvb]; exact vary_sub t u)
  have VL : Hid (vary ⟨15, 0, 0, 0, 0, 0, 0, 0, 0, [t, u]⟩ = both (flip va) vb) := hid_of (by rw [hva, hvb]; exact vary_leq t u)
  have WI1 : Hid (∀ op : Int, Wid ⟨op, 0, 0, 0, 0, 0, 0, 0, 0, [t]⟩) := hid_of (fun op => wid_of (by simp) (fun k hk => by simp at hk; subst hk; exact WX.out))
  have WI2 : Hid (∀ op : Int, Wid ⟨op, 0, 0, 0, 0, 0, 0, 0, 0, [t, u]⟩) := hid_of (fun op => wid_of (by simp) (fun k hk => by
    simp at hk
    rcases hk with rfl | rfl
    · exact WX.out
    · exact WY.out))
  have FA := hid_of (fun wz => flip_any va wz)
  have FB := hid_of (fun wz => flip_any vb wz)
  clear hva hvb
  go_wp2_with (first
    | (go_at_call 13; ((with_reducible refine (OX.out).mono ?_); (rintro e w4 ⟨rfl, h4⟩); (have E4 := hid_of (bel_chain E3.out h4)); (obtain ⟨q0, q1, q2, q3, q4, q5, q6, q7, q8, q9, q10, q11⟩ := cs12 (HRY.out w4 (bel_chain E3.out h4))); clear h4))
    | (go_at_call 13; ((with_reducible refine (OY.out w4 E4.out).mono ?_); (rintro e w5 ⟨rfl, h5⟩); (have E5 := hid_of (bel_chain E4.out h5)); (obtain ⟨r0, r1, r2, r3, r4, r5, r6, r7, r8, r9, r10, r11⟩ := cs12 (HRX.out w5 (bel_chain E4.out h5))); (obtain ⟨s0, s1, s2, s3, s4, s5, s6, s7, s8, s9, s10, s11⟩ := cs12 (HRY.out w5 (bel_chain E4.out h5))); (have l5 := HLT.out w5 (bel_chain E4.out h5)); (have l6 : w.heap.size < w5.heap.size := by omega); (have E6 := hid_of (bel_chain (bel_chain E4.out h5) (bel_alloc2 w5 (.cells #[.int .i64 opa, .int .i64 sra, .int .i64 kda, .int .i64 loa, .int .i64 hia, vna, vpa, vra, .int .i64 na, vta, .int .i64 pta, vka, .int .i64 opb, .int .i64 srb, .int .i64 kdb, .int .i64 lob, .int .i64 hib, vnb, vpb, vrb, .int .i64 nb, vtb, .int .i64 ptb, vkb] 36) (.cells #[.int .i64 opa, .int .i64 sra, .int .i64 kda, .int .i64 loa, .int .i64 hia, vna, vpa, vra, .int .i64 na, vta, .int .i64 pta, vka] 36)))); (have KB := hid_of (fun (wz : World) (hz : Below ((w5.alloc (.cells #[.int .i64 opa, .int .i64 sra, .int .i64 kda, .int .i64 loa, .int .i64 hia, vna, vpa, vra, .int .i64 na, vta, .int .i64 pta, vka, .int .i64 opb, .int .i64 srb, .int .i64 kdb, .int .i64 lob, .int .i64 hib, vnb, vpb, vrb, .int .i64 nb, vtb, .int .i64 ptb, vkb] 36)).alloc (.cells #[.int .i64 opa, .int .i64 sra, .int .i64 kda, .int .i64 loa, .int .i64 hia, vna, vpa, vra, .int .i64 na, vta, .int .i64 pta, vka] 36)).heap.size ((w5.alloc (.cells #[.int .i64 opa, .int .i64 sra, .int .i64 kda, .int .i64 loa, .int .i64 hia, vna, vpa, vra, .int .i64 na, vta, .int .i64 pta, vka, .int .i64 opb, .int .i64 srb, .int .i64 kdb, .int .i64 lob, .int .i64 hib, vnb, vpb, vrb, .int .i64 nb, vtb, .int .i64 ptb, vkb] 36)).alloc (.cells #[.int .i64 opa, .int .i64 sra, .int .i64 kda, .int .i64 loa, .int .i64 hia, vna, vpa, vra, .int .i64 na, vta, .int .i64 pta, vka] 36)) wz) => kd_two (x := ⟨opa, sra, kda, loa, hia, vna, vpa, vra, na, vta, pta, vka⟩) (y := ⟨opb, srb, kdb, lob, hib, vnb, vpb, vrb, nb, vtb, ptb, vkb⟩) (tw_row (n := 2) rfl (row_at1 hz) (by simp)) (HXW.out wz (bel_chain E6.out hz)) (HYW.out wz (bel_chain E6.out hz)))); (have ON := hid_of (of_any 10 0 0 0 0 (.slice none 0 0) (.slice none 0 0) (.slice none 0 0) 0 (.string ⟨#[]⟩) 0 (.slice (some ⟨w5.heap.size + 1, 0, none⟩) 1 1) ⟨10, 0, 0, 0, 0, 0, 0, 0, 0, [t]⟩ ((w5.alloc (.cells #[.int .i64 opa, .int .i64 sra, .int .i64 kda, .int .i64 loa, .int .i64 hia, vna, vpa, vra, .int .i64 na, vta, .int .i64 pta, vka, .int .i64 opb, .int .i64 srb, .int .i64 kdb, .int .i64 lob, .int .i64 hib, vnb, vpb, vrb, .int .i64 nb, vtb, .int .i64 ptb, vkb] 36)).alloc (.cells #[.int .i64 opa, .int .i64 sra, .int .i64 kda, .int .i64 loa, .int .i64 hia, vna, vpa, vra, .int .i64 na, vta, .int .i64 pta, vka] 36)) (HGW.out _ E6.out) (ed_node ((w5.alloc (.cells #[.int .i64 opa, .int .i64 sra, .int .i64 kda, .int .i64 loa, .int .i64 hia, vna, vpa, vra, .int .i64 na, vta, .int .i64 pta, vka, .int .i64 opb, .int .i64 srb, .int .i64 kdb, .int .i64 lob, .int .i64 hib, vnb, vpb, vrb, .int .i64 nb, vtb, .int .i64 ptb, vkb] 36)).alloc (.cells #[.int .i64 opa, .int .i64 sra, .int .i64 kda, .int .i64 loa, .int .i64 hia, vna, vpa, vra, .int .i64 na, vta, .int .i64 pta, vka] 36)) 10 0 0 (by omega) (by omega) (by omega) (kd_one (x := ⟨opa, sra, kda, loa, hia, vna, vpa, vra, na, vta, pta, vka⟩) (tw_row (n := 1) rfl (row_at2 (Below.refl _ _)) (by simp)) (HXW.out _ E6.out))) (WI1.out 10))); (rw [VN.out] at ON); (have OB := hid_of (fun (op : Int) (ho : -100 ≤ op ∧ op ≤ 100) (wz : World) (hz : Below ((w5.alloc (.cells #[.int .i64 opa, .int .i64 sra, .int .i64 kda, .int .i64 loa, .int .i64 hia, vna, vpa, vra, .int .i64 na, vta, .int .i64 pta, vka, .int .i64 opb, .int .i64 srb, .int .i64 kdb, .int .i64 lob, .int .i64 hib, vnb, vpb, vrb, .int .i64 nb, vtb, .int .i64 ptb, vkb] 36)).alloc (.cells #[.int .i64 opa, .int .i64 sra, .int .i64 kda, .int .i64 loa, .int .i64 hia, vna, vpa, vra, .int .i64 na, vta, .int .i64 pta, vka] 36)).heap.size ((w5.alloc (.cells #[.int .i64 opa, .int .i64 sra, .int .i64 kda, .int .i64 loa, .int .i64 hia, vna, vpa, vra, .int .i64 na, vta, .int .i64 pta, vka, .int .i64 opb, .int .i64 srb, .int .i64 kdb, .int .i64 lob, .int .i64 hib, vnb, vpb, vrb, .int .i64 nb, vtb, .int .i64 ptb, vkb] 36)).alloc (.cells #[.int .i64 opa, .int .i64 sra, .int .i64 kda, .int .i64 loa, .int .i64 hia, vna, vpa, vra, .int .i64 na, vta, .int .i64 pta, vka] 36)) wz) => of_any op 0 0 0 0 (.slice none 0 0) (.slice none 0 0) (.slice none 0 0) 0 (.string ⟨#[]⟩) 0 (.slice (some ⟨w5.heap.size, 0, none⟩) 2 2) ⟨op, 0, 0, 0, 0, 0, 0, 0, 0, [t, u]⟩ wz (HGW.out _ (bel_chain E6.out hz)) (ed_node wz op 0 0 ho (by omega) (by omega) (KB.out wz hz)) (WI2.out op))); clear h5)))
  obtain ⟨fa, hfa⟩ : ∃ fa, fa = flip va := ⟨_, rfl⟩
  obtain ⟨fb, hfb⟩ : ∃ fb, fb = flip vb := ⟨_, rfl⟩
  rw [← hfa] at ON FA VL
  rw [← hfb] at FB VM
  have BB := hid_of (fun wz => both_any va vb wz)
  have BM := hid_of (fun wz => both_any va fb wz)
  have BL := hid_of (fun wz => both_any fa vb wz)
  obtain ⟨ab, hab⟩ : ∃ ab, ab = both va vb := ⟨_, rfl⟩
  obtain ⟨am, ham⟩ : ∃ am, am = both va fb := ⟨_, rfl⟩
  obtain ⟨al, hal⟩ : ∃ al, al = both fa vb := ⟨_, rfl⟩
  rw [← hab] at BB VB
  rw [← ham] at BM VM
  rw [← hal] at BL VL
  have OM := hid_of (OB.out 18 (by omega))
  rw [VM.out] at OM
  have OL := hid_of (OB.out 15 (by omega))
  rw [VL.out] at OL
  have OI : Hid (∀ op : Int, (op = 9 ∨ op = 8 ∨ op = 17 ∨ op = 16) → ∀ wz, Below ((w5.alloc (.cells #[.int .i64 opa, .int .i64 sra, .int .i64 kda, .int .i64 loa, .int .i64 hia, vna, vpa, vra, .int .i64 na, vta, .int .i64 pta, vka, .int .i64 opb, .int .i64 srb, .int .i64 kdb, .int .i64 lob, .int .i64 hib, vnb, vpb, vrb, .int .i64 nb, vtb, .int .i64 ptb, vkb] 36)).alloc (.cells #[.int .i64 opa, .int .i64 sra, .int .i64 kda, .int .i64 loa, .int .i64 hia, vna, vpa, vra, .int .i64 na, vta, .int .i64 pta, vka] 36)).heap.size ((w5.alloc (.cells #[.int .i64 opa, .int .i64 sra, .int .i64 kda, .int .i64 loa, .int .i64 hia, vna, vpa, vra, .int .i64 na, vta, .int .i64 pta, vka, .int .i64 opb, .int .i64 srb, .int .i64 kdb, .int .i64 lob, .int .i64 hib, vnb, vpb, vrb, .int .i64 nb, vtb, .int .i64 ptb, vkb] 36)).alloc (.cells #[.int .i64 opa, .int .i64 sra, .int .i64 kda, .int .i64 loa, .int .i64 hia, vna, vpa, vra, .int .i64 na, vta, .int .i64 pta, vka] 36)) wz → Calls Tryd.prog 13 #[.agg #[.int .i64 op, .int .i64 0, .int .i64 0, .int .i64 0, .int .i64 0, .slice none 0 0, .slice none 0 0, .slice none 0 0, .int .i64 0, .string ⟨#[]⟩, .int .i64 0, .slice (some ⟨w5.heap.size, 0, none⟩) 2 2]] wz (IntP .i64 ab wz)) := hid_of (fun op ho wz hz => by
    have := OB.out op (by omega) wz hz
    rw [VB.out op ho] at this
    exact this)
  clear hfa hfb hab ham hal VM VL VB VN OB
  go_wp2_with (first
    | (go_at_call 13; ((with_reducible refine (ON.out).mono ?_); (rintro e w6 ⟨rfl, h6⟩); (have E7 := hid_of h6); clear h6))
    | (go_at_call 8; ((with_reducible refine (FA.out _).mono ?_); (rintro e w7 ⟨rfl, rfl⟩))))
  have OPS : Hid (∀ wz, Below (w6.alloc (.cells #[.int .i64 9, .int .i64 8, .int .i64 17, .int .i64 16] 3)).heap.size (w6.alloc (.cells #[.int .i64 9, .int .i64 8, .int .i64 17, .int .i64 16] 3)) wz → ∀ i, i < 4 → ∃ op : Int, wz.cell? ⟨w6.heap.size, i, none⟩ = some (.int .i64 op) ∧ (op = 9 ∨ op = 8 ∨ op = 17 ∨ op = 16)) := hid_of (fun wz hz i hi => by
    obtain ⟨op, h1, h2⟩ := ops4 i hi
    refine ⟨op, ?_, h2⟩
    have := World.news_of_block (row_at hz) i _ h1
    rw [Addr.add_mid, Nat.zero_add] at this
    exact this)
  have E8 := hid_of (bel_chain E7.out (bel_alloc w6 (.cells #[.int .i64 9, .int .i64 8, .int .i64 17, .int .i64 16] 3)))
  go_loopw [36] (fun iv wr => ∃ i : Nat, iv = .int .i64 i ∧ i ≤ 4 ∧ Hid (Below (w6.alloc (.cells #[.int .i64 9, .int .i64 8, .int .i64 17, .int .i64 16] 3)).heap.size (w6.alloc (.cells #[.int .i64 9, .int .i64 8, .int .i64 17, .int .i64 16] 3)) wr)) (fun iv _ => 4 - (intOf iv).toNat)
  case atStart => exact ⟨0, rfl, by omega, hid_of (Below.refl _ _)⟩
  case round =>
    obtain ⟨i, rfl, hi, hb⟩ := hrel
    have E9 := hid_of (bel_chain E8.out hb.out)
    by_cases hlt : i < 4
    · have d1 : decide (i < 4) = true := decide_eq_true hlt
      have hlt' : (i : Int) < 4 := by omega
      have HLT4 := hid_of hlt
      obtain ⟨op, co, ho⟩ := OPS.out wr hb.out i hlt
      have OC := hid_of (OI.out op ho wr E9.out)
      clear ho hlt
      go_wp2_with (first
        | (go_at_call 13; ((with_reducible refine (OC.out).mono ?_); (rintro e w8 ⟨rfl, h8⟩); (have H8 := hid_of h8); clear h8))
        | (go_at_call 10; ((with_reducible refine (BB.out _).mono ?_); (rintro e w9 ⟨rfl, rfl⟩))))
      go_roundw
      case rel => exact ⟨i + 1, by go_num, HLT4.out, hid_of (bel_chain hb.out H8.out)⟩
      case measure => have := HLT4.out; simp [intOf]; omega
    · have d1 : decide (i < 4) = false := decide_eq_false hlt
      have hi4 : i = 4 := by omega
      clear hlt
      go_wp2_with (first
        | (go_at_call 13; ((with_reducible refine (OM.out wr E9.out).mono ?_); (rintro e w8 ⟨rfl, h8⟩); (have E10 := hid_of (bel_chain E9.out h8)); clear h8))
        | (go_at_call 13; ((with_reducible refine (OL.out w8 E10.out).mono ?_); (rintro e w10 ⟨rfl, h10⟩); (have E11 := hid_of (bel_chain E10.out h10)); clear h10))
        | (go_at_call 8; ((with_reducible refine (FB.out _).mono ?_); (rintro e w9 ⟨rfl, rfl⟩)))
        | (go_at_call 8; ((with_reducible refine (FA.out _).mono ?_); (rintro e w9 ⟨rfl, rfl⟩)))
        | (go_at_call 10; ((with_reducible refine (BM.out _).mono ?_); (rintro e w9 ⟨rfl, rfl⟩)))
        | (go_at_call 10; ((with_reducible refine (BL.out _).mono ?_); (rintro e w9 ⟨rfl, rfl⟩))))
      go_ret
      exact ⟨rfl, HB.out.trans ((bel_chain E6.out E11.out).mono HB.out.size)⟩
end Go.Proofs.YtdacalplnggnoaaDoor
