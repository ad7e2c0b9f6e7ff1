/- The sign of a kid. No condition. -/
import Derived.Test.YtdacalplnggnoaaDoorVarFrm
import Derived.Laws.EntriesVeiled
namespace Go.Proofs.YtdacalplnggnoaaDoor
open Go.RowKit

theorem tab_at (s : ByteArray) (i : Nat) (h : i < s.size) : ((s[i]).toNat : Int) = ((s.data.toList.getD i 0).toNat : Int) := by
  have h2 : i < s.data.toList.length := by simpa using h
  rw [List.getD_eq_getElem?_getD, List.getElem?_eq_getElem h2]
  rfl
theorem getD_some {α : Type} {l : List α} {i : Nat} {u d : α} (h : l[i]? = some u) : l.getD i d = u := by rw [List.getD_eq_getElem?_getD, h]; rfl
theorem undrew {w w' : World} (h : Below w.drew.heap.size w.drew w') : Below w.heap.size w w' := ⟨h.os, h.tape, h.output, h.size, h.block⟩
theorem redrew {B : Nat} {w w' : World} (h : Below B w w') : Below B w w'.drew := h.drew
theorem bel_chain {w w1 w2 : World} (h1 : Below w.heap.size w w1) (h2 : Below w1.heap.size w1 w2) : Below w.heap.size w w2 := h1.trans (h2.mono h1.size)

set_option maxRecDepth 100000 in
set_option maxHeartbeats 3200000 in
theorem sign_any (b q g o : Nat) (x : XX) (t : Ex) (i : Nat) (w : World) (HG : Gl w) (hb : w.cell? ⟨b, q, none⟩ = some (.pointer (some ⟨g, o, none⟩))) (H : XAt w g o x t) (hF : formB t = true) (hi : i < t.ks.length) :
    Calls Tryd.prog 25 #[.pointer (some ⟨b, q, none⟩), .int .i64 i] w (IntP .u8 (sgn t i) w) := by
  obtain ⟨u, hu⟩ : ∃ u, t.ks[i]? = some u := ⟨_, List.getElem?_eq_getElem hi⟩
  obtain ⟨op, sr, kd, lo, hi', vn, ap, np, cp, vr, n, vt, pt, ak, nk, ck, rfl, hop, -, hkd, -, -, -, hnk, ro, -, -, -, -, -, HK, -, c0, c1, c2, c3, c4, c5, c6, c7, c8, c9, c10, c11⟩ := H.open
  obtain ⟨-, hk2, hk3⟩ := HK.len
  obtain ⟨gk, qk, y, rfl, HY⟩ := HK.get hu
  obtain ⟨op', sr', kd', lo', hi2, vn', ap', np', cp', vr', n', vt', pt', ak', nk', ck', rfl, -, hsr', hkd', hnp', -, -, -, -, -, -, -, -, HP, -, -, d0, d1, d2, d3, d4, d5, d6, d7, d8, d9, d10, d11⟩ := HY.open
  have hin : i < nk := by omega
  have hin' : (i : Int) < (nk : Int) := by omega
  obtain ⟨r, hr⟩ : ∃ r, r = sgn t i := ⟨_, rfl⟩
  rw [← hr]
  have gu := getD_some (d := z0) hu
  unfold sgn at hr
  rw [gu, ← hop, ← hkd, ← hsr', ← hkd', sumS_eq, sizeB_eq, ← hkd', ← hsr', ← hnp'] at hr
  rw [← hnp'] at HP
  have HKH := hid_of HK
  have HFH := hid_of hF
  have HOP := hid_of hop
  have HNK := hid_of hnk
  have HGH := hid_of HG
  clear HY H HK hF gu hop hkd hsr' hkd' hu hi hnk HG hnp'

  by_cases h7 : op = 7
  · subst h7
    by_cases hi0 : i = 0
    · subst hi0
      rw [if_pos ⟨rfl, rfl⟩] at hr
      have h3 : t.ks.length = 3 := by
        have h := HFH.out
        unfold formB at h
        rw [← HOP.out] at h
        simpa [sg, SIG, ByteArray.size] using h
      obtain ⟨u1, hu1⟩ : ∃ u1, t.ks[1]? = some u1 := ⟨_, List.getElem?_eq_getElem (by omega)⟩
      obtain ⟨u2, hu2⟩ : ∃ u2, t.ks[2]? = some u2 := ⟨_, List.getElem?_eq_getElem (by omega)⟩
      rw [getD_some hu1, getD_some hu2] at hr
      obtain ⟨g1, q1, y1, e1, HY1⟩ := HKH.out.get hu1
      obtain ⟨g2, q2, y2, e2, HY2⟩ := HKH.out.get hu2
      simp only [Option.some.injEq, Addr.mk.injEq, and_true] at e1 e2
      obtain ⟨rfl, rfl⟩ := e1
      obtain ⟨rfl, rfl⟩ := e2
      clear d0 d1 d2 d3 d4 d5 d6 d7 d8 d9 d10 d11 HP
      obtain ⟨k0, k1, k2, k3, k4, k5, k6, k6n, k6c, k7, k8, k9, k10, k11, k11n, k11c, rfl, kop, -, -, -, kn, -, -, -, -, -, -, -, -, -, -, d0, d1, d2, d3, d4, d5, d6, d7, d8, d9, d10, d11⟩ := HY1.open
      obtain ⟨m0, m1, m2, m3, m4, m5, m6, m6n, m6c, m7, m8, m9, m10, m11, m11n, m11c, rfl, mop, -, -, -, mn, -, -, -, -, -, -, -, -, -, -, f0, f1, f2, f3, f4, f5, f6, f7, f8, f9, f10, f11⟩ := HY2.open
      unfold choS at hr
      rw [← kop, ← kn, ← mop, ← mn] at hr
      have CH := hid_of (fun wz => choice_any k0 k8 (.int .i64 k1) (.int .i64 k2) (.int .i64 k3) (.int .i64 k4) k5 (.slice k6 k6n k6c) k7 k9 (.int .i64 k10) (.slice k11 k11n k11c) m0 m8 (.int .i64 m1) (.int .i64 m2) (.int .i64 m3) (.int .i64 m4) m5 (.slice m6 m6n m6c) m7 m9 (.int .i64 m10) (.slice m11 m11n m11c) wz)
      rw [← hr] at CH
      have hn3 : nk = 3 := by rw [HNK.out, h3]
      have hn1 : (1 : Int) < (nk : Int) := by omega
      have hn2 : (2 : Int) < (nk : Int) := by omega
      have hm1 : 1 < nk := by omega
      have hm2 : 2 < nk := by omega
      simp only [Nat.reduceMul, Nat.one_mul, Nat.add_assoc, Nat.reduceAdd] at d0 d1 d2 d3 d4 d5 d6 d7 d8 d9 d10 d11 f0 f1 f2 f3 f4 f5 f6 f7 f8 f9 f10 f11
      clear hr kop kn mop mn hu1 hu2 HY1 HY2 h3 hn3
      have hS : ∀ wz, Below w.heap.size w wz → (wz.cell? ⟨b, q, none⟩ = some (.pointer (some ⟨g, o, none⟩)) ∧ wz.cell? ⟨g, o + 11, none⟩ = some (.slice (some ⟨gk, qk, none⟩) nk ck) ∧ wz.cell? ⟨gk, qk + 12, none⟩ = some (.int .i64 k0) ∧ wz.cell? ⟨gk, qk + 13, none⟩ = some (.int .i64 k1) ∧ wz.cell? ⟨gk, qk + 14, none⟩ = some (.int .i64 k2) ∧ wz.cell? ⟨gk, qk + 15, none⟩ = some (.int .i64 k3) ∧ wz.cell? ⟨gk, qk + 16, none⟩ = some (.int .i64 k4) ∧ wz.cell? ⟨gk, qk + 17, none⟩ = some (k5) ∧ wz.cell? ⟨gk, qk + 18, none⟩ = some (.slice k6 k6n k6c) ∧ wz.cell? ⟨gk, qk + 19, none⟩ = some (k7) ∧ wz.cell? ⟨gk, qk + 20, none⟩ = some (.int .i64 k8) ∧ wz.cell? ⟨gk, qk + 21, none⟩ = some (k9) ∧ wz.cell? ⟨gk, qk + 22, none⟩ = some (.int .i64 k10) ∧ wz.cell? ⟨gk, qk + 23, none⟩ = some (.slice k11 k11n k11c) ∧ wz.cell? ⟨gk, qk + 24, none⟩ = some (.int .i64 m0) ∧ wz.cell? ⟨gk, qk + 25, none⟩ = some (.int .i64 m1) ∧ wz.cell? ⟨gk, qk + 26, none⟩ = some (.int .i64 m2) ∧ wz.cell? ⟨gk, qk + 27, none⟩ = some (.int .i64 m3) ∧ wz.cell? ⟨gk, qk + 28, none⟩ = some (.int .i64 m4) ∧ wz.cell? ⟨gk, qk + 29, none⟩ = some (m5) ∧ wz.cell? ⟨gk, qk + 30, none⟩ = some (.slice m6 m6n m6c) ∧ wz.cell? ⟨gk, qk + 31, none⟩ = some (m7) ∧ wz.cell? ⟨gk, qk + 32, none⟩ = some (.int .i64 m8) ∧ wz.cell? ⟨gk, qk + 33, none⟩ = some (m9) ∧ wz.cell? ⟨gk, qk + 34, none⟩ = some (.int .i64 m10) ∧ wz.cell? ⟨gk, qk + 35, none⟩ = some (.slice m11 m11n m11c)) := fun wz hz => by
        have hc : ∀ gg j, gg < w.heap.size → wz.cell? ⟨gg, j, none⟩ = w.cell? ⟨gg, j, none⟩ := fun gg j hg => hz.cell (p := ⟨gg, j, none⟩) hg
        have l0 := World.block_lt_of_cell? w _ hb
        have l1 := World.block_lt_of_cell? w _ c11
        have l2 := World.block_lt_of_cell? w _ d0
        exact ⟨(hc _ _ l0).trans hb, (hc _ _ l1).trans c11, (hc _ _ l2).trans d0, (hc _ _ l2).trans d1, (hc _ _ l2).trans d2, (hc _ _ l2).trans d3, (hc _ _ l2).trans d4, (hc _ _ l2).trans d5, (hc _ _ l2).trans d6, (hc _ _ l2).trans d7, (hc _ _ l2).trans d8, (hc _ _ l2).trans d9, (hc _ _ l2).trans d10, (hc _ _ l2).trans d11, (hc _ _ l2).trans f0, (hc _ _ l2).trans f1, (hc _ _ l2).trans f2, (hc _ _ l2).trans f3, (hc _ _ l2).trans f4, (hc _ _ l2).trans f5, (hc _ _ l2).trans f6, (hc _ _ l2).trans f7, (hc _ _ l2).trans f8, (hc _ _ l2).trans f9, (hc _ _ l2).trans f10, (hc _ _ l2).trans f11⟩
      have HS := hid_of hS
      have cs0 := hS w (Below.refl _ _)
      clear hS
      go_enter Tryd.func25, Tryd.ntmps25
      go_wp2
      go_region_held3 (fun wz => wz.cell? ⟨b, q, none⟩ = some (.pointer (some ⟨g, o, none⟩)) ∧ wz.cell? ⟨g, o + 11, none⟩ = some (.slice (some ⟨gk, qk, none⟩) nk ck) ∧ wz.cell? ⟨gk, qk + 12, none⟩ = some (.int .i64 k0) ∧ wz.cell? ⟨gk, qk + 13, none⟩ = some (.int .i64 k1) ∧ wz.cell? ⟨gk, qk + 14, none⟩ = some (.int .i64 k2) ∧ wz.cell? ⟨gk, qk + 15, none⟩ = some (.int .i64 k3) ∧ wz.cell? ⟨gk, qk + 16, none⟩ = some (.int .i64 k4) ∧ wz.cell? ⟨gk, qk + 17, none⟩ = some (k5) ∧ wz.cell? ⟨gk, qk + 18, none⟩ = some (.slice k6 k6n k6c) ∧ wz.cell? ⟨gk, qk + 19, none⟩ = some (k7) ∧ wz.cell? ⟨gk, qk + 20, none⟩ = some (.int .i64 k8) ∧ wz.cell? ⟨gk, qk + 21, none⟩ = some (k9) ∧ wz.cell? ⟨gk, qk + 22, none⟩ = some (.int .i64 k10) ∧ wz.cell? ⟨gk, qk + 23, none⟩ = some (.slice k11 k11n k11c) ∧ wz.cell? ⟨gk, qk + 24, none⟩ = some (.int .i64 m0) ∧ wz.cell? ⟨gk, qk + 25, none⟩ = some (.int .i64 m1) ∧ wz.cell? ⟨gk, qk + 26, none⟩ = some (.int .i64 m2) ∧ wz.cell? ⟨gk, qk + 27, none⟩ = some (.int .i64 m3) ∧ wz.cell? ⟨gk, qk + 28, none⟩ = some (.int .i64 m4) ∧ wz.cell? ⟨gk, qk + 29, none⟩ = some (m5) ∧ wz.cell? ⟨gk, qk + 30, none⟩ = some (.slice m6 m6n m6c) ∧ wz.cell? ⟨gk, qk + 31, none⟩ = some (m7) ∧ wz.cell? ⟨gk, qk + 32, none⟩ = some (.int .i64 m8) ∧ wz.cell? ⟨gk, qk + 33, none⟩ = some (m9) ∧ wz.cell? ⟨gk, qk + 34, none⟩ = some (.int .i64 m10) ∧ wz.cell? ⟨gk, qk + 35, none⟩ = some (.slice m11 m11n m11c)) (first | exact cs0 | exact cs2 | go_keep) (first | (go_at_call 27; ((with_reducible refine (CH.out _).mono ?_); (rintro e w2 ⟨rfl, h2⟩)); (have H2 := hid_of (undrew h2)); (have cs2 := HS.out w2 H2.out); clear h2))
      go_wp2
      go_ret
      exact ⟨rfl, H2.out⟩
    · rw [if_neg (fun h => hi0 h.2), if_neg (by decide), if_neg (by decide), if_neg (by decide), if_neg (by decide), if_neg (by decide), if_neg (by decide), if_neg (by decide), if_neg (by decide)] at hr
      have e0 : ((i : Int) == 0) = false := ne_f (by omega)
      obtain ⟨s, hs⟩ : ∃ s, s = sg 7 := ⟨_, rfl⟩
      have hg := HGH.out.2 7 (by decide)
      rw [← hs] at hg
      have hsz : i < s.size := by
        rw [hs]
        have h := HFH.out
        unfold formB at h
        rw [← HOP.out] at h
        have h3 : t.ks.length = 3 := by simpa [sg, SIG, ByteArray.size] using h
        have : (sg 7).size = 3 := rfl
        rw [HNK.out] at hin
        omega
      have hsz' : (i : Int) < (s.size : Int) := by omega
      have hys : ((s[i]).toNat : Int) = r := by rw [tab_at s i hsz, hr, tabS, ← HOP.out, hs]; rfl
      clear hr hi0 hs HP
      go_enter Tryd.func25, Tryd.ntmps25
      go_wp2
      go_ret
      exact ⟨rfl, Below.refl _ _⟩
  rw [if_neg (fun h => h7 h.1)] at hr
  have e7 := ne_f h7
  by_cases h22 : op = 22
  · rw [if_pos h22] at hr
    subst h22
    have NU := hid_of (fun wz => num_any kd wz)
    rw [← hr] at NU
    clear hr HP
    go_enter Tryd.func25, Tryd.ntmps25
    go_wp2_with (first
      | ((go_at_call 28; ((with_reducible refine (NU.out _).mono ?_); (rintro e w2 ⟨rfl, rfl⟩)))))
    go_ret
    exact ⟨rfl, Below.refl _ _⟩
  rw [if_neg h22] at hr
  have e22 := ne_f h22
  by_cases h31 : op = 31
  · rw [if_pos h31] at hr
    subst h31
    have NU := hid_of (fun wz => num_any kd' wz)
    rw [← hr] at NU
    clear hr HP
    go_enter Tryd.func25, Tryd.ntmps25
    go_wp2_with (first
      | ((go_at_call 28; ((with_reducible refine (NU.out _).mono ?_); (rintro e w2 ⟨rfl, rfl⟩)))))
    go_ret
    exact ⟨rfl, Below.refl _ _⟩
  rw [if_neg h31] at hr
  have e31 := ne_f h31
  by_cases h30 : op = 30
  · rw [if_pos h30] at hr
    subst h30
    have SU := hid_of (sum_any kd' np' cp' ap' u.pk u.pl u.ph (.int .i64 lo') (.int .i64 hi2) vn' vr' w HP)
    rw [← hr] at SU
    clear hr HP
    go_enter Tryd.func25, Tryd.ntmps25
    go_wp2_with (first
      | ((go_at_call 29; ((with_reducible refine (SU.out).mono ?_); (rintro e w2 ⟨rfl, h2⟩)); (have H2 := hid_of h2); clear h2)))
    go_ret
    exact ⟨rfl, H2.out⟩
  rw [if_neg h30] at hr
  have e30 := ne_f h30
  by_cases h29 : op = 29
  · rw [if_pos h29] at hr
    subst h29
    have SZ := hid_of (size_any sr' kd' (.int .i64 lo') (.int .i64 hi2) vn' (.slice ap' np' cp') vr' w)
    obtain ⟨z, hz⟩ : ∃ z, z = sizeI sr' kd' := ⟨_, rfl⟩
    rw [← hz] at SZ hr
    have PL := hid_of (fun wz => plus_any z wz)
    rw [← hr] at PL
    clear hr HP hz
    go_enter Tryd.func25, Tryd.ntmps25
    go_wp2_with (first
      | ((go_at_call 30; ((with_reducible refine (SZ.out).mono ?_); (rintro e w2 ⟨rfl, h2⟩)); (have H2 := hid_of h2); clear h2))
      | ((go_at_call 26; ((with_reducible refine (PL.out _).mono ?_); (rintro e w3 ⟨rfl, rfl⟩)))))
    go_ret
    exact ⟨rfl, H2.out⟩
  rw [if_neg h29] at hr
  have e29 := ne_f h29
  by_cases h37 : op = 37
  · rw [if_pos h37] at hr
    subst h37
    have PL := hid_of (fun wz => plus_any (kd' == 8) wz)
    rw [show decide (kd' = 8) = (kd' == 8) by rw [Bool.eq_iff_iff]; simp <;> omega] at hr
    rw [← hr] at PL
    clear hr HP
    go_enter Tryd.func25, Tryd.ntmps25
    go_wp2_with (first
      | ((go_at_call 26; ((with_reducible refine (PL.out _).mono ?_); (rintro e w3 ⟨rfl, rfl⟩)))))
    go_ret
    exact ⟨rfl, Below.refl _ _⟩
  rw [if_neg h37] at hr
  have e37 := ne_f h37
  by_cases h23 : op = 23
  · rw [if_pos h23] at hr
    subst h23
    have PL := hid_of (fun wz => plus_any (sr' != 3) wz)
    rw [show decide (sr' ≠ 3) = (sr' != 3) by rw [Bool.eq_iff_iff]; simp <;> omega] at hr
    rw [← hr] at PL
    clear hr HP
    go_enter Tryd.func25, Tryd.ntmps25
    go_wp2_with (first
      | ((go_at_call 26; ((with_reducible refine (PL.out _).mono ?_); (rintro e w3 ⟨rfl, rfl⟩)))))
    go_ret
    exact ⟨rfl, Below.refl _ _⟩
  rw [if_neg h23] at hr
  have e23 := ne_f h23
  by_cases h24 : op = 24
  · rw [if_pos h24] at hr
    subst h24
    have PL := hid_of (fun wz => plus_any ((i : Int) % 2 == 1) wz)
    rw [show decide (i % 2 = 1) = ((i : Int) % 2 == 1) by rw [Bool.eq_iff_iff]; simp <;> omega] at hr
    rw [← hr] at PL
    clear hr HP
    go_enter Tryd.func25, Tryd.ntmps25
    go_wp2_with (first
      | ((go_at_call 26; ((with_reducible refine (PL.out _).mono ?_); (rintro e w3 ⟨rfl, rfl⟩)))))
    go_ret
    exact ⟨rfl, Below.refl _ _⟩
  rw [if_neg h24] at hr
  have e24 := ne_f h24
  by_cases h25 : op = 25
  · rw [if_pos h25] at hr
    subst h25
    subst hr
    clear HP
    go_enter Tryd.func25, Tryd.ntmps25
    go_wp2
    go_ret
    exact ⟨rfl, Below.refl _ _⟩
  rw [if_neg h25] at hr
  have e25 := ne_f h25
  obtain ⟨hk, hsz0⟩ : (1 ≤ op ∧ op ≤ 37) ∧ i < (sg op.toNat).size := by
    have h := HFH.out
    unfold formB at h
    rw [← HOP.out, if_neg (by omega), if_neg h24] at h
    simp only [Bool.and_eq_true, decide_eq_true_eq] at h
    refine ⟨h.1, ?_⟩
    rw [← h.2, ← HNK.out]
    exact hin
  obtain ⟨k, rfl⟩ : ∃ k : Nat, op = k := ⟨op.toNat, by omega⟩
  have hg := HGH.out.2 k (by omega)
  rw [Int.toNat_natCast] at hsz0
  obtain ⟨s, hs⟩ : ∃ s, s = sg k := ⟨_, rfl⟩
  rw [← hs] at hg hsz0
  have hsz : i < s.size := hsz0
  have hsz' : (i : Int) < (s.size : Int) := by omega
  have hk38 : k < 38 := by omega
  have hys : ((s[i]).toNat : Int) = r := by rw [tab_at s i hsz, hr, tabS, ← HOP.out, hs, Int.toNat_natCast]
  clear hr hs HP h7 h22 h31 h30 h29 h37 h23 h24 h25 hk hsz0 ro
  go_enter Tryd.func25, Tryd.ntmps25
  go_wp2
  go_ret
  exact ⟨rfl, Below.refl _ _⟩
end Go.Proofs.YtdacalplnggnoaaDoor
