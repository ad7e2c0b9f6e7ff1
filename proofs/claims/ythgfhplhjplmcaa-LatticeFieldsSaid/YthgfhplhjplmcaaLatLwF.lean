/- The law on fields. Bounds on sizes alone. -/
import Derived.Test.YthgfhplhjplmcaaLatFda
import Derived.Test.YthgfhplhjplmcaaLatAwk
import Derived.Test.YthgfhplhjplmcaaLatPrt
import Derived.Test.YthgfhplhjplmcaaLatOpn
namespace Go.Proofs.Ythgfhplhjplmcaa
open Go.RowKit

theorem okay_kid {t u : Lat} {i : Nat} (h : Okay t) (hu : t.ps[i]? = some u) : Okay u := by
  cases h with
  | mk _ hp => exact hp u (List.mem_of_getElem? hu)
set_option maxRecDepth 100000 in
set_option maxHeartbeats 6400000 in
theorem fields_law (t : Lat) (k lo hi : Int) (an : Option Addr) (nn cn : Nat) (ap : Option Addr) (np cp : Nat) (ar : Option Addr) (nr cr : Nat) (bs : ByteArray) (w : World) (H1 : LO w k lo hi an nn cn ap np cp ar nr cr t) : Calls Try.prog 6 #[.agg #[.int .i64 k, .int .i64 lo, .int .i64 hi, .slice an nn cn, .slice ap np cp, .slice ar nr cr], .string bs] w (BoP true w) := by
  obtain ⟨s, hbs⟩ : ∃ s : Str, bs = ba s := ⟨bs.data.toList, by rw [ba_of]⟩
  have HBB := hid_of (bel_alloc w (.cells #[.int .i64 k, .int .i64 lo, .int .i64 hi, .slice an nn cn, .slice ap np cp, .slice ar nr cr] 26))
  have HC := hid_of (fun (w' : World) (h : Below (w.alloc (.cells #[.int .i64 k, .int .i64 lo, .int .i64 hi, .slice an nn cn, .slice ap np cp, .slice ar nr cr] 26)).heap.size (w.alloc (.cells #[.int .i64 k, .int .i64 lo, .int .i64 hi, .slice an nn cn, .slice ap np cp, .slice ar nr cr] 26)) w') => box6 k lo hi an nn cn ap np cp ar nr cr h)
  have AW := hid_of (fun w => awake_any w)
  have HL := hid_of (fun (wz : World) (hz : Below (w.alloc (.cells #[.int .i64 k, .int .i64 lo, .int .i64 hi, .slice an nn cn, .slice ap np cp, .slice ar nr cr] 26)).heap.size (w.alloc (.cells #[.int .i64 k, .int .i64 lo, .int .i64 hi, .slice an nn cn, .slice ap np cp, .slice ar nr cr] 26)) wz) => H1.at (HBB.out.trans (hz.mono HBB.out.size)))
  have CH := hid_of (fun (wz : World) (hz : Below (w.alloc (.cells #[.int .i64 k, .int .i64 lo, .int .i64 hi, .slice an nn cn, .slice ap np cp, .slice ar nr cr] 26)).heap.size (w.alloc (.cells #[.int .i64 k, .int .i64 lo, .int .i64 hi, .slice an nn cn, .slice ap np cp, .slice ar nr cr] 26)) wz) => check_any t k lo hi an nn cn ap np cp ar nr cr wz (HL.out wz hz))
  have HOK : Hid (chkL t = 0 → Okay t) := hid_of (fun h => okay_of t 1 0 h)
  obtain ⟨r, hr⟩ : ∃ r, r = chkL t := ⟨_, rfl⟩
  rw [← hr] at CH HOK
  have HK1 := hid_of H1.hk
  clear hr
  by_cases h0 : r = 0
  case neg =>
    have e0 : (r == 0) = false := beq_eq_false_iff_ne.2 h0
    have e0' : (r != 0) = true := bne_iff_ne.2 h0
    clear H1 h0 HL
    go_enter Try.func6, Try.ntmps6
    go_wp2_with (first
      | (go_at_call 11; ((with_reducible refine (AW.out _).mono ?_); (rintro e w1 ⟨rfl, h1⟩); (have E1 := hid_of h1); (obtain ⟨c0, c1, c2, c3, c4, c5⟩ := HC.out w1 h1); clear h1))
      | (go_at_call 12; ((with_reducible refine (CH.out w1 E1.out).mono ?_); (rintro e w2 ⟨rfl, h2⟩); (have E2 := hid_of (E1.out.trans (h2.mono E1.out.size))); clear h2)))
    go_ret
    exact ⟨rfl, HBB.out.trans (E2.out.mono HBB.out.size)⟩
  subst h0
  have hok := HOK.out rfl
  clear HOK
  have hsm := node_shape (by cases hok; assumption)
  obtain ⟨a, hat⟩ := at_exists t.ns s
  by_cases hyes : k = 6 ∧ a ≠ -1
  case neg =>
    have FN := hid_of (fun (wz : World) (hz : Below (w.alloc (.cells #[.int .i64 k, .int .i64 lo, .int .i64 hi, .slice an nn cn, .slice ap np cp, .slice ar nr cr] 26)).heap.size (w.alloc (.cells #[.int .i64 k, .int .i64 lo, .int .i64 hi, .slice an nn cn, .slice ap np cp, .slice ar nr cr] 26)) wz) => field_no k lo hi an nn cn ap np cp ar nr cr t.ns s a wz (HL.out wz hz).n hat (by
      by_cases h6 : k = 6
      · exact .inr (Classical.not_not.1 (fun h => hyes ⟨h6, h⟩))
      · exact .inl h6))
    rw [← hbs] at FN
    by_cases h6 : k = 6
    · have hnot : Hid (s ∉ t.ns) := hid_of (by
        rcases hat with ⟨n, rfl, _⟩ | ⟨_, h⟩
        · exact absurd ⟨h6, by omega⟩ hyes
        · exact h)
      have HRN := hid_of H1.n
      obtain ⟨hn1, hn2, hn3, hn4⟩ := rds_open H1.n
      have hnn9 : nn ≤ 9223372036854775807 := by omega
      have HN := hid_of hn1
      have H4 := hid_of hn4
      have HBS := hid_of hbs
      clear H1 hyes hat hok hsm hbs hn1 hn2 hn3 hn4
      subst h6
      go_enter Try.func6, Try.ntmps6
      go_wp2_with (first
        | (go_at_call 11; ((with_reducible refine (AW.out _).mono ?_); (rintro e w1 ⟨rfl, h1⟩); (have E1 := hid_of h1); (obtain ⟨c0, c1, c2, c3, c4, c5⟩ := HC.out w1 h1); clear h1))
        | (go_at_call 12; ((with_reducible refine (CH.out w1 E1.out).mono ?_); (rintro e w2 ⟨rfl, h2⟩); (have E2 := hid_of (E1.out.trans (h2.mono E1.out.size))); (obtain ⟨d0, d1, d2, d3, d4, d5⟩ := HC.out w2 (E1.out.trans (h2.mono E1.out.size))); clear h2))
        | (go_at_call 24; ((with_reducible refine (FN.out w2 E2.out).mono ?_); (rintro e w3 ⟨rfl, h3⟩); (have E3 := hid_of (E2.out.trans (h3.mono E2.out.size))); (obtain ⟨f0, f1, f2, f3, f4, f5⟩ := HC.out w3 (E2.out.trans (h3.mono E2.out.size))); (have l3 : w.heap.size < w3.heap.size := World.block_lt_of_cell? w3 _ f0); clear h3)))
      have E4 := hid_of (E3.out.trans ((bel_alloc w3 (.cells #[.int .i64 0, .int .i64 0, .int .i64 0, .slice none 0 0, .slice none 0 0, .slice none 0 0] 26)).mono E3.out.size))
      obtain ⟨q0, q1, q2, q3, q4, q5⟩ := HC.out _ E4.out
      go_loopw [7] (fun iv wr => ∃ i : Nat, iv = .int .i64 i ∧ i ≤ nn ∧ wr = w3.alloc (.cells #[.int .i64 0, .int .i64 0, .int .i64 0, .slice none 0 0, .slice none 0 0, .slice none 0 0] 26)) (fun iv _ => nn - (intOf iv).toNat)
      case atStart => exact ⟨0, rfl, Nat.zero_le _, rfl⟩
      case round =>
        obtain ⟨i, rfl, hin, rfl⟩ := hrel
        by_cases hlt : i < nn
        · have dd : decide (i < nn) = true := decide_eq_true hlt
          have hlt' : (i : Int) < (nn : Int) := by omega
          have HLT := hid_of hlt
          have hl : i < t.ns.length := by have := HN.out; omega
          rcases H4.out with h3 | ⟨g, o, rfl, hg, hc⟩
          · exfalso; rw [h3] at hl; simp at hl
          have cc := ((HBB.out.trans (E4.out.mono HBB.out.size)).cell (p := ⟨g, o + i, none⟩) hg).trans (hc i _ (List.getElem?_eq_getElem hl))
          obtain ⟨bx, hx⟩ : ∃ bx, bx = ba t.ns[i] := ⟨_, rfl⟩
          rw [← hx] at cc
          have et := eq_f hx HBS.out (show t.ns[i] ≠ s from fun e => hnot.out (by rw [← e]; exact List.getElem_mem hl))
          clear hlt hc hx hl H4 hg
          go_wp2
          go_roundw
          case rel => exact ⟨i + 1, by go_num, HLT.out, by first | trivial | rfl⟩
          case measure => have := HLT.out; simp [intOf]; omega
        · have dd : decide (i < nn) = false := decide_eq_false hlt
          clear hlt
          go_wp2
          go_ret
          exact ⟨rfl, HBB.out.trans (E4.out.mono HBB.out.size)⟩
    · have e6 : (k == 6) = false := beq_eq_false_iff_ne.2 h6
      clear H1 hyes hat hok hsm hbs h6
      go_enter Try.func6, Try.ntmps6
      go_wp2_with (first
        | (go_at_call 11; ((with_reducible refine (AW.out _).mono ?_); (rintro e w1 ⟨rfl, h1⟩); (have E1 := hid_of h1); (obtain ⟨c0, c1, c2, c3, c4, c5⟩ := HC.out w1 h1); clear h1))
        | (go_at_call 12; ((with_reducible refine (CH.out w1 E1.out).mono ?_); (rintro e w2 ⟨rfl, h2⟩); (have E2 := hid_of (E1.out.trans (h2.mono E1.out.size))); (obtain ⟨d0, d1, d2, d3, d4, d5⟩ := HC.out w2 (E1.out.trans (h2.mono E1.out.size))); clear h2))
        | (go_at_call 24; ((with_reducible refine (FN.out w2 E2.out).mono ?_); (rintro e w3 ⟨rfl, h3⟩); (have E3 := hid_of (E2.out.trans (h3.mono E2.out.size))); (obtain ⟨f0, f1, f2, f3, f4, f5⟩ := HC.out w3 (E2.out.trans (h3.mono E2.out.size))); (have l3 : w.heap.size < w3.heap.size := World.block_lt_of_cell? w3 _ f0); clear h3)))
      go_ret
      exact ⟨rfl, HBB.out.trans ((E3.out.trans ((bel_alloc w3 _).mono E3.out.size)).mono HBB.out.size)⟩
  obtain ⟨hk6, ha⟩ := hyes
  have e6 : (k == 6) = true := by simpa using hk6
  obtain ⟨n, rfl, hn, hfirst⟩ : ∃ n : Nat, a = n ∧ t.ns[n]? = some s ∧ ∀ j, j < n → t.ns[j]? ≠ some s := by
    rcases hat with h | ⟨h, _⟩
    · exact h
    · exact absurd h ha
  have hpl : t.ps.length = t.ns.length := by
    have hk6 : t.k = 6 := HK1.out.symm.trans hk6
    unfold shapeB at hsm
    rw [hk6] at hsm
    simp at hsm
    exact hsm.2.2.2.1
  obtain ⟨u, hu⟩ : ∃ u, t.ps[n]? = some u := ⟨_, List.getElem?_eq_getElem (by have := (List.getElem?_eq_some_iff.1 hn).1; omega)⟩
  have FA := hid_of (fun (wz : World) (hz : Below (w.alloc (.cells #[.int .i64 k, .int .i64 lo, .int .i64 hi, .slice an nn cn, .slice ap np cp, .slice ar nr cr] 26)).heap.size (w.alloc (.cells #[.int .i64 k, .int .i64 lo, .int .i64 hi, .slice an nn cn, .slice ap np cp, .slice ar nr cr] 26)) wz) => field_at t u k lo hi an nn cn ap np cp ar nr cr s n wz (HL.out wz hz) hk6 hu (okay_kid hok hu) hat)
  rw [← hbs] at FA
  obtain ⟨g, o, kU, loU, hiU, anU, nnU, cnU, apU, npU, cpU, arU, nrU, crU, hap, LU, hcU⟩ := H1.p.get hu
  have HAP := hid_of hap
  obtain ⟨hn1, hn2, hn3, hn4⟩ := rds_open H1.n
  have hpn := H1.p.len
  have hnn9 : nn ≤ 9223372036854775807 := by omega
  have hnp9 : np ≤ 9223372036854775807 := by omega
  have hnlt : n < nn := by have := (List.getElem?_eq_some_iff.1 hn).1; omega
  have hnpl : n < np := by have := (List.getElem?_eq_some_iff.1 hu).1; omega
  have HN := hid_of hn1
  have H4 := hid_of hn4
  have HBS := hid_of hbs
  have HF := hid_of hfirst
  have HNS := hid_of hn
  have HNL := hid_of (And.intro hnlt hnpl)
  have HCU := hid_of (fun (wz : World) (hz : Below (w.alloc (.cells #[.int .i64 k, .int .i64 lo, .int .i64 hi, .slice an nn cn, .slice ap np cp, .slice ar nr cr] 26)).heap.size (w.alloc (.cells #[.int .i64 k, .int .i64 lo, .int .i64 hi, .slice an nn cn, .slice ap np cp, .slice ar nr cr] 26)) wz) => hcU wz (HBB.out.trans (hz.mono HBB.out.size)))
  have LUH := hid_of (fun (wz : World) (hz : Below (w.alloc (.cells #[.int .i64 k, .int .i64 lo, .int .i64 hi, .slice an nn cn, .slice ap np cp, .slice ar nr cr] 26)).heap.size (w.alloc (.cells #[.int .i64 k, .int .i64 lo, .int .i64 hi, .slice an nn cn, .slice ap np cp, .slice ar nr cr] 26)) wz) => LU.at (HBB.out.trans (hz.mono HBB.out.size)))
  clear H1 hat hok hsm hbs hn1 hn2 hn3 hn4 hpn hpl hu hn hfirst ha hk6 hap LU hcU hnlt hnpl
  go_enter Try.func6, Try.ntmps6
  go_wp2_with (first
    | (go_at_call 11; ((with_reducible refine (AW.out _).mono ?_); (rintro e w1 ⟨rfl, h1⟩); (have E1 := hid_of h1); (obtain ⟨c0, c1, c2, c3, c4, c5⟩ := HC.out w1 h1); clear h1))
    | (go_at_call 12; ((with_reducible refine (CH.out w1 E1.out).mono ?_); (rintro e w2 ⟨rfl, h2⟩); (have E2 := hid_of (E1.out.trans (h2.mono E1.out.size))); (obtain ⟨d0, d1, d2, d3, d4, d5⟩ := HC.out w2 (E1.out.trans (h2.mono E1.out.size))); clear h2))
    | (go_at_call 24; ((with_reducible refine (FA.out w2 E2.out).mono ?_); (rintro e w3 ⟨kF, loF, hiF, anF, nnF, cnF, apF, npF, cpF, arF, nrF, crF, rfl, hlf, h3⟩); (have LF := hid_of hlf); (have E3 := hid_of (E2.out.trans (h3.mono E2.out.size))); (obtain ⟨f0, f1, f2, f3, f4, f5⟩ := HC.out w3 (E2.out.trans (h3.mono E2.out.size))); (have l3 : w.heap.size < w3.heap.size := World.block_lt_of_cell? w3 _ f0); clear h3 hlf)))
  have E4 := hid_of (E3.out.trans ((bel_alloc w3 (.cells #[.int .i64 kF, .int .i64 loF, .int .i64 hiF, .slice anF nnF cnF, .slice apF npF cpF, .slice arF nrF crF] 26)).mono E3.out.size))
  have HFB := hid_of (fun (wz : World) (hz : Below (w3.alloc (.cells #[.int .i64 kF, .int .i64 loF, .int .i64 hiF, .slice anF nnF cnF, .slice apF npF cpF, .slice arF nrF crF] 26)).heap.size (w3.alloc (.cells #[.int .i64 kF, .int .i64 loF, .int .i64 hiF, .slice anF nnF cnF, .slice apF npF cpF, .slice arF nrF crF] 26)) wz) => box6 kF loF hiF anF nnF cnF apF npF cpF arF nrF crF hz)
  obtain ⟨q0, q1, q2, q3, q4, q5⟩ := HC.out _ E4.out
  go_loopw [7] (fun iv wr => ∃ i : Nat, iv = .int .i64 i ∧ i ≤ n ∧ wr = w3.alloc (.cells #[.int .i64 kF, .int .i64 loF, .int .i64 hiF, .slice anF nnF cnF, .slice apF npF cpF, .slice arF nrF crF] 26)) (fun iv _ => nn - (intOf iv).toNat)
  case atStart => exact ⟨0, rfl, Nat.zero_le _, rfl⟩
  case round =>
    obtain ⟨i, rfl, hin, rfl⟩ := hrel
    have dd : decide (i < nn) = true := decide_eq_true (by have := HNL.out.1; omega)
    have hlt' : (i : Int) < (nn : Int) := by have := HNL.out.1; omega
    have HLT : Hid (i < nn) := hid_of (by have := HNL.out.1; omega)
    have hl : i < t.ns.length := by have := HN.out; have := HNL.out.1; omega
    rcases H4.out with h3 | ⟨gn, on, rfl, hg, hc⟩
    · exfalso; rw [h3] at hl; simp at hl
    have cc := ((HBB.out.trans (E4.out.mono HBB.out.size)).cell (p := ⟨gn, on + i, none⟩) hg).trans (hc i _ (List.getElem?_eq_getElem hl))
    obtain ⟨bx, hx⟩ : ∃ bx, bx = ba t.ns[i] := ⟨_, rfl⟩
    rw [← hx] at cc
    by_cases hi : i = n
    · subst hi
      have hs : t.ns[i] = s := by
        have h := HNS.out
        rw [List.getElem?_eq_getElem hl] at h
        exact Option.some.inj h
      have et := eq_t hx HBS.out hs
      have hip : i < np := HNL.out.2
      have hip' : (i : Int) < (np : Int) := by omega
      obtain ⟨u0, u1, u2, u3, u4, u5⟩ := HCU.out _ E4.out
      obtain ⟨v0, v1, v2, v3, v4, v5⟩ := HFB.out _ (Below.refl _ _)
      have HSS : Hid (∀ wz, Below (w3.alloc (.cells #[.int .i64 kF, .int .i64 loF, .int .i64 hiF, .slice anF nnF cnF, .slice apF npF cpF, .slice arF nrF crF] 26)).heap.size (w3.alloc (.cells #[.int .i64 kF, .int .i64 loF, .int .i64 hiF, .slice anF nnF cnF, .slice apF npF cpF, .slice arF nrF crF] 26)) wz → (fun (wz : World) => wz.cell? ⟨w.heap.size, 4, none⟩ = some (.slice (some ⟨g, o, none⟩) np cp) ∧ wz.cell? ⟨w3.heap.size, 0, none⟩ = some (.int .i64 kF) ∧ wz.cell? ⟨w3.heap.size, 1, none⟩ = some (.int .i64 loF) ∧ wz.cell? ⟨w3.heap.size, 2, none⟩ = some (.int .i64 hiF) ∧ wz.cell? ⟨w3.heap.size, 3, none⟩ = some (.slice anF nnF cnF) ∧ wz.cell? ⟨w3.heap.size, 4, none⟩ = some (.slice apF npF cpF) ∧ wz.cell? ⟨w3.heap.size, 5, none⟩ = some (.slice arF nrF crF) ∧ wz.cell? ⟨g, o + i * 6, none⟩ = some (.int .i64 kU) ∧ wz.cell? ⟨g, o + i * 6 + 1, none⟩ = some (.int .i64 loU) ∧ wz.cell? ⟨g, o + i * 6 + 2, none⟩ = some (.int .i64 hiU) ∧ wz.cell? ⟨g, o + i * 6 + 3, none⟩ = some (.slice anU nnU cnU) ∧ wz.cell? ⟨g, o + i * 6 + 4, none⟩ = some (.slice apU npU cpU) ∧ wz.cell? ⟨g, o + i * 6 + 5, none⟩ = some (.slice arU nrU crU)) wz) := hid_of (fun wz hz => ⟨(by have q := (HC.out wz (E4.out.trans (hz.mono E4.out.size))).2.2.2.2.1; rw [HAP.out] at q; exact q), (HFB.out wz hz).1, (HFB.out wz hz).2.1, (HFB.out wz hz).2.2.1, (HFB.out wz hz).2.2.2.1, (HFB.out wz hz).2.2.2.2.1, (HFB.out wz hz).2.2.2.2.2, HCU.out wz (E4.out.trans (hz.mono E4.out.size))⟩)
      have EQ := hid_of (fun (wz : World) (hz : Below (w3.alloc (.cells #[.int .i64 kF, .int .i64 loF, .int .i64 hiF, .slice anF nnF cnF, .slice apF npF cpF, .slice arF nrF crF] 26)).heap.size (w3.alloc (.cells #[.int .i64 kF, .int .i64 loF, .int .i64 hiF, .slice anF nnF cnF, .slice apF npF cpF, .slice arF nrF crF] 26)) wz) => equal_any u u kF loF hiF anF nnF cnF apF npF cpF arF nrF crF kU loU hiU anU nnU cnU apU npU cpU arU nrU crU wz (LF.out.at ((bel_alloc w3 _).trans (hz.mono (by simp)))) (LUH.out wz (E4.out.trans (hz.mono E4.out.size))))
      rw [show decide (u = u) = true by simp] at EQ
      have cs0 := HSS.out (w3.alloc (.cells #[.int .i64 kF, .int .i64 loF, .int .i64 hiF, .slice anF nnF cnF, .slice apF npF cpF, .slice arF nrF crF] 26)).drew (redrewB (Below.refl _ _))
      clear hc hx hl H4 hg hs
      go_wp2
      go_region_held3 (fun (wz : World) => wz.cell? ⟨w.heap.size, 4, none⟩ = some (.slice (some ⟨g, o, none⟩) np cp) ∧ wz.cell? ⟨w3.heap.size, 0, none⟩ = some (.int .i64 kF) ∧ wz.cell? ⟨w3.heap.size, 1, none⟩ = some (.int .i64 loF) ∧ wz.cell? ⟨w3.heap.size, 2, none⟩ = some (.int .i64 hiF) ∧ wz.cell? ⟨w3.heap.size, 3, none⟩ = some (.slice anF nnF cnF) ∧ wz.cell? ⟨w3.heap.size, 4, none⟩ = some (.slice apF npF cpF) ∧ wz.cell? ⟨w3.heap.size, 5, none⟩ = some (.slice arF nrF crF) ∧ wz.cell? ⟨g, o + i * 6, none⟩ = some (.int .i64 kU) ∧ wz.cell? ⟨g, o + i * 6 + 1, none⟩ = some (.int .i64 loU) ∧ wz.cell? ⟨g, o + i * 6 + 2, none⟩ = some (.int .i64 hiU) ∧ wz.cell? ⟨g, o + i * 6 + 3, none⟩ = some (.slice anU nnU cnU) ∧ wz.cell? ⟨g, o + i * 6 + 4, none⟩ = some (.slice apU npU cpU) ∧ wz.cell? ⟨g, o + i * 6 + 5, none⟩ = some (.slice arU nrU crU)) (first | with_reducible exact cs0 | with_reducible exact cs2 | go_keep) (first
        | (go_at_call 14; ((with_reducible refine (EQ.out _ (by first | exact redrewB (Below.refl _ _) | exact Below.refl _ _)).mono ?_); (rintro e w5 ⟨rfl, h5⟩); (have E5 := hid_of (undrew h5)); (have cs2 := HSS.out w5 (undrew h5)); clear h5)))
      go_wp2
      go_ret
      exact ⟨rfl, HBB.out.trans ((E4.out.trans (E5.out.mono E4.out.size)).mono HBB.out.size)⟩
    · have et := eq_f hx HBS.out (show t.ns[i] ≠ s from fun e => HF.out i (by omega) (by rw [List.getElem?_eq_getElem hl, e]))
      have HIN : Hid (i < n) := hid_of (by omega)
      clear hc hx hl H4 hg hi
      go_wp2
      go_roundw
      case rel => exact ⟨i + 1, by go_num, HIN.out, by first | trivial | rfl⟩
      case measure => have := HLT.out; simp [intOf]; omega
end Go.Proofs.Ythgfhplhjplmcaa
