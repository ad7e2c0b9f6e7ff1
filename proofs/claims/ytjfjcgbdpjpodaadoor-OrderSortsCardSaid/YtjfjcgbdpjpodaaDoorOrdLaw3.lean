/- The law OrderSorts. No condition. -/
import Derived.Test.YtjfjcgbdpjpodaaDoorOrdAt
namespace Go.Proofs.YtjfjcgbdpjpodaaDoor
open Go.RowKit

set_option maxRecDepth 100000 in
set_option maxHeartbeats 6400000 in
theorem orderSorts_law (n : Int) (ao : Option Addr) (m cap : Nat) (ps : List Tk) (w : World) (hT : Tb w) (hp : TIn w ao m cap ps) :
    Calls Tryd.prog 7 #[.int .i64 n, .slice ao m cap] w fun e w' => e = .returned (.bool true) ∧ Below w.heap.size w w' := by
  have HP := hid_of hp.1
  have HT := hid_of hT
  have HA := hid_of (awake_any w hT)
  obtain ⟨E, hE⟩ : ∃ E, E = errE n ps := ⟨_, rfl⟩
  have HF : Hid (∀ wx, TRd wx (.slice ao m cap) ps → Calls Tryd.prog 22 #[.int .i64 n, .slice ao m cap] wx fun e w' => e = .returned (.int .i64 E) ∧ Below wx.heap.size wx w') := hid_of (fun wx h => by rw [hE]; exact fault_any n ao m cap ps wx h)
  by_cases h0 : E = 0
  · subst h0
    have hC := err_chk hE.symm
    obtain ⟨k, rfl, hk⟩ := chk_nat hC
    have hv := chk_valid hC
    have G3 : Hid (∀ wx, TRd wx (.slice ao m cap) ps → Tb wx → Calls Tryd.prog 24 #[.int .i64 k, .slice ao m cap] wx fun e w' => ∃ xo c, e = .returned (.tuple #[.slice xo k c, .int .i64 0]) ∧ Rd w' (.slice xo k c) (is (nI (srtL k ps))) ∧ Below wx.heap.size wx w') := hid_of (fun wx h ht => sort_any k ao m cap ps wx h ht hE.symm)
    have HS := hid_of (srt_ok hk hv (err_acyc hE.symm))
    have HV := hid_of hv
    have HK := hid_of hk
    have HMM := hid_of (chk_len hC)
    have HM := hid_of hp.1.cut.1
    clear hT hp hE hC hv
    generalize srtL k ps = s at *
    obtain ⟨i0, hi, hz0, hz1, hz2⟩ := info_parts intsE.info
    go_enter Tryd.func7, Tryd.ntmps7
    go_wp2_with (first
      | (go_at_call 13; ((with_reducible refine (HA.out).mono ?_); (rintro ee w1 ⟨rfl, h1⟩; replace HP := hid_of (HP.out.at h1); replace HT := hid_of (HT.out.at h1); have BA := hid_of h1; clear h1)))
      | (go_at_call 22; ((with_reducible refine (HF.out _ HP.out).mono ?_); (rintro ee w2 ⟨rfl, h1⟩; replace HP := hid_of (HP.out.at h1); replace HT := hid_of (HT.out.at h1); replace BA := hid_of (BA.out.trans (h1.mono BA.out.size)); clear h1)))
      | (go_at_call 24; ((with_reducible refine (G3.out _ HP.out HT.out).mono ?_); (rintro ee w4 ⟨so, sc, rfl, h3, h1⟩; have S4 := hid_of h3; replace HP := hid_of (HP.out.at h1); replace HT := hid_of (HT.out.at h1); replace BA := hid_of (BA.out.trans (h1.mono BA.out.size)); clear h1 h3)))
      | (at_make; (refine wpList_make_full _ rfl _ _ 36 rfl w4.heap.size 3 i0 (.int .i64 0) 1 Tryd.underlying36 hi hz0 hz1 .i64 .i64 k k k rfl rfl rfl rfl (by rw [hz2]; have := HK.out; omega) (by unfold maxLen; have := HK.out; omega) (Nat.le_refl _) ?_); intro w5 hown hgrow; have HB5 : Hid (Below w4.heap.size w4 w5) := hid_of ((Below.refl _ _).grown hgrow (Nat.le_refl _) (fun k h => by cases h)); have A5 := hid_of (at_made HB5.out (made_row (z := .int .i64 0) hown (by rw [Nat.mul_one]; rfl))); clear hown hgrow))
    obtain ⟨g, hg⟩ : ∃ g, g = w4.heap.size := ⟨_, rfl⟩
    rw [← hg] at A5 ⊢
    clear hg hi hz0 hz1 hz2 i0
    have A6 : Hid (AT w4 w5 g k (fun x => if x < 0 then -1 else 0)) := hid_of (A5.out.congr fun x _ => by rw [if_neg (by omega)])
    clear A5
    go_loopw [8] (fun iv wr => ∃ i : Nat, iv = .int .i64 i ∧ i ≤ k ∧ Hid (AT w4 wr g k (fun x => if x < i then -1 else 0))) (fun iv _ => k - (intOf iv).toNat)
    case atStart => exact ⟨0, rfl, Nat.zero_le _, A6⟩
    case round =>
      clear A6
      obtain ⟨i, rfl, hi, hs⟩ := hrel
      by_cases hlt : i < k
      · have hd : decide (i < k) = true := by simp; omega
        have b1 : (i : Int) < (k : Int) := by omega
        have b0 : (0 : Int) ≤ (i : Int) := by omega
        have r1 := hs.out.cell hlt
        have r2 := hs.out.free i
        rw [if_neg (by omega)] at r1
        go_wp2
        go_roundw
        case rel => exact ⟨i + 1, by go_num, by omega, hid_of ((hs.out.set i (-1)).congr fun x _ => by
          by_cases h1 : x = i
          · rw [if_pos h1, if_pos (by omega)]
          · rw [if_neg h1]
            by_cases h2 : x < i
            · rw [if_pos h2, if_pos (by omega)]
            · rw [if_neg h2, if_neg (by omega)])⟩
        case measure => simp [intOf]; omega
      · have hd : decide (i < k) = false := by simp; omega
        have A7 : Hid (∃ f, Pl s 0 f ∧ AT w4 wr g k f) := hid_of ⟨fun _ => -1, ⟨fun _ _ h => by omega, fun _ _ => rfl⟩, hs.out.congr fun x hx => by rw [if_pos (by omega)]⟩
        obtain ⟨wa, hwa⟩ : ∃ wa : World, wa = wr := ⟨_, rfl⟩
        rw [← hwa] at A7 ⊢
        clear hwa hs
        go_wp2
        clear hd hlt hi
        go_loopw [9] (fun iv wr => ∃ i : Nat, iv = .int .i64 i ∧ i ≤ k ∧ Hid (∃ f, Pl s i f ∧ AT w4 wr g k f)) (fun iv _ => k - (intOf iv).toNat)
        case atStart => exact ⟨0, rfl, Nat.zero_le _, A7⟩
        case round =>
          clear A7
          obtain ⟨i, rfl, hi, hs⟩ := hrel
          by_cases hlt : i < k
          · have hd : decide (i < k) = true := by simp; omega
            have b1 : (i : Int) < (k : Int) := by omega
            have b0 : (0 : Int) ≤ (i : Int) := by omega
            obtain ⟨f, hf, ha⟩ := hs.out
            obtain ⟨e, he⟩ : ∃ e, s[i]? = some e := ⟨_, List.getElem?_eq_getElem (by rw [HS.out.len]; exact hlt)⟩
            have hek := HS.out.lt e (List.mem_of_getElem? he)
            obtain ⟨q, o, rfl, hq, hcell⟩ := is_open S4.out (by omega)
            have c1 := (ha.bel.cell (p := ⟨q, o + i, none⟩) hq).trans (hcell i e (by simp [nI, he]))
            have r1 := ha.cell hek
            have r2 := ha.free e
            rw [hf.fresh HS.out.nd he] at r1
            have d1 : decide ((e : Int) < 0) = false := by simp
            have d2 : decide (k ≤ e) = false := by simp; omega
            have d3 : decide ((k : Int) ≤ (e : Int)) = false := by simp; omega
            have b3 : (e : Int) < (k : Int) := by omega
            have b2 : (0 : Int) ≤ (e : Int) := by omega
            have HE := hid_of he
            have HPF := hid_of hf
            have HAT := hid_of ha
            clear hs hcell he hf ha
            go_wp2
            go_roundw
            case rel => exact ⟨i + 1, by go_num, by omega, hid_of ⟨_, HPF.out.next HS.out.nd HE.out, HAT.out.set e i⟩⟩
            case measure => simp [intOf]; omega
          · have hd : decide (i < k) = false := by simp; omega
            have hik : i = k := by omega
            subst hik
            obtain ⟨f, hf, ha⟩ := hs.out
            have HPF : Hid (∀ j e : Nat, s[j]? = some e → f e = j) := hid_of (fun j e hj => hf.at_ j e (by rw [← HS.out.len]; exact (List.getElem?_eq_some_iff.1 hj).1) hj)
            have A8 := hid_of ha
            obtain ⟨wb, hwb⟩ : ∃ wa : World, wa = wr := ⟨_, rfl⟩
            rw [← hwb] at A8 ⊢
            clear hwb hs hf ha
            go_wp2
            clear hd hlt hi
            go_loopw [10] (fun iv wr => ∃ j : Nat, iv = .int .i64 j ∧ j ≤ m ∧ Hid (AT w4 wr g i f)) (fun iv _ => m - (intOf iv).toNat)
            case atStart => exact ⟨0, rfl, Nat.zero_le _, A8⟩
            case round =>
              clear A8
              obtain ⟨j, rfl, hj, hs⟩ := hrel
              have HMJ : m ≤ 4096 := by rw [HM.out]; exact HMM.out
              by_cases hlt : j < m
              · have hd : decide (j < m) = true := by simp; omega
                obtain ⟨q, o, rfl, hq, hcell⟩ := HP.out.open (by omega)
                obtain ⟨t, ht⟩ : ∃ t, ps[j]? = some t := ⟨_, List.getElem?_eq_getElem (by have := HM.out; omega)⟩
                have c1 := (hs.out.bel.cell (p := ⟨q, o + j * 2, none⟩) hq).trans (hcell j t ht).1
                have c2 := (hs.out.bel.cell (p := ⟨q, o + j * 2 + 1, none⟩) hq).trans (hcell j t ht).2
                obtain ⟨v1, v2, v3, v4⟩ := valid_mem HV.out (List.mem_of_getElem? ht)
                have hmem := List.mem_of_getElem? ht
                obtain ⟨t1, t2⟩ := t
                obtain ⟨x, hx⟩ : ∃ x, x = t1.toNat := ⟨_, rfl⟩
                obtain ⟨y, hy⟩ : ∃ y, y = t2.toNat := ⟨_, rfl⟩
                rw [← hx] at v1 v3
                rw [← hy] at v2 v4
                subst v3 v4
                obtain ⟨i1, i2, h12, q1, q2⟩ := HS.out.pair x y hmem
                have r1 := hs.out.cell v1
                have r2 := hs.out.cell v2
                rw [HPF.out _ _ q1] at r1
                rw [HPF.out _ _ q2] at r2
                have d1 : decide (i2 ≤ i1) = false := by simp; omega
                have d2 : decide ((i2 : Int) ≤ (i1 : Int)) = false := by simp; omega
                have b1 : (j : Int) < (m : Int) := by omega
                have b0 : (0 : Int) ≤ (j : Int) := by omega
                have b3 : (x : Int) < (i : Int) := by omega
                have b2 : (0 : Int) ≤ (x : Int) := by omega
                have b5 : (y : Int) < (i : Int) := by omega
                have b4 : (0 : Int) ≤ (y : Int) := by omega
                clear hcell ht hx hy v1 v2 hmem q1 q2 h12
                go_wp2
                go_quiet (fail)
                go_wp2
                go_roundw
                case rel => exact ⟨j + 1, by go_num, by omega, hid_of (hs.out.drewN _)⟩
                case measure => simp [intOf]; omega
              · have hd : decide (j < m) = false := by simp; omega
                have A9 := hid_of hs.out
                obtain ⟨wc, hwc⟩ : ∃ wa : World, wa = wr := ⟨_, rfl⟩
                rw [← hwc] at A9 ⊢
                clear hwc hs
                go_wp2
                clear hd hlt hj
                go_loopw [11] (fun iv wr => ∃ a : Nat, iv = .int .i64 a ∧ a ≤ i ∧ Hid (AT w4 wr g i f)) (fun iv _ => i - (intOf iv).toNat)
                case atStart => exact ⟨0, rfl, Nat.zero_le _, A9⟩
                case round =>
                  clear A9
                  obtain ⟨a, rfl, ha, hs⟩ := hrel
                  by_cases hlt : a < i
                  · have hd : decide (a < i) = true := by simp; omega
                    obtain ⟨e, he⟩ : ∃ e, s[a]? = some e := ⟨_, List.getElem?_eq_getElem (by rw [HS.out.len]; exact hlt)⟩
                    have hek := HS.out.lt e (List.mem_of_getElem? he)
                    have HE := hid_of he
                    obtain ⟨wd, hwd⟩ : ∃ wa : World, wa = wr := ⟨_, rfl⟩
                    rw [← hwd] at hs ⊢
                    clear hwd he
                    have b1 : (a : Int) < (i : Int) := by omega
                    have b0 : (0 : Int) ≤ (a : Int) := by omega
                    go_wp2
                    go_loopw [12] (fun iv wr => ∃ x : Nat, iv = .int .i64 x ∧ x ≤ e ∧ Hid (AT w4 wr g i f)) (fun iv _ => e - (intOf iv).toNat)
                    case atStart => exact ⟨0, rfl, Nat.zero_le _, hid_of hs.out⟩
                    case round =>
                      clear hs
                      obtain ⟨x, rfl, hx, hs⟩ := hrel
                      obtain ⟨q, o, rfl, hq, hcell⟩ := is_open S4.out (by omega)
                      have c1 := (hs.out.bel.cell (p := ⟨q, o + a, none⟩) hq).trans (hcell a e (by simp [nI, HE.out]))
                      clear hcell
                      by_cases hlt2 : x < e
                      · have hd2 : decide (x < e) = true := by simp; omega
                        have r1 := hs.out.cell (x := x) (by omega)
                        have b3 : (x : Int) < (i : Int) := by omega
                        have b2 : (0 : Int) ≤ (x : Int) := by omega
                        obtain ⟨v, hv⟩ : ∃ v, v = f x := ⟨_, rfl⟩
                        rw [← hv] at r1
                        obtain ⟨t0, ht0⟩ : ∃ t, t = decide (v < (a : Int)) := ⟨_, rfl⟩
                        have ht1 := ht0.symm
                        have HW : Hid (t0 = true ∨ ∃ z : Nat, ((z : Int), (x : Int)) ∈ ps ∧ (a : Int) ≤ f z) := hid_of (by
                          rcases HS.out.wait a e x HE.out hlt2 with h1 | ⟨z, hz, k2, hk2, hk3⟩
                          · obtain ⟨k2, hk2, hk3⟩ := take_mem h1
                            left
                            rw [ht0, hv, HPF.out _ _ hk3]
                            simpa using hk2
                          · exact .inr ⟨z, hz, by rw [HPF.out _ _ hk3]; omega⟩)
                        obtain ⟨we, hwe⟩ : ∃ wa : World, wa = wr := ⟨_, rfl⟩
                        rw [← hwe] at hs r1 c1 ⊢
                        clear hwe hv ht0
                        go_wp2
                        clear ht1
                        go_loopw [13, 14] (fun tv iv wr => ∃ (j : Nat) (t : Bool), iv = .int .i64 j ∧ j ≤ m ∧ tv = .bool t ∧ Hid ((t = true ↔ t0 = true ∨ ∃ z : Nat, ((z : Int), (x : Int)) ∈ ps.take j ∧ (a : Int) ≤ f z)) ∧ Hid (AT w4 wr g i f)) (fun _ iv _ => m - (intOf iv).toNat)
                        case atStart => exact ⟨0, t0, rfl, Nat.zero_le _, rfl, hid_of ⟨.inl, fun h => by rcases h with h | ⟨_, h, _⟩; exact h; simp at h⟩, hid_of hs.out⟩
                        case round =>
                          clear hs
                          obtain ⟨j, t, rfl, hj, rfl, ht, hs⟩ := hrel
                          have HMJ : m ≤ 4096 := by rw [HM.out]; exact HMM.out
                          by_cases hlt3 : j < m
                          · have hd3 : decide (j < m) = true := by simp; omega
                            obtain ⟨q2, o2, rfl, hq2, hcell⟩ := HP.out.open (by omega)
                            obtain ⟨p, hp⟩ : ∃ p, ps[j]? = some p := ⟨_, List.getElem?_eq_getElem (by have := HM.out; omega)⟩
                            have c3 := (hs.out.bel.cell (p := ⟨q2, o2 + j * 2, none⟩) hq2).trans (hcell j p hp).1
                            have c4 := (hs.out.bel.cell (p := ⟨q2, o2 + j * 2 + 1, none⟩) hq2).trans (hcell j p hp).2
                            obtain ⟨v1, v2, v3, v4⟩ := valid_mem HV.out (List.mem_of_getElem? hp)
                            have HNX : Hid (∀ z : Nat, ((z : Int), (x : Int)) ∈ ps.take (j + 1) ↔ ((z : Int), (x : Int)) ∈ ps.take j ∨ ((z : Int), (x : Int)) = p) := hid_of (fun z => by rw [List.take_add_one, hp, List.mem_append]; simp)
                            obtain ⟨p1, p2⟩ := p
                            obtain ⟨z, hz⟩ : ∃ x, x = p1.toNat := ⟨_, rfl⟩
                            obtain ⟨y, hy⟩ : ∃ y, y = p2.toNat := ⟨_, rfl⟩
                            rw [← hz] at v1 v3
                            rw [← hy] at v2 v4
                            subst v3 v4
                            have r2 := hs.out.cell v1
                            obtain ⟨v2z, hv2z⟩ : ∃ v, v = f z := ⟨_, rfl⟩
                            rw [← hv2z] at r2
                            have b5 : (j : Int) < (m : Int) := by omega
                            have b4 : (0 : Int) ≤ (j : Int) := by omega
                            have b7 : (z : Int) < (i : Int) := by omega
                            have b6 : (0 : Int) ≤ (z : Int) := by omega
                            have HVZ := hid_of hv2z
                            clear hcell hp hz hy v1 v2 hv2z c1
                            by_cases hyx : y = x
                            · have d1 : ((y : Int) == (x : Int)) = true := by simp; omega
                              by_cases hav : (a : Int) ≤ v2z
                              · have d2 : decide ((a : Int) ≤ v2z) = true := by simpa using hav
                                have HN : Hid (true = true ↔ t0 = true ∨ ∃ z : Nat, ((z : Int), (x : Int)) ∈ ps.take (j + 1) ∧ (a : Int) ≤ f z) := hid_of ⟨fun _ => .inr ⟨z, (HNX.out z).2 (.inr (by rw [hyx])), by rw [← HVZ.out]; exact hav⟩, fun _ => rfl⟩
                                clear hav hyx
                                go_wp2
                                go_roundw
                                case rel => exact ⟨j + 1, true, by go_num, by omega, rfl, HN, hid_of hs.out⟩
                                case measure => simp [intOf]; omega
                              · have d2 : decide ((a : Int) ≤ v2z) = false := by simpa using hav
                                have HN : Hid (t = true ↔ t0 = true ∨ ∃ z : Nat, ((z : Int), (x : Int)) ∈ ps.take (j + 1) ∧ (a : Int) ≤ f z) := hid_of (by
                                  rw [ht.out]
                                  refine or_congr Iff.rfl ⟨fun ⟨z2, h1, h2⟩ => ⟨z2, (HNX.out z2).2 (.inl h1), h2⟩, fun ⟨z2, h1, h2⟩ => ⟨z2, ?_, h2⟩⟩
                                  rcases (HNX.out z2).1 h1 with h3 | h3
                                  · exact h3
                                  · exfalso
                                    simp only [Prod.mk.injEq] at h3
                                    rw [show z2 = z by omega, ← HVZ.out] at h2
                                    exact hav h2)
                                clear hav hyx
                                go_wp2
                                go_roundw
                                case rel => exact ⟨j + 1, t, by go_num, by omega, rfl, HN, hid_of hs.out⟩
                                case measure => simp [intOf]; omega
                            · have d1 : ((y : Int) == (x : Int)) = false := by simp; omega
                              have HN : Hid (t = true ↔ t0 = true ∨ ∃ z : Nat, ((z : Int), (x : Int)) ∈ ps.take (j + 1) ∧ (a : Int) ≤ f z) := hid_of (by
                                rw [ht.out]
                                refine or_congr Iff.rfl ⟨fun ⟨z2, h1, h2⟩ => ⟨z2, (HNX.out z2).2 (.inl h1), h2⟩, fun ⟨z2, h1, h2⟩ => ⟨z2, ?_, h2⟩⟩
                                rcases (HNX.out z2).1 h1 with h3 | h3
                                · exact h3
                                · exfalso
                                  simp only [Prod.mk.injEq] at h3
                                  omega)
                              clear hyx
                              go_wp2
                              go_roundw
                              case rel => exact ⟨j + 1, t, by go_num, by omega, rfl, HN, hid_of hs.out⟩
                              case measure => simp [intOf]; omega
                          · have hd3 : decide (j < m) = false := by simp; omega
                            have HTT : Hid (t = true) := hid_of (by
                              rw [ht.out]
                              rcases HW.out with h | ⟨z, h1, h2⟩
                              · exact .inl h
                              · exact .inr ⟨z, by rw [List.take_of_length_le (by have := HM.out; omega)]; exact h1, h2⟩)
                            have htt := HTT.out
                            subst htt
                            go_wp2
                            go_roundw
                            case rel => exact ⟨x + 1, by go_num, by omega, hid_of hs.out⟩
                            case measure => simp [intOf]; omega
                      · have hd2 : decide (x < e) = false := by simp; omega
                        go_wp2
                        go_roundw
                        case rel => exact ⟨a + 1, by go_num, by omega, hid_of hs.out⟩
                        case measure => simp [intOf]; omega
                  · have hd : decide (a < i) = false := by simp; omega
                    have HB9 := hid_of (BA.out.trans (hs.out.bel.mono BA.out.size))
                    clear hs
                    go_wp2
                    go_ret
                    exact ⟨rfl, HB9.out⟩
  · have hd : (E == 0) = false := by simpa using h0
    clear hT hp hE h0
    go_enter Tryd.func7, Tryd.ntmps7
    go_wp2_with (first
      | (go_at_call 13; ((with_reducible refine (HA.out).mono ?_); (rintro ee w1 ⟨rfl, h1⟩; replace HP := hid_of (HP.out.at h1); replace HT := hid_of (HT.out.at h1); have BA := hid_of h1; clear h1)))
      | (go_at_call 22; ((with_reducible refine (HF.out _ HP.out).mono ?_); (rintro ee w2 ⟨rfl, h1⟩; replace HP := hid_of (HP.out.at h1); replace BA := hid_of (BA.out.trans (h1.mono BA.out.size)); clear h1))))
    go_ret
    exact ⟨rfl, BA.out⟩
end Go.Proofs.YtjfjcgbdpjpodaaDoor
