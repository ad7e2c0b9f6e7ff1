/- KeyedMemory: the walk. -/
import Derived.Test.YtdgihleekemnnaaDoorKeyMemL
import Derived.Test.YtdgihleekemnnaaDoorKeyRow
import Derived.Test.YtdgihleekemnnaaDoorKeyShort
namespace Go.Proofs.YtdgihleekemnnaaDoor
open Go.RowKit

theorem u8_rng (y : Int) : 0 ≤ IntKind.u8.wrap (y + 1) ∧ IntKind.u8.wrap (y + 1) ≤ 255 := by
  rw [IntKind.wrap_u8]
  omega

set_option maxRecDepth 100000 in
set_option maxHeartbeats 12800000 in
theorem keyedMemory_law (a0 a1 : Option Addr) (n0 n1 c0 c1 : Nat) (z0 z1 : List Int) (w : World) (hG : Glob w) (w0 : IsRow .u8 w a0 n0 c0 z0) (w1 : IsRow .u8 w a1 n1 c1 z1) :
    Calls Tryd.prog 9 #[.slice a0 n0 c0, .slice a1 n1 c1] w fun e w' => e = .returned (.bool true) ∧ Below w.heap.size w w' := by
  obtain ⟨k, hk, kr, hK⟩ := w0.lies
  obtain ⟨m, hm, mr, hM⟩ := w1.lies
  have HG := hid_of hG
  have H2 : Hid (2 ≤ w.heap.size) := hid_of hG.two
  have HK := hid_of hK
  have HM := hid_of hM
  have HKR := hid_of kr
  have HMR := hid_of mr
  have HKL := hid_of hk
  have HML := hid_of hm
  have AWK := hid_of (awake_any w hG)
  clear hG w0 w1 hK hM kr mr hk hm
  obtain ⟨r, hr⟩ : ∃ r, r = (decide (n0 ≤ 2000) && decide (n1 ≤ 2000)) := ⟨_, rfl⟩
  have SH := hid_of (fun w => short_any a0 a1 n0 c0 n1 c1 r w hr)
  have HR := hid_of hr
  clear hr
  cases r
  · go_enter Tryd.func9, Tryd.ntmps9
    go_wp2_with (first
      | (go_at_call 10; ((with_reducible refine AWK.out.mono ?_); (rintro e w1 ⟨rfl, h1⟩; have HB1 := hid_of h1; clear h1)))
      | (go_at_call 11; ((with_reducible refine (SH.out w1).mono ?_); (rintro e w' ⟨rfl, rfl⟩))))
    go_ret
    exact ⟨rfl, HB1.out⟩
  have hn : n0 ≤ 2000 ∧ n1 ≤ 2000 := by
    have := HR.out
    simpa using this.symm
  have HN := hid_of hn
  clear hn
  obtain ⟨T, hT⟩ : ∃ T, T = hmac (derive k 1 0) m := ⟨_, rfl⟩
  have HT := hid_of hT
  obtain ⟨ST, hST⟩ : ∃ ST, ST = strOfNums T := ⟨_, rfl⟩
  have CV : Hid (∀ W g c, Lies W (.slice (some ⟨g, 0, none⟩) 32 c) T → (convert 22 9 (.slice (some ⟨g, 0, none⟩) 32 c)).run Tryd.prog W = .ok (.string ST) W) := hid_of (fun W g c hl => by rw [hST]; exact conv_lies hl)
  have SG : Hid (∀ (W : World) (b g : Nat) (u : Value), Below w.heap.size w W → MS W b g k 1 0 → Lies W u m → Calls Tryd.prog 20 #[.pointer (some ⟨b, 0, none⟩), .int .i64 0, u] W fun e w' => ∃ g cap, e = .returned (.tuple #[.slice (some ⟨g, 0, none⟩) 32 cap, .int .i64 0]) ∧ W.heap.size ≤ g ∧ Lies w' (.slice (some ⟨g, 0, none⟩) 32 cap) T ∧ (∀ j, j < 32 → w'.frozen? ⟨g, j, none⟩ = false) ∧ Below W.heap.size W w') := hid_of (fun W b g u hb hms hl => by
    have := sign_f b k m 1 0 0 u W hms.mst (by omega) (by omega) HKR.out hl HMR.out (by unfold R64; omega) (by unfold R64; omega) (HG.out.bel hb H2.out) (by have := HKL.out; have := HN.out.1; omega) (by have := HML.out; have := HN.out.2; omega)
    rw [← hT] at this
    exact this)
  have TR : Hid (∀ (W : World) (g c : Nat), Lies W (.slice (some ⟨g, 0, none⟩) 32 c) T → (∀ j, j < 32 → W.frozen? ⟨g, j, none⟩ = false) → RowF W g 32) := hid_of (fun W g c hl hf j hj => by
    obtain ⟨_, _, q, _, _, q4⟩ := hl
    have hTl : T.length = 32 := by rw [hT]; exact hmac_length _ _
    obtain ⟨g', o, r1, _, r3⟩ := q4 (by omega)
    simp only [Value.slice.injEq] at q
    rw [r1] at q
    have hh : T[j]? = some T[j] := List.getElem?_eq_getElem (by omega)
    have h3 := r3 j (.int .u8 T[j]) (by simp [bs, hh])
    have hr := hmac_rng (derive k 1 0) m T[j] (by rw [← hT]; exact List.getElem_mem _)
    simp at q
    obtain ⟨⟨q1, q2⟩, _⟩ := q
    subst q1; subst q2
    rw [Nat.zero_add] at h3
    exact ⟨T[j], hr.1, hr.2, h3, hf j hj⟩)
  clear hT hST
  go_enter Tryd.func9, Tryd.ntmps9
  go_wp2_with (first
    | (go_at_call 10; ((with_reducible refine AWK.out.mono ?_); (rintro e w1 ⟨rfl, h1⟩; have HB1 := hid_of h1; clear h1)))
    | (go_at_call 11; ((with_reducible refine (SH.out w1).mono ?_); (rintro e w' ⟨rfl, rfl⟩)))
    | (at_builtin; (first
        | ((with_reducible refine wpList_app rfl _ _ rfl (v := .slice (some ⟨w1.heap.size, 0, none⟩) 0 0) rfl (os_empty w1) (vx := .slice a0 n0 c0) rfl ((HK.out.at HB1.out).at (bel_alloc _ _)) (by have := HKL.out; have := HN.out.1; simp; omega) ?_); intro sA ns sc w2 hns h2; obtain rfl : n0 = ns := (by rw [hns]; simp [HKL.out]); have X2 : Hid (OS w1.heap.size w1 w2 (.slice sA n0 sc) k) := hid_of h2; have HB2 := hid_of (HB1.out.trans (h2.bel.mono HB1.out.size)); clear h2 hns)
        | ((with_reducible refine wpList_app rfl _ _ rfl (v := .slice (some ⟨w2.heap.size, 0, none⟩) 0 0) rfl (os_empty w2) (vx := .slice a1 n1 c1) rfl ((HM.out.at HB2.out).at (bel_alloc _ _)) (by have := HML.out; have := HN.out.2; simp; omega) ?_); intro bA nb bc w3 hnb h3; obtain rfl : n1 = nb := (by rw [hnb]; simp [HML.out]); have X3 : Hid (OS w2.heap.size w2 w3 (.slice bA n1 bc) m) := hid_of h3; have HB3 := hid_of (HB2.out.trans (h3.bel.mono HB2.out.size)); clear h3 hnb)))
    | (go_at_call 16; (first
        | ((with_reducible refine (new_module (.slice sA n0 sc) k 1 w3 ((X2.out.lies (by have := HKL.out; have := HN.out.1; omega)).at X3.out.bel) (by have := HKL.out; have := HN.out.1; omega)).mono ?_); (rintro e w4 ⟨bm, rfl, _, hm4, hb4⟩; have HM4 := hid_of hm4; have HB34 := hid_of hb4; have HB4 := hid_of (HB3.out.trans (hb4.mono HB3.out.size)); clear hm4 hb4))
        | ((with_reducible refine (new_module (.slice a0 n0 c0) k 1 w4 (HK.out.at HB4.out) (by have := HKL.out; have := HN.out.1; omega)).mono ?_); (rintro e w5 ⟨bk, rfl, _, hm5, hb5⟩; have HM5 := hid_of hm5; have HB45 := hid_of hb5; clear hm5 hb5)))))
  obtain ⟨H, gs, gb, gm, gk, hgeo, hst, hlb, hrs, hrb⟩ := mem_start HKL.out HML.out HKR.out HMR.out (by have := HML.out; have := HN.out.2; omega) HB1.out X2.out X3.out HM4.out HB34.out HM5.out HB45.out
  have GEO := hid_of hgeo
  have ST5 := hid_of hst
  have LB5 := hid_of hlb
  have RS5 := hid_of hrs
  have RB5 := hid_of hrb
  clear hgeo hst hlb hrs hrb HB1 X2 HB2 X3 HB3 HM4 HB34 HB4 HM5 HB45 AWK SH HR
  go_loopw [9] (fun iv wr => ∃ i : Nat, i ≤ n0 ∧ iv = .int .i64 i ∧ Hid (Kept (IncS n0 gs) w5 wr) ∧ Hid (RowF wr gs n0)) (fun iv _ => n0 - (intOf iv).toNat)
  case atStart => exact ⟨0, Nat.zero_le _, rfl, hid_of (Kept.refl _ _), RS5⟩
  case round =>
    obtain ⟨i, hi, rfl, hkept, hrow⟩ := hrel
    have HKP := hid_of hkept.out
    have HRW := hid_of hrow.out
    clear hkept hrow
    by_cases hlt : i < n0
    · obtain ⟨y, y0, y1, hcell, hfree⟩ := HRW.out i hlt
      obtain ⟨z, hz⟩ : ∃ z, z = IntKind.u8.wrap (y + 1) := ⟨_, rfl⟩
      have HZ : Hid (0 ≤ z ∧ z ≤ 255) := hid_of (by rw [hz]; exact u8_rng y)
      have hz2 : IntKind.u8.wrap (y + 1) = z := hz.symm
      have hsA := (GEO.out.s (by omega)).1
      have HLT := hid_of hlt
      clear hz
      subst hsA
      have h20 : n0 ≤ 2000 := HN.out.1
      have hii : i ≤ 1999 := by have := HLT.out; omega
      go_wp2
      go_roundw
      case rel => have := HLT.out; exact ⟨i + 1, by omega, by go_num, hid_of (HKP.out.trans (Kept.setCell (Kept.refl _ _) ⟨by have := HLT.out; omega, rfl⟩ _)), hid_of (HRW.out.set HZ.out)⟩
      case measure => have := HLT.out; simp [intOf]; omega
    · obtain rfl : n0 = i := by omega
      obtain ⟨w8, rfl⟩ : ∃ w8 : World, w8 = wr := ⟨_, rfl⟩
      have ST8 : Hid (St w w8 H bm gm bk gk k) := hid_of (ST5.out.kept HKP.out (fun j hj => by obtain ⟨h0, rfl⟩ := hj; have := GEO.out.s h0; have := GEO.out.m1; have := GEO.out.m2; refine ⟨by omega, by omega, by omega, fun _ => by omega⟩))
      have LB8 : Hid (Lies w8 (.slice bA n1 bc) m) := hid_of (LB5.out.keptA HKP.out (fun h0 => by rw [HML.out] at h0; refine ⟨gb, (GEO.out.b h0).1, fun hj => ?_⟩; obtain ⟨h1, e⟩ := hj; exact GEO.out.sb h1 h0 e.symm))
      have RB8 : Hid (RowF w8 gb n1) := hid_of (RB5.out.kept HKP.out (fun h0 hj => by obtain ⟨h1, e⟩ := hj; exact GEO.out.sb h1 h0 e.symm))
      clear HKP HRW ST5 LB5 RB5 RS5
      go_wp2_with (go_at_call 20; ((with_reducible refine (SG.out w8 bm gm (.slice bA n1 bc) ST8.out.bel ST8.out.m1 LB8.out).mono ?_); (rintro e w9 ⟨gt, tc, rfl, hgt, hl9, hf9, hb9⟩; have ST9 := hid_of (ST8.out.at hb9); have GT : Hid (H ≤ gt ∧ gt ≠ bm ∧ gt ≠ bk ∧ (0 < k.length → gt ≠ gm ∧ gt ≠ gk)) := hid_of (by have := ST8.out.l1; have := ST8.out.h; refine ⟨by omega, by omega, by omega, fun h0 => ?_⟩; have := ST8.out.l2 h0; omega); have LT9 := hid_of hl9; have RT9 := hid_of (TR.out _ _ _ hl9 hf9); have RB9 := hid_of (RB8.out.kept (S := fun _ => False) (Kept.ofBelow hb9) (fun _ h => h)); clear hgt hl9 hf9 hb9 ST8 LB8 RB8)))
      go_loopw [12] (fun iv wr => ∃ i : Nat, i ≤ n1 ∧ iv = .int .i64 i ∧ Hid (Kept (IncS n1 gb) w9 wr) ∧ Hid (RowF wr gb n1)) (fun iv _ => n1 - (intOf iv).toNat)
      case atStart => exact ⟨0, Nat.zero_le _, rfl, hid_of (Kept.refl _ _), RB9⟩
      case round =>
        obtain ⟨i, hi, rfl, hkept, hrow⟩ := hrel
        have HKP := hid_of hkept.out
        have HRW := hid_of hrow.out
        clear hkept hrow
        by_cases hlt : i < n1
        · obtain ⟨y, y0, y1, hcell, hfree⟩ := HRW.out i hlt
          obtain ⟨z, hz⟩ : ∃ z, z = IntKind.u8.wrap (y + 1) := ⟨_, rfl⟩
          have HZ : Hid (0 ≤ z ∧ z ≤ 255) := hid_of (by rw [hz]; exact u8_rng y)
          have hz2 : IntKind.u8.wrap (y + 1) = z := hz.symm
          have hbA := (GEO.out.b (by omega)).1
          have HLT := hid_of hlt
          clear hz
          subst hbA
          have h20 : n1 ≤ 2000 := HN.out.2
          have hii : i ≤ 1999 := by have := HLT.out; omega
          go_wp2
          go_roundw
          case rel => have := HLT.out; exact ⟨i + 1, by omega, by go_num, hid_of (HKP.out.trans (Kept.setCell (Kept.refl _ _) ⟨by have := HLT.out; omega, rfl⟩ _)), hid_of (HRW.out.set HZ.out)⟩
          case measure => have := HLT.out; simp [intOf]; omega
        · obtain rfl : n1 = i := by omega
          obtain ⟨w10, rfl⟩ : ∃ w10 : World, w10 = wr := ⟨_, rfl⟩
          have ST10 : Hid (St w w10 H bm gm bk gk k) := hid_of (ST9.out.kept HKP.out (fun j hj => by obtain ⟨h0, rfl⟩ := hj; have := GEO.out.b h0; have := GEO.out.m1; have := GEO.out.m2; refine ⟨by omega, by omega, by omega, fun _ => by omega⟩))
          have hn10 : 0 < T.length → ¬ IncS n1 gb gt := fun _ hj => by obtain ⟨h1, e⟩ := hj; have := GEO.out.b h1; have := GT.out.1; omega
          have LT10 : Hid (Lies w10 (.slice (some ⟨gt, 0, none⟩) 32 tc) T) := hid_of (LT9.out.keptS HKP.out hn10)
          have RT10 : Hid (RowF w10 gt 32) := hid_of (RT9.out.kept HKP.out (fun _ hj => by obtain ⟨h1, e⟩ := hj; have := GEO.out.b h1; have := GT.out.1; omega))
          clear HKP HRW ST9 LT9 RT9 RB9 hn10
          go_wp2_with (go_at_call 20; ((with_reducible refine (SG.out w10 bk gk (.slice a1 n1 c1) ST10.out.bel ST10.out.m2 (HM.out.at ST10.out.bel)).mono ?_); (rintro e w11 ⟨gu, uc, rfl, hgu, hl11, hf11, hb11⟩; have ST11 := hid_of (ST10.out.at hb11); have LU11 := hid_of hl11; have LT11 := hid_of (LT10.out.at hb11); have RT11 := hid_of (RT10.out.kept (S := fun _ => False) (Kept.ofBelow hb11) (fun _ h => h)); have GU : Hid (gu ≠ gt) := hid_of (by obtain ⟨_, _, _, hc, _⟩ := RT10.out 0 (by omega); have := World.block_lt_of_cell? w10 _ hc; simp at this; omega); have cvt := CV.out w11 gt tc LT11.out; have cvu := CV.out w11 gu uc LU11.out; clear hgu hl11 hf11 hb11 ST10 LT10 RT10)))
          clear cvt cvu
          go_loopw [15] (fun iv wr => ∃ i : Nat, i ≤ 32 ∧ iv = .int .i64 i ∧ Hid (Kept (IncS 32 gt) w11 wr) ∧ Hid (RowF wr gt 32)) (fun iv _ => 32 - (intOf iv).toNat)
          case atStart => exact ⟨0, Nat.zero_le _, rfl, hid_of (Kept.refl _ _), RT11⟩
          case round =>
            obtain ⟨i, hi, rfl, hkept, hrow⟩ := hrel
            have HKP := hid_of hkept.out
            have HRW := hid_of hrow.out
            clear hkept hrow
            by_cases hlt : i < 32
            · obtain ⟨y, y0, y1, hcell, hfree⟩ := HRW.out i hlt
              obtain ⟨z, hz⟩ : ∃ z, z = IntKind.u8.wrap (y + 1) := ⟨_, rfl⟩
              have HZ : Hid (0 ≤ z ∧ z ≤ 255) := hid_of (by rw [hz]; exact u8_rng y)
              have hz2 : IntKind.u8.wrap (y + 1) = z := hz.symm
              clear hz
              go_wp2
              go_roundw
              case rel => exact ⟨i + 1, by omega, by go_num, hid_of (HKP.out.trans (Kept.setCell (Kept.refl _ _) ⟨by omega, rfl⟩ _)), hid_of (HRW.out.set HZ.out)⟩
              case measure => simp [intOf]; omega
            · obtain rfl : i = 32 := by omega
              obtain ⟨w12, rfl⟩ : ∃ w12 : World, w12 = wr := ⟨_, rfl⟩
              have ST12 : Hid (St w w12 H bm gm bk gk k) := hid_of (ST11.out.kept HKP.out (fun j hj => by obtain ⟨h0, rfl⟩ := hj; have := GT.out; have h5 := GEO.out.bh; exact ⟨by omega, this.2.1, this.2.2.1, this.2.2.2⟩))
              have LU12 : Hid (Lies w12 (.slice (some ⟨gu, 0, none⟩) 32 uc) T) := hid_of (LU11.out.keptS HKP.out (fun _ hj => GU.out hj.2))
              clear HKP HRW ST11 LU11 LT11 RT11
              go_wp2_with (go_at_call 20; ((with_reducible refine (SG.out w12 bm gm (.slice a1 n1 c1) ST12.out.bel ST12.out.m1 (HM.out.at ST12.out.bel)).mono ?_); (rintro e w13 ⟨gv, vc, rfl, _, hl13, _, hb13⟩; have HB13 := hid_of (ST12.out.at hb13).bel; have cvu := CV.out w13 gu uc (LU12.out.at hb13); have cvv := CV.out w13 gv vc hl13; clear hl13 hb13 ST12 LU12)))
              go_ret
              exact ⟨by simp, HB13.out⟩
end Go.Proofs.YtdgihleekemnnaaDoor
