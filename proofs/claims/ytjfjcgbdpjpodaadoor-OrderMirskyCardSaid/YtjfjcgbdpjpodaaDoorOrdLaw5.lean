/- The law OrderMirsky. No condition. -/
import Derived.Test.YtjfjcgbdpjpodaaDoorOrdHas
import Derived.Test.YtjfjcgbdpjpodaaDoorOrdMnm
namespace Go.Proofs.YtjfjcgbdpjpodaaDoor
open Go.RowKit

/-- What the law of Mirsky asks. -/
structure MrOk (n c : Nat) (ps : List Tk) (L : Nat → Nat) (l : List Nat) : Prop where
  len : l.length = c
  le : c ≤ n
  lt : ∀ x, x < n → L x < c
  ch : ∀ i e : Nat, l[i]? = some e → e < n ∧ L e = i
  rel : ∀ i a b : Nat, l[i]? = some a → l[i + 1]? = some b → ((a : Int), (b : Int)) ∈ cloL n ps
  pr : ∀ p ∈ cloL n ps, ∃ a b : Nat, p = ((a : Int), (b : Int)) ∧ a < n ∧ b < n ∧ L a < L b
theorem mr_ok {n : Nat} (hn : n ≤ 64) {ps : List Tk} (hv : valid n ps = true) (hc : acyc n (clo n ps) = true) {c c' : Nat} {L D : Nat → Nat} (hL : LvOk n (bm (clo n ps)) c' L) (hD : LvOk n (fun a b => bm (clo n ps) b a) c D) :
    MrOk n c ps L (chn n c (clo n ps) D c).1 := by
  have hso := so_clo hn hv hc
  obtain ⟨h1, h2, h3, h4⟩ := chn_spec hn ((bd_clo hn hv).m64 hn) hso hD hL rfl
  have hm : ∀ a b : Nat, ((a : Int), (b : Int)) ∈ cloL n ps ↔ a < n ∧ b < n ∧ bm (clo n ps) a b = true := fun a b => by rw [cloL_mat hn hv]; exact mem_matp2
  refine ⟨h1, hD.le, h2, h3, fun i a b ha hb => (hm a b).2 ⟨(h3 i a ha).1, (h3 _ b hb).1, h4 i a b ha hb⟩, fun p hp => ?_⟩
  rw [cloL_mat hn hv] at hp
  obtain ⟨a, b, ha, hb, hr, he⟩ := mem_matp.1 hp
  exact ⟨a, b, he, ha, hb, hL.up a b hr⟩

set_option maxRecDepth 100000 in
set_option maxHeartbeats 6400000 in
theorem orderMirsky_law (n : Int) (ao : Option Addr) (m cap : Nat) (ps : List Tk) (w : World) (hT : Tb w) (hp : TIn w ao m cap ps) :
    Calls Tryd.prog 9 #[.int .i64 n, .slice ao m cap] w fun e w' => e = .returned (.bool true) ∧ Below w.heap.size w w' := by
  have HP := hid_of hp.1
  have HT := hid_of hT
  have HA := hid_of (awake_any w hT)
  obtain ⟨E, hE⟩ : ∃ E, E = errE n ps := ⟨_, rfl⟩
  have HF : Hid (∀ wx, TRd wx (.slice ao m cap) ps → Calls Tryd.prog 22 #[.int .i64 n, .slice ao m cap] wx fun e w' => e = .returned (.int .i64 E) ∧ Below wx.heap.size wx w') := hid_of (fun wx h => by rw [hE]; exact fault_any n ao m cap ps wx h)
  by_cases h0 : E = 0
  · subst h0
    have hC := err_chk hE.symm
    obtain ⟨n, rfl, hn⟩ := chk_nat hC
    have hv := chk_valid hC
    have hac := err_acyc hE.symm
    have G1 : Hid (∀ wx, TRd wx (.slice ao m cap) ps → Tb wx → Calls Tryd.prog 25 #[.int .i64 n, .slice ao m cap] wx fun e w' => ∃ (g c : Nat) (L : Nat → Nat), e = .returned (.tuple #[.slice (some ⟨g, 0, none⟩) n n, .int .i64 0]) ∧ AT wx w' g n (fun x => (L x : Int)) ∧ LvOk n (bm (clo n ps)) c L) := hid_of (fun wx h ht => levelsF_any n ao m cap ps wx h ht hE.symm)
    have G2 : Hid (∀ wx, TRd wx (.slice ao m cap) ps → Tb wx → Calls Tryd.prog 26 #[.int .i64 n, .slice ao m cap] wx fun e w' => ∃ (c : Nat) (D : Nat → Nat) (xo : Option Addr) (xc : Nat), e = .returned (.tuple #[.slice xo c xc, .int .i64 0]) ∧ LvOk n (fun a b => bm (clo n ps) b a) c D ∧ Rd w' (.slice xo c xc) (is (nI (chn n c (clo n ps) D c).1)) ∧ Below wx.heap.size wx w') := hid_of (fun wx h ht => chain_any n ao m cap ps wx h ht hE.symm)
    have G3 : Hid (∀ wx, TRd wx (.slice ao m cap) ps → Tb wx → Calls Tryd.prog 16 #[.int .i64 n, .slice ao m cap] wx fun e w' => ∃ xo j c, e = .returned (.tuple #[.slice xo j c, .int .i64 0]) ∧ j = (cloL n ps).length ∧ TRd w' (.slice xo j c) (cloL n ps) ∧ Below wx.heap.size wx w') := hid_of (fun wx h ht => closure_any n ao m cap ps wx h ht hC)
    have HMR : Hid (∀ (c c' : Nat) (L D : Nat → Nat), LvOk n (bm (clo n ps)) c' L → LvOk n (fun a b => bm (clo n ps) b a) c D → MrOk n c ps L (chn n c (clo n ps) D c).1) := hid_of (fun c c' L D h1 h2 => mr_ok hn hv hac h1 h2)
    have HCL : Hid ((cloL n ps).length ≤ 4096) := hid_of (by rw [cloL_mat hn hv]; exact matp_len4 hn _)
    have HN := hid_of hn
    clear hT hp hE hC hv hac
    have dn : ((n : Int) != (n : Int)) = false := by simp
    go_enter Tryd.func9, Tryd.ntmps9
    go_wp2_with (first
      | (go_at_call 13; ((with_reducible refine (HA.out).mono ?_); (rintro ee w1 ⟨rfl, h1⟩; replace HP := hid_of (HP.out.at h1); replace HT := hid_of (HT.out.at h1); have BA := hid_of h1; clear h1)))
      | (go_at_call 22; ((with_reducible refine (HF.out _ HP.out).mono ?_); (rintro ee w2 ⟨rfl, h1⟩; replace HP := hid_of (HP.out.at h1); replace HT := hid_of (HT.out.at h1); replace BA := hid_of (BA.out.trans (h1.mono BA.out.size)); clear h1)))
      | (go_at_call 25; ((with_reducible refine (G1.out _ HP.out HT.out).mono ?_); (rintro ee w3 ⟨g, c', L, rfl, h1, h2⟩; have L3 := hid_of h1; have K3 := hid_of h2; replace HP := hid_of (HP.out.at h1.bel); replace HT := hid_of (HT.out.at h1.bel); replace BA := hid_of (BA.out.trans (h1.bel.mono BA.out.size)); clear h1 h2)))
      | (go_at_call 26; ((with_reducible refine (G2.out _ HP.out HT.out).mono ?_); (rintro ee w4 ⟨c, D, xo, xc, rfl, h2, h3, h1⟩; have M4 := hid_of (HMR.out c c' L D K3.out h2); have hcn := h2.le; have dc : decide (n < c) = false := (by simp; omega); have dc2 : decide ((n : Int) < (c : Int)) = false := (by simp; omega); have C4 := hid_of h3; replace L3 := hid_of (L3.out.at h1); replace HP := hid_of (HP.out.at h1); replace HT := hid_of (HT.out.at h1); replace BA := hid_of (BA.out.trans (h1.mono BA.out.size)); clear h1 h2 h3)))
      | (go_at_call 16; ((with_reducible refine (G3.out _ HP.out HT.out).mono ?_); (rintro ee w5 ⟨yo, j, yc, rfl, h2, h3, h1⟩; have J5 := hid_of h2; have Y5 := hid_of h3; replace L3 := hid_of (L3.out.at h1); replace C4 := hid_of (C4.out.at h1); replace BA := hid_of (BA.out.trans (h1.mono BA.out.size)); clear h1 h2 h3))))
    generalize (chn n c (clo n ps) D c).1 = l at *
    have CL := hid_of (And.intro M4.out.len hcn)
    have HC9 : (c : Int) ≤ 64 := by omega
    clear dn dc dc2 HA HF G1 G2 G3 HP HT HMR
    go_loopw [11] (fun iv wr => ∃ i : Nat, iv = .int .i64 i ∧ i ≤ n ∧ w5 = wr) (fun iv _ => n - (intOf iv).toNat)
    case atStart => exact ⟨0, rfl, Nat.zero_le _, rfl⟩
    case round =>
      obtain ⟨i, rfl, hi, rfl⟩ := hrel
      by_cases hlt : i < n
      · have hd : decide (i < n) = true := by simp; omega
        have r1 := L3.out.cell hlt
        have hl := M4.out.lt i hlt
        obtain ⟨v, hv⟩ : ∃ v, v = L i := ⟨_, rfl⟩
        rw [← hv] at r1 hl
        have d1 : decide ((v : Int) < 0) = false := by simp
        have d2 : decide ((c : Int) ≤ (v : Int)) = false := by simp; omega
        have d3 : decide (c ≤ v) = false := by simp; omega
        have b1 : (i : Int) < (n : Int) := by omega
        have b0 : (0 : Int) ≤ (i : Int) := by omega
        clear hv
        go_wp2
        go_roundw
        case rel => exact ⟨i + 1, by go_num, by omega, by first | rfl | trivial⟩
        case measure => simp [intOf]; omega
      · have hd : decide (i < n) = false := by simp; omega
        go_wp2
        clear hd hlt hi
        go_loopw [12] (fun iv wr => ∃ i : Nat, iv = .int .i64 i ∧ i ≤ c ∧ Hid (Below w5.heap.size w5 wr)) (fun iv _ => c - (intOf iv).toNat)
        case atStart => exact ⟨0, rfl, Nat.zero_le _, hid_of (Below.refl _ _)⟩
        case round =>
          obtain ⟨i, rfl, hi, hs⟩ := hrel
          by_cases hlt : i < c
          · have hd : decide (i < c) = true := by simp; omega
            obtain ⟨q, o, rfl, hq, hcell⟩ := is_open C4.out (by omega)
            obtain ⟨e, he⟩ : ∃ e, l[i]? = some e := ⟨_, List.getElem?_eq_getElem (by rw [M4.out.len]; exact hlt)⟩
            obtain ⟨hen, hLe⟩ := M4.out.ch i e he
            have c1 := (hs.out.cell (p := ⟨q, o + i, none⟩) hq).trans (hcell i e (by simp [nI, he]))
            have r1 := (hs.out.cell (p := ⟨g, e, none⟩) (lt_of_block L3.out.blk)).trans (L3.out.cell hen)
            rw [hLe] at r1
            have d1 : decide ((e : Int) < 0) = false := by simp
            have d2 : decide ((n : Int) ≤ (e : Int)) = false := by simp; omega
            have d3 : decide (n ≤ e) = false := by simp; omega
            have d4 : ((i : Int) != (i : Int)) = false := by simp
            have b1 : (i : Int) < (c : Int) := by omega
            have b0 : (0 : Int) ≤ (i : Int) := by omega
            have b3 : (e : Int) < (n : Int) := by omega
            have b2 : (0 : Int) ≤ (e : Int) := by omega
            by_cases hi0 : 0 < i
            · have d5 : decide (0 < i) = true := by simpa using hi0
              obtain ⟨e2, he2⟩ : ∃ e, l[i - 1]? = some e := ⟨_, List.getElem?_eq_getElem (by rw [M4.out.len]; omega)⟩
              obtain ⟨k, hk⟩ : ∃ k, k = i - 1 := ⟨_, rfl⟩
              rw [← hk] at he2
              have c2 := (hs.out.cell (p := ⟨q, o + k, none⟩) hq).trans (hcell k e2 (by simp [nI, he2]))
              have HB : Hid (((e2 : Int), (e : Int)) ∈ cloL n ps) := hid_of (M4.out.rel k e2 e he2 (by rw [show k + 1 = i by omega]; exact he))
              have s1 : IntKind.i64.wrap ((i : Int) - 1) = (k : Int) := by rw [IntWalk.i64_in _ (by omega)]; omega
              have b5 : (k : Int) < (c : Int) := by omega
              have b4 : (0 : Int) ≤ (k : Int) := by omega
              have HHS : Hid (∀ wx, Below w5.heap.size w5 wx → Calls Tryd.prog 33 #[.slice yo j yc, .int .i64 e2, .int .i64 e] wx fun x w' => x = .returned (.bool true) ∧ w' = wx) := hid_of (fun wx hx => by
                have := hasP_any yo j yc _ (e2 : Int) (e : Int) wx (Y5.out.at hx)
                rw [decide_eq_true HB.out] at this
                exact this.mono fun _ _ ⟨h1, h2⟩ => ⟨h1, h2.symm⟩)
              clear hk hcell he he2 hLe hen
              go_wp2
              go_quiet ((go_at_call 33; exact Calls.quiet_of_same (HHS.out _ (bel_drewN hs.out _))))
              go_wp2
              go_roundw
              case rel => exact ⟨i + 1, by go_num, by omega, hid_of (bel_drewN hs.out _)⟩
              case measure => simp [intOf]; omega
            · have d5 : decide (0 < i) = false := by simpa using hi0
              clear hcell he hLe hen
              go_wp2
              go_quiet (fail)
              go_wp2
              go_roundw
              case rel => exact ⟨i + 1, by go_num, by omega, hid_of (bel_drewN hs.out _)⟩
              case measure => simp [intOf]; omega
          · have hd : decide (i < c) = false := by simp; omega
            obtain ⟨wb, hwb⟩ : ∃ wb : World, wb = wr := ⟨_, rfl⟩
            rw [← hwb] at hs ⊢
            clear hwb
            go_wp2
            clear hd hlt hi
            have hj9 : j ≤ 4096 := by rw [J5.out]; exact HCL.out
            go_loopw [13] (fun iv wr => ∃ i : Nat, iv = .int .i64 i ∧ i ≤ j ∧ Hid (Below w5.heap.size w5 wr)) (fun iv _ => j - (intOf iv).toNat)
            case atStart => exact ⟨0, rfl, Nat.zero_le _, hs⟩
            case round =>
              clear hs
              obtain ⟨i, rfl, hi, hs⟩ := hrel
              by_cases hlt : i < j
              · have hd : decide (i < j) = true := by simp; omega
                obtain ⟨q, o, rfl, hq, hcell⟩ := Y5.out.open (by omega)
                obtain ⟨t, ht⟩ : ∃ t, (cloL n ps)[i]? = some t := ⟨_, List.getElem?_eq_getElem (by have := J5.out; omega)⟩
                obtain ⟨a, b, rfl, ha, hb, hab⟩ := M4.out.pr t (List.mem_of_getElem? ht)
                have c1 := (hs.out.cell (p := ⟨q, o + i * 2, none⟩) hq).trans (hcell i _ ht).1
                have c2 := (hs.out.cell (p := ⟨q, o + i * 2 + 1, none⟩) hq).trans (hcell i _ ht).2
                have r1 := (hs.out.cell (p := ⟨g, a, none⟩) (lt_of_block L3.out.blk)).trans (L3.out.cell ha)
                have r2 := (hs.out.cell (p := ⟨g, b, none⟩) (lt_of_block L3.out.blk)).trans (L3.out.cell hb)
                obtain ⟨va, hva⟩ : ∃ v, v = L a := ⟨_, rfl⟩
                obtain ⟨vb, hvb⟩ : ∃ v, v = L b := ⟨_, rfl⟩
                rw [← hva] at r1 hab
                rw [← hvb] at r2 hab
                have d1 : decide ((a : Int) < 0) = false := by simp
                have d2 : decide ((n : Int) ≤ (a : Int)) = false := by simp; omega
                have d3 : decide (n ≤ a) = false := by simp; omega
                have d4 : decide ((b : Int) < 0) = false := by simp
                have d5 : decide ((n : Int) ≤ (b : Int)) = false := by simp; omega
                have d6 : decide (n ≤ b) = false := by simp; omega
                have d7 : decide ((vb : Int) ≤ (va : Int)) = false := by simp; omega
                have d8 : decide (vb ≤ va) = false := by simp; omega
                have b1 : (i : Int) < (j : Int) := by omega
                have b0 : (0 : Int) ≤ (i : Int) := by omega
                have b3 : (a : Int) < (n : Int) := by omega
                have b2 : (0 : Int) ≤ (a : Int) := by omega
                have b5 : (b : Int) < (n : Int) := by omega
                have b4 : (0 : Int) ≤ (b : Int) := by omega
                clear hcell ht hva hvb hab ha hb
                go_wp2
                go_quiet (fail)
                go_wp2
                go_roundw
                case rel => exact ⟨i + 1, by go_num, by omega, hid_of (bel_drewN hs.out _)⟩
                case measure => simp [intOf]; omega
              · have hd : decide (i < j) = false := by simp; omega
                have HB9 := hid_of (BA.out.trans (hs.out.mono BA.out.size))
                clear hs
                go_wp2
                go_ret
                exact ⟨rfl, HB9.out⟩
  · have hd : (E == 0) = false := by simpa using h0
    clear hT hp hE h0
    go_enter Tryd.func9, Tryd.ntmps9
    go_wp2_with (first
      | (go_at_call 13; ((with_reducible refine (HA.out).mono ?_); (rintro ee w1 ⟨rfl, h1⟩; replace HP := hid_of (HP.out.at h1); replace HT := hid_of (HT.out.at h1); have BA := hid_of h1; clear h1)))
      | (go_at_call 22; ((with_reducible refine (HF.out _ HP.out).mono ?_); (rintro ee w2 ⟨rfl, h1⟩; replace HP := hid_of (HP.out.at h1); replace BA := hid_of (BA.out.trans (h1.mono BA.out.size)); clear h1))))
    go_ret
    exact ⟨rfl, BA.out⟩
end Go.Proofs.YtjfjcgbdpjpodaaDoor
