/- The reference's Levels, and the law OrderLevels. No condition. -/
import Derived.Test.YtjfjcgbdpjpodaaDoorOrdRst
namespace Go.Proofs.YtjfjcgbdpjpodaaDoor
open Go.RowKit

/-- The greatest level below b, and one more, of the first a elements. -/
def mxl (R : Nat → Nat → Bool) (L : Nat → Nat) (b : Nat) : Nat → Nat
  | 0 => 0
  | a + 1 => if R a b = true ∧ mxl R L b a < L a + 1 then L a + 1 else mxl R L b a
theorem mxl_le {n c : Nat} {R : Nat → Nat → Bool} {L : Nat → Nat} (h : LvOk n R c L) (b : Nat) : ∀ a, mxl R L b a ≤ L b
  | 0 => Nat.zero_le _
  | a + 1 => by
    unfold mxl
    split
    · rename_i h1
      exact h.up a b h1.1
    · exact mxl_le h b a
theorem mxl_ge {R : Nat → Nat → Bool} {L : Nat → Nat} (b y : Nat) (hr : R y b = true) : ∀ a, y < a → L y + 1 ≤ mxl R L b a
  | 0, h => by omega
  | a + 1, h => by
    unfold mxl
    by_cases e : y = a
    · subst e
      split
      · omega
      · rename_i h1
        by_cases h2 : mxl R L b y < L y + 1
        · exact absurd ⟨hr, h2⟩ h1
        · omega
    · have := mxl_ge (L := L) b y hr a (by omega)
      split <;> omega
theorem mxl_full {n c : Nat} {R : Nat → Nat → Bool} {L : Nat → Nat} (hR : SO n R) (h : LvOk n R c L) {b : Nat} (hb : b < n) : mxl R L b n = L b := by
  apply Nat.le_antisymm (mxl_le h b n)
  cases hl : L b with
  | zero => omega
  | succ j =>
    obtain ⟨y, hy, hy2⟩ := h.step b j hb hl
    have := mxl_ge (L := L) b y hy n (hR.lt y b hy).1
    omega
/-- The levels that the reference has after i elements, and while it is at b. -/
def lvs (L : Nat → Nat) (s : List Nat) (i : Nat) : Nat → Int := fun x => if x ∈ s.take i then (L x : Int) else 0
def lvb (L : Nat → Nat) (s : List Nat) (i b m : Nat) : Nat → Int := fun x => if x = b then (m : Int) else lvs L s i x

theorem own_rd {w : World} {B n : Nat} {v : Value} {l : List Int} (h : w.ownsRow B 3 1 v n (is l)) (hl : n = l.length ∧ n ≤ 1000) : Rd w v (is l) := by
  obtain ⟨h1, h2⟩ := hl
  subst h1
  rcases h.2 with ⟨h3, h4⟩ | ⟨g, c, cur, h3, _, hg, hnc, hcm, _, ht⟩
  · exact ⟨none, 0, by rw [h3, is_length, h4], by rw [is_length]; omega, by omega, fun h0 => by rw [is_length] at h0; omega⟩
  · unfold maxLen at hcm
    refine ⟨_, c, by rw [h3, is_length], by rw [is_length]; exact hnc, by omega, fun _ => ⟨g, 0, rfl, lt_of_block hg, fun i t hi => ?_⟩⟩
    have := World.news_of_block hg i t (by
      rw [← ht, List.getElem?_take] at hi
      split at hi
      · exact hi
      · cases hi)
    rw [Addr.add_mid] at this
    exact this

set_option maxRecDepth 100000 in
set_option maxHeartbeats 3200000 in
theorem rlevels_any (ao : Option Addr) (n cap : Nat) (A : Nat → Nat) (c : Nat) (L : Nat → Nat) (w : World) (h : RdG w (.slice ao n cap) n (bm A)) (hn : n ≤ 64) (hso : SO n (bm A)) (hL : LvOk n (bm A) c L) :
    Calls Tryd.prog 32 #[.slice ao n cap] w fun e w' => ∃ g, e = .returned (.slice (some ⟨g, 0, none⟩) n n) ∧ AT w w' g n (fun x => (L x : Int)) := by
  have H := hid_of h
  have HN := hid_of hn
  have HSO := hid_of hso
  have HL := hid_of hL
  obtain ⟨hs1, hs2, hs3, hs4⟩ := srt_spec hn hso (s := (srt n (bef n A) n).2) rfl
  have HSRT : Hid (∀ wx, Below w.heap.size w wx → Calls Tryd.prog 61 #[.slice ao n cap] wx fun e w' => ∃ xo xc, e = .returned (.slice xo n xc) ∧ w'.ownsRow wx.heap.size 3 1 (.slice xo n xc) n (is (nI (srt n (bef n A) n).2)) ∧ Below wx.heap.size wx w') := hid_of (fun wx hx => rsort_any ao n cap A wx (h.at hx) hn hso)
  generalize (srt n (bef n A) n).2 = s at *
  have HLS : Hid (n = (nI s).length ∧ n ≤ 1000) := hid_of ⟨by rw [nI_length]; exact hs1.symm, by omega⟩
  have HS := hid_of (And.intro (And.intro hs1 hs2) (And.intro hs3 hs4))
  obtain ⟨i0, hi, hz0, hz1, hz2⟩ := info_parts intsE.info
  clear h hso hL hs1 hs2 hs3 hs4
  go_enter Tryd.func32, Tryd.ntmps32
  go_wp2_with (first
    | (at_make; (refine wpList_make_full _ rfl _ _ 36 rfl w.heap.size 3 i0 (.int .i64 0) 1 Tryd.underlying36 hi hz0 hz1 .i64 .i64 n n n rfl rfl rfl rfl (by rw [hz2]; have := HN.out; omega) (by unfold maxLen; have := HN.out; omega) (Nat.le_refl _) ?_); intro w1 hown hgrow; have HB1 : Hid (Below w.heap.size w w1) := hid_of ((Below.refl _ _).grown hgrow (Nat.le_refl _) (fun k h => by cases h)); have A1 := hid_of (at_made HB1.out (made_row (z := .int .i64 0) hown (by rw [Nat.mul_one]; rfl))); clear hown hgrow)
    | (go_at_call 61; ((with_reducible refine (HSRT.out _ HB1.out).mono ?_); (rintro ee w2 ⟨so, sc, rfl, h2, h3⟩; have S2 := hid_of h2; have A2 := hid_of (A1.out.at h3); clear h2 h3))))
  obtain ⟨g, hg⟩ : ∃ g, g = w.heap.size := ⟨_, rfl⟩
  have HB0 : Hid (g < w1.heap.size) := hid_of (by rw [hg]; exact lt_of_block A1.out.blk)
  obtain ⟨B0, hB0⟩ : ∃ B0, B0 = w1.heap.size := ⟨_, rfl⟩
  rw [← hB0] at HB0 S2
  rw [← hg] at A2 ⊢
  have A3 : Hid (AT w w2 g n (lvs L s 0)) := hid_of (A2.out.congr fun x _ => by simp [lvs])
  clear hg hB0 hi hz0 hz1 hz2 i0 A1 A2 HSRT
  go_loopw [5] (fun iv wr => ∃ i : Nat, iv = .int .i64 i ∧ i ≤ n ∧ Hid (AT w wr g n (lvs L s i) ∧ wr.ownsRow B0 3 1 (.slice so n sc) n (is (nI s)))) (fun iv _ => n - (intOf iv).toNat)
  case atStart => exact ⟨0, rfl, Nat.zero_le _, hid_of ⟨A3.out, S2.out⟩⟩
  case round =>
    clear A3 S2
    obtain ⟨i, rfl, hi, hs⟩ := hrel
    by_cases hlt : i < n
    · have hd : decide (i < n) = true := by simp; omega
      obtain ⟨q, o, rfl, hq, hcell⟩ := is_open (own_rd hs.out.2 HLS.out) (by omega)
      obtain ⟨b, hb⟩ : ∃ e, s[i]? = some e := ⟨_, List.getElem?_eq_getElem (by rw [HS.out.1.1]; exact hlt)⟩
      have c1 := hcell i b (by simp [nI, hb])
      have hbn := HS.out.2.1 b (List.mem_of_getElem? hb)
      have HPR : Hid (∀ x, bm A x b = true → x ∈ s.take i) := hid_of ((HS.out.2.2 i b hb).1)
      have HNI : Hid (b ∉ s.take i) := hid_of (fun h1 => by obtain ⟨k, hk, h2⟩ := take_mem h1; have := nodup_ne HS.out.1.2 hb h2; omega)
      have HNX : Hid (∀ x, lvb L s i b (L b) x = lvs L s (i + 1) x) := hid_of (fun x => by
        unfold lvb lvs
        rw [List.take_add_one, hb]
        by_cases hx : x = b
        · subst hx; simp
        · simp [hx])
      have S0 : Hid (AT w wr g n (lvb L s i b (mxl (bm A) L b 0)) ∧ wr.ownsRow B0 3 1 (.slice (some ⟨q, o, none⟩) n sc) n (is (nI s))) := hid_of ⟨hs.out.1.congr fun x _ => by
        unfold lvb
        by_cases hx : x = b
        · subst hx; rw [if_pos rfl]; unfold lvs; rw [if_neg HNI.out]; rfl
        · rw [if_neg hx], hs.out.2⟩
      have HFU := hid_of (mxl_full HSO.out HL.out hbn)
      have b1 : (i : Int) < (n : Int) := by omega
      have b0 : (0 : Int) ≤ (i : Int) := by omega
      obtain ⟨wo, hwo⟩ : ∃ wo : World, wo = wr := ⟨_, rfl⟩
      rw [← hwo] at S0 c1 ⊢
      clear hwo hs hcell hb
      go_wp2
      go_loopw [7] (fun av wr => ∃ a : Nat, av = .int .i64 a ∧ a ≤ n ∧ Hid (AT w wr g n (lvb L s i b (mxl (bm A) L b a)) ∧ wr.ownsRow B0 3 1 (.slice (some ⟨q, o, none⟩) n sc) n (is (nI s)))) (fun av _ => n - (intOf av).toNat)
      case atStart => exact ⟨0, rfl, Nat.zero_le _, S0⟩
      case round =>
        clear S0
        obtain ⟨a, rfl, ha, hs⟩ := hrel
        by_cases hlt2 : a < n
        · have hd2 : decide (a < n) = true := by simp; omega
          obtain ⟨qm, rfl, hqm, hqc⟩ := H.out.open (by omega)
          obtain ⟨ga, hga, q1, q2⟩ := hqc a hlt2
          have k1 := (hs.out.1.bel.cell (p := ⟨qm, a, none⟩) hqm).trans q1
          have k2 := (hs.out.1.bel.cell (p := ⟨ga, b, none⟩) hga).trans (q2 b hbn)
          have k3 := hs.out.1.cell hbn
          have k4 := hs.out.1.free b
          obtain ⟨v1, hv1⟩ : ∃ v, v = bm A a b := ⟨_, rfl⟩
          obtain ⟨mb, hmb⟩ : ∃ m, m = mxl (bm A) L b a := ⟨_, rfl⟩
          rw [← hv1] at k2
          rw [show lvb L s i b (mxl (bm A) L b a) b = (mb : Int) by unfold lvb; rw [if_pos rfl, hmb]] at k3
          have HAT : Hid (AT w wr g n (lvb L s i b mb) ∧ wr.ownsRow B0 3 1 (.slice (some ⟨q, o, none⟩) n sc) n (is (nI s))) := hid_of ⟨by rw [hmb]; exact hs.out.1, hs.out.2⟩
          have b3 : (a : Int) < (n : Int) := by omega
          have b2 : (0 : Int) ≤ (a : Int) := by omega
          have b5 : (b : Int) < (n : Int) := by omega
          have b4 : (0 : Int) ≤ (b : Int) := by omega
          have HSTEP : Hid (mxl (bm A) L b (a + 1) = if v1 = true ∧ mb < L a + 1 then L a + 1 else mb) := hid_of (by rw [hv1, hmb]; rfl)
          cases v1
          · clear hqc q1 q2 hv1 hmb hs
            go_wp2
            go_quiet (fail)
            go_wp2
            go_roundw
            case rel => exact ⟨a + 1, by go_num, by omega, hid_of ⟨by rw [HSTEP.out, if_neg (by simp)]; exact HAT.out.1.drewN _, own_same HAT.out.2 fun _ _ => rfl⟩⟩
            case measure => simp [intOf]; omega
          · have hin := HPR.out a hv1.symm
            have hab : a ≠ b := by rintro rfl; exact HNI.out hin
            have k5 := hs.out.1.cell hlt2
            obtain ⟨la, hla⟩ : ∃ m, m = L a := ⟨_, rfl⟩
            rw [show lvb L s i b (mxl (bm A) L b a) a = (la : Int) by unfold lvb lvs; rw [if_neg hab, if_pos hin, hla]] at k5
            have hlc : la < 64 := by have := HL.out.lt a hlt2; have := HL.out.le; have := HN.out; omega
            obtain ⟨la1, hla1⟩ : ∃ m, m = la + 1 := ⟨_, rfl⟩
            have s1 : IntKind.i64.wrap ((la : Int) + 1) = (la1 : Int) := by rw [IntWalk.i64_in _ (by omega)]; omega
            rw [← hla, ← hla1] at HSTEP
            have HL1 : Hid ((la1 : Int) = (la : Int) + 1) := hid_of (by omega)
            clear hqc q1 q2 hv1 hmb hla hla1 hs k3
            have k3 := HAT.out.1.cell hbn
            rw [show lvb L s i b mb b = (mb : Int) by unfold lvb; rw [if_pos rfl]] at k3
            by_cases hlm : mb < la1
            · have d1 : decide (mb < la1) = true := by simpa using hlm
              have d2 : decide ((mb : Int) < (la1 : Int)) = true := by simp; omega
              go_wp2
              go_quiet (fail)
              go_wp2
              go_roundw
              case rel => exact ⟨a + 1, by go_num, by omega, hid_of ⟨by
                rw [HSTEP.out, if_pos ⟨trivial, hlm⟩]
                refine ((HAT.out.1.drewN _).set b _).congr fun x _ => ?_
                unfold lvb
                by_cases hx : x = b
                · rw [if_pos hx, if_pos hx, HL1.out]
                · rw [if_neg hx, if_neg hx, if_neg hx], own_same HAT.out.2 fun k hk => Below.heap_setCell _ _ _ _ (by have := (HAT.out.2.lt k hk).1; have := HB0.out; show k ≠ g; omega)⟩⟩
              case measure => simp [intOf]; omega
            · have d1 : decide (mb < la1) = false := by simpa using hlm
              have d2 : decide ((mb : Int) < (la1 : Int)) = false := by simp; omega
              go_wp2
              go_quiet (fail)
              go_wp2
              go_roundw
              case rel => exact ⟨a + 1, by go_num, by omega, hid_of ⟨by rw [HSTEP.out, if_neg (fun h => hlm h.2)]; exact HAT.out.1.drewN _, own_same HAT.out.2 fun _ _ => rfl⟩⟩
              case measure => simp [intOf]; omega
        · have hd2 : decide (a < n) = false := by simp; omega
          have HF : Hid (AT w wr g n (lvs L s (i + 1)) ∧ wr.ownsRow B0 3 1 (.slice (some ⟨q, o, none⟩) n sc) n (is (nI s))) := hid_of ⟨hs.out.1.congr fun x _ => by rw [show a = n by omega, HFU.out]; exact HNX.out x, hs.out.2⟩
          clear hs
          go_wp2
          go_roundw
          case rel => exact ⟨i + 1, by go_num, by omega, HF⟩
          case measure => simp [intOf]; omega
    · have hd : decide (i < n) = false := by simp; omega
      have HF : Hid (AT w wr g n (fun x => (L x : Int))) := hid_of (hs.out.1.congr fun x hx => by
        unfold lvs
        rw [if_pos (by rw [List.take_of_length_le (by rw [HS.out.1.1]; omega)]; exact all_in HS.out.1.2 HS.out.2.1 HS.out.1.1 hx)])
      clear hs
      go_wp2
      go_ret
      exact ⟨g, rfl, HF.out⟩

theorem at_rd {w0 w : World} {g n : Nat} {L : Nat → Nat} (h : AT w0 w g n (fun x => (L x : Int))) (hn : n ≤ 64) : Rd w (.slice (some ⟨g, 0, none⟩) n n) (is (nI ((List.range n).map L))) := by
  have e : is (nI ((List.range n).map L)) = fs n (fun x => (L x : Int)) := by unfold is nI fs; rw [List.map_map, List.map_map]; rfl
  rw [e]
  exact ⟨_, n, by rw [fs_len], by rw [fs_len]; omega, by omega, fun _ => ⟨g, 0, rfl, lt_of_block h.blk, fun i u hu => by rw [Nat.zero_add]; exact blk_cell h.blk hu⟩⟩

set_option maxRecDepth 100000 in
set_option maxHeartbeats 3200000 in
theorem orderLevels_law (n : Int) (ao : Option Addr) (m cap : Nat) (ps : List Tk) (w : World) (hT : Tb w) (hp : TIn w ao m cap ps) :
    Calls Tryd.prog 8 #[.int .i64 n, .slice ao m cap] w fun e w' => e = .returned (.bool true) ∧ Below w.heap.size w w' := by
  have HP := hid_of hp.1
  have HT := hid_of hT
  have HA := hid_of (awake_any w hT)
  obtain ⟨E, hE⟩ : ∃ E, E = errE n ps := ⟨_, rfl⟩
  have HF : Hid (∀ wx, TRd wx (.slice ao m cap) ps → Calls Tryd.prog 22 #[.int .i64 n, .slice ao m cap] wx fun e w' => e = .returned (.int .i64 E) ∧ Below wx.heap.size wx w') := hid_of (fun wx h => by rw [hE]; exact fault_any n ao m cap ps wx h)
  by_cases h0 : E = 0
  · subst h0
    have hC := err_chk hE.symm
    obtain ⟨k, rfl, hk⟩ := chk_nat hC
    have hv := chk_valid hC
    have hso := so_clo hk hv (err_acyc hE.symm)
    have G3 : Hid (∀ wx, TRd wx (.slice ao m cap) ps → Tb wx → Calls Tryd.prog 25 #[.int .i64 k, .slice ao m cap] wx fun e w' => ∃ (g c : Nat) (L : Nat → Nat), e = .returned (.tuple #[.slice (some ⟨g, 0, none⟩) k k, .int .i64 0]) ∧ AT wx w' g k (fun x => (L x : Int)) ∧ LvOk k (bm (clo k ps)) c L) := hid_of (fun wx h ht => levelsF_any k ao m cap ps wx h ht hE.symm)
    have G5 : Hid (∀ wx, TRd wx (.slice ao m cap) ps → Calls Tryd.prog 18 #[.int .i64 k, .slice ao m cap] wx fun e w' => ∃ xo xc, e = .returned (.slice xo k xc) ∧ RdG w' (.slice xo k xc) k (bm (clo k ps)) ∧ Below wx.heap.size wx w') := hid_of (fun wx h => less_any k hk ao m cap ps wx h hC)
    have G6 : Hid (∀ xo xc wx c (L : Nat → Nat), LvOk k (bm (clo k ps)) c L → RdG wx (.slice xo k xc) k (bm (clo k ps)) → Calls Tryd.prog 32 #[.slice xo k xc] wx fun e w' => ∃ g, e = .returned (.slice (some ⟨g, 0, none⟩) k k) ∧ AT wx w' g k (fun x => (L x : Int))) := hid_of (fun xo xc wx c L hL hr => rlevels_any xo k xc _ c L wx hr hk hso hL)
    have HK := hid_of hk
    clear hT hp hE hC hv hso
    obtain ⟨M, hM⟩ : ∃ M, M = bm (clo k ps) := ⟨_, rfl⟩
    rw [← hM] at G3 G5 G6
    clear hM
    go_enter Tryd.func8, Tryd.ntmps8
    go_wp2_with (first
      | (go_at_call 13; ((with_reducible refine (HA.out).mono ?_); (rintro ee w1 ⟨rfl, h1⟩; replace HP := hid_of (HP.out.at h1); replace HT := hid_of (HT.out.at h1); have BA := hid_of h1; clear h1)))
      | (go_at_call 22; ((with_reducible refine (HF.out _ HP.out).mono ?_); (rintro ee w2 ⟨rfl, h1⟩; replace HP := hid_of (HP.out.at h1); replace HT := hid_of (HT.out.at h1); replace BA := hid_of (BA.out.trans (h1.mono BA.out.size)); clear h1)))
      | (go_at_call 25; ((with_reducible refine (G3.out _ HP.out HT.out).mono ?_); (rintro ee w4 ⟨g, c, L, rfl, h2, h3⟩; have L4 := hid_of h3; have R4 := hid_of (at_rd h2 HK.out); replace HP := hid_of (HP.out.at h2.bel); replace BA := hid_of (BA.out.trans (h2.bel.mono BA.out.size)); clear h2 h3)))
      | (go_at_call 18; ((with_reducible refine (G5.out _ HP.out).mono ?_); (rintro ee w6 ⟨mo, mc, rfl, h2, h1⟩; have M6 := hid_of h2; replace R4 := hid_of (R4.out.at h1); replace BA := hid_of (BA.out.trans (h1.mono BA.out.size)); clear h1 h2)))
      | (go_at_call 32; ((with_reducible refine (G6.out _ _ _ c L L4.out M6.out).mono ?_); (rintro ee w7 ⟨g7, rfl, h2⟩; have Y7 := hid_of (at_rd h2 HK.out); replace R4 := hid_of (R4.out.at h2.bel); replace BA := hid_of (BA.out.trans (h2.bel.mono BA.out.size)); clear h2)))
      | (go_at_call 31; ((with_reducible refine (same_any _ _ _ _ _ _ _ _ _ R4.out Y7.out).mono ?_); (rintro ee w8 ⟨rfl, h1⟩; replace BA := hid_of (BA.out.trans (h1.mono BA.out.size)); clear h1))))
    go_ret
    exact ⟨by simp, BA.out⟩
  · have hd : (E == 0) = false := by simpa using h0
    clear hT hp hE h0
    go_enter Tryd.func8, Tryd.ntmps8
    go_wp2_with (first
      | (go_at_call 13; ((with_reducible refine (HA.out).mono ?_); (rintro ee w1 ⟨rfl, h1⟩; replace HP := hid_of (HP.out.at h1); have BA := hid_of h1; clear h1)))
      | (go_at_call 22; ((with_reducible refine (HF.out _ HP.out).mono ?_); (rintro ee w2 ⟨rfl, h1⟩; replace HP := hid_of (HP.out.at h1); replace BA := hid_of (BA.out.trans (h1.mono BA.out.size)); clear h1))))
    go_ret
    exact ⟨rfl, BA.out⟩
end Go.Proofs.YtjfjcgbdpjpodaaDoor
