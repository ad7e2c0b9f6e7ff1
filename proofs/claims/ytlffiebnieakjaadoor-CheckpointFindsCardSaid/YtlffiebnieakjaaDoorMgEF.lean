/- Texts in one: CkL5, ShaLaid, CkAwk. -/
import Derived.Test.YtlffiebnieakjaaDoorMgEE
import Derived.Test.YtlffiebnieakjaaDoorRows
import Derived.ProofKit
import Derived.LaidMore
import Derived.OpenShut
import Derived.Stop.Joined
import Derived.Deep.RegionHeldLaw
set_option linter.unusedVariables false
set_option linter.unusedSimpArgs false
/- The law Every. Bounds on sizes alone. -/
namespace Go.Proofs.YtlffiebnieakjaaDoor
open Go.RowKit
set_option maxRecDepth 100000
set_option maxHeartbeats 12800000

/-- A countdown that outlasts the operations. -/
theorem cnt_run : ∀ (O : List (Option (Nat × List Int))) (M : DM) (n : Nat), (∀ p, some p ∈ O → p.1 < M.secs.length ∧ p.2.length = M.sz) → M.off = false → M.cnt = n → O.length ≤ n → (runF O M).1 = true
  | [], M, n, _, _, _, _ => rfl
  | o :: r, M, n, ho, hf, hc, hl => by
    simp only [List.length_cons] at hl
    have hs : stepF M = (true, { M with cnt := M.cnt - 1 }) := by
      unfold stepF
      rw [if_neg (by rw [hf, hc]; simp; omega), if_pos (by rw [hc]; omega)]
    have e : (opF M o).1 = 0 ∧ (opF M o).2.off = false ∧ (opF M o).2.cnt = ((n - 1 : Nat) : Int) ∧ (opF M o).2.sz = M.sz ∧ (opF M o).2.secs.length = M.secs.length := by
      cases o with
      | none =>
        show (syncF M).1 = 0 ∧ (syncF M).2.off = false ∧ (syncF M).2.cnt = _ ∧ (syncF M).2.sz = _ ∧ (syncF M).2.secs.length = _
        unfold syncF
        rw [hs, if_neg (by simp)]
        exact ⟨rfl, hf, by show M.cnt - 1 = _; rw [hc]; omega, rfl, putF_len _ _⟩
      | some p =>
        obtain ⟨h1, h2⟩ := ho p (by simp)
        have hft : M.fits p.1 = true := by simp only [DM.fits, decide_eq_true_eq]; omega
        show (writeF M p.1 p.2).1 = 0 ∧ (writeF M p.1 p.2).2.off = false ∧ (writeF M p.1 p.2).2.cnt = _ ∧ (writeF M p.1 p.2).2.sz = _ ∧ (writeF M p.1 p.2).2.secs.length = _
        unfold writeF
        rw [if_neg (by rw [hft]; simp [h2]), hs, if_neg (by simp)]
        exact ⟨rfl, hf, by show M.cnt - 1 = _; rw [hc]; omega, rfl, rfl⟩
    rw [runF, if_pos e.1]
    exact cnt_run r _ (n - 1) (fun p hp => by rw [e.2.2.2.1, e.2.2.2.2]; exact ho p (by simp [hp])) e.2.1 e.2.2.1 (by omega)
theorem savO_fit {M : DM} {f n g : Nat} {b : List Int} (hf : f + n ≤ M.secs.length) (hn : 2 ≤ n) (hz : 44 ≤ M.sz) (hb : b.length ≤ (n - 1) * M.sz) : ∀ p, some p ∈ savO (headK Sh.digest M.sz b g) f M.sz b → p.1 < M.secs.length ∧ p.2.length = M.sz := fun p hp => by
  have hk := need_le (l := b.length) (z := M.sz) (n := n) (by omega) hb
  rcases savO_mem hp with (e | e) | ⟨j, h1, e⟩
  · rw [e]; exact ⟨by simp only []; omega, by simp⟩
  · rw [e]; exact ⟨by simp only []; omega, headK_len Sh.digest_length hz b g⟩
  · rw [e]; exact ⟨by simp only []; omega, secL_len _ _ _⟩
theorem nw_crash {M : DM} (hc : M.cache = []) (kp : List Bool) (f n : Nat) : nwD (crashF M kp) f n = nwD M f n := by
  have e : (crashF M kp).secs = M.secs := by
    show keepF M.secs M.cache kp _ = _
    rw [hc]
    rfl
  have h : ∀ f, slD (crashF M kp) f n = slD M f n := fun f => by
    rw [slD_clean rfl, slD_clean hc, e]
  unfold nwD
  rw [h, h]
section
variable {B : Nat} {T : Nat → Prop} {w : World} {b : Nat} {M : DM}
/-- An opening behind a crash. -/
theorem lv_crashed {ct : Nat} {kp : List Bool} (h : DR B T w b (crashF M kp)) (t : TR B T w) (hreg : 1 + ct ≤ M.secs.length ∧ 4 ≤ ct) (hz1 : 64 ≤ M.sz) (hR : (ct / 2 - 1) * M.sz ≤ 30000) (hr : RngM M) (hG : Sh.Glob w) :
    Calls Tryd.prog 14 #[.pointer (some ⟨b, 0, none⟩), .int .i64 1, .int .i64 ct] w fun e w' => ∃ cb, e = .returned (.tuple #[.pointer (some ⟨cb, 0, none⟩), .int .i64 0]) ∧ LV B T w' cb b (crashF M kp) 1 (ct / 2) (nwD (crashF M kp) 1 (ct / 2)).2.2 (nwD (crashF M kp) 1 (ct / 2)).1 (nwD (crashF M kp) 1 (ct / 2)).2.1 ∧ Below w.heap.size w w' :=
  lv_open (f := 1) h t (by rw [show (crashF M kp).secs.length = M.secs.length from keepF_len _ _ _ _]; exact hreg) hz1 hR rfl rfl (rng_crash hr kp) hG
end
/-- What the law asks of the disk's mathematics. -/
theorem ev_pure (L z n : Nat) (la lb : List Int) (hz : 64 ≤ z ∧ z ≤ 95) (hn : 3 ≤ n) (hL : n ≤ 7 ∧ 1 + n + n ≤ L) (h15 : L ≤ 15) (hla : la.length ≤ (n - 1) * z) (hlb : lb.length ≤ (n - 1) * z) (ba : Byt la) :
    RngM (saveF (headK Sh.digest z la 1) (newF L z) 1 la).2 ∧ (saveF (headK Sh.digest z la 1) (newF L z) 1 la).2.cache = [] ∧
    (∀ i : Nat, i ≤ 40 → (saveF (headK Sh.digest z lb 2) (failF (saveF (headK Sh.digest z la 1) (newF L z) 1 la).2 i) (1 + n) lb).1 = true → (saveF (headK Sh.digest z lb 2) (failF (saveF (headK Sh.digest z la 1) (newF L z) 1 la).2 i) (1 + n) lb).2.cache = [] ∧ nwD (saveF (headK Sh.digest z lb 2) (failF (saveF (headK Sh.digest z la 1) (newF L z) 1 la).2 i) (1 + n) lb).2 1 n = (lb, 2, 1)) ∧
    (∀ i : Nat, i ≤ 40 → (saveF (headK Sh.digest z lb 2) (failF (saveF (headK Sh.digest z la 1) (newF L z) 1 la).2 i) (1 + n) lb).1 = false → ∀ kp, nwD (crashF (saveF (headK Sh.digest z lb 2) (failF (saveF (headK Sh.digest z la 1) (newF L z) 1 la).2 i) (1 + n) lb).2 kp) 1 n = (la, 1, 0) ∨ nwD (crashF (saveF (headK Sh.digest z lb 2) (failF (saveF (headK Sh.digest z la 1) (newF L z) 1 la).2 i) (1 + n) lb).2 kp) 1 n = (lb, 2, 1)) ∧
    (∀ i : Nat, i ≤ 40 → 12 ≤ i → (saveF (headK Sh.digest z lb 2) (failF (saveF (headK Sh.digest z la 1) (newF L z) 1 la).2 i) (1 + n) lb).1 = true) := by
  have P0 : CPV (newF L z) 1 n 1 [] 0 := ⟨newF_ok L z (by omega) (by omega), rfl, new_nwD L z 1 n (by omega), ⟨by rw [new_secs]; omega, by omega⟩, hz.1⟩
  have z0 : (newF L z).sz = z := rfl
  have t1 : tgF 1 n 1 = 1 := rfl
  have t0 : tgF 1 n 0 = 1 + n := rfl
  have n0 := nf_save (M := newF L z) (f := 1) (n := n) (g := 1) (b := la) (new_nf L z) (by rw [new_secs]; omega) (by omega) (by rw [z0]; omega) (by rw [z0]; exact hla)
  rw [z0] at n0
  obtain ⟨s1, s2⟩ := n0
  have g0 := P0.good (l := la) (by rw [z0]; exact hla) (by unfold maxG; omega) (by rw [z0, t1, Nat.zero_add]; exact s1)
  rw [z0, t1, Nat.zero_add, new_secs] at g0
  obtain ⟨a1, a2, a3, a4, _, _, _⟩ := g0
  have rM := rng_save (M := newF L z) (f := 1) (g := 1) (b := la) (rng_new L z) ba (by rw [z0]; omega)
  rw [z0] at rM
  have okM : (saveF (headK Sh.digest z la 1) (newF L z) 1 la).2.Ok := by
    have h9 := ok_run (savO (headK Sh.digest z la 1) 1 z la) (newF L z) P0.ok
    exact h9
  have szM : (saveF (headK Sh.digest z la 1) (newF L z) 1 la).2.sz = z := (save_sz _ _ _ _).trans z0
  obtain ⟨M1, hM1⟩ : ∃ M1, M1 = (saveF (headK Sh.digest z la 1) (newF L z) 1 la).2 := ⟨_, rfl⟩
  rw [← hM1] at a1 a2 a3 a4 rM okM szM ⊢
  have fz : ∀ i : Int, (failF M1 i).sz = z := fun i => by rw [← szM]; unfold failF; split <;> rfl
  have fl : ∀ i : Int, (failF M1 i).secs.length = L := fun i => by rw [← a3]; unfold failF; split <;> rfl
  have P1 : ∀ i : Nat, i ≤ 40 → CPV (failF M1 i) 1 n 0 la 1 := fun i hi => ⟨okM.fail i (by omega), by unfold failF; split <;> exact a2, by rw [nw_fail]; exact a4, ⟨by rw [fl]; omega, by omega⟩, by rw [fz]; exact hz.1⟩
  refine ⟨rM, a2, fun i hi h => ?_, fun i hi h kp => ?_, fun i hi h => ?_⟩
  · have h9 := (P1 i hi).good (l := lb) (by rw [fz]; exact hlb) (by unfold maxG; omega) (by rw [fz, t0]; exact h)
    rw [fz, t0] at h9
    exact ⟨h9.2.1, h9.2.2.2.1⟩
  · have h9 := (P1 i hi).torn (l := lb) (by rw [fz]; exact hlb) (by unfold maxG; omega) (by rw [fz, t0]; exact h)
    rw [fz, t0] at h9
    exact h9.2.2 kp
  · have hfit := savO_fit (M := failF M1 i) (f := 1 + n) (n := n) (g := 2) (b := lb) (by rw [fl]; omega) (by omega) (by rw [fz]; omega) (by rw [fz]; exact hlb)
    rw [fz] at hfit
    have hk := need_le (l := lb.length) (z := z) (n := n) (by omega) hlb
    unfold saveF
    rw [fz]
    refine cnt_run _ _ i (fun p hp => ?_) ?_ ?_ ?_
    · have h9 := hfit p hp
      rw [fz]
      exact h9
    · unfold failF; rw [a1]; rfl
    · unfold failF
      rw [if_neg (by rw [a1]; simp)]
      show max (i : Int) 0 = i
      omega
    · rw [savO_len]; omega
theorem cr_in {w : World} {a : Option Addr} {n c : Nat} {l : List Int} (h : Rd w (.slice a n c) (by8 l)) : CR (fun k => k < w.heap.size) w (.slice a n c) l := ⟨h, fun h0 => rd_in h (by rwa [by8_length])⟩
theorem every_law (AW : ∀ w, Sh.Glob w → Calls Tryd.prog 10 #[] w (BoP true w)) (s : Nat) (hs : s ≤ 255) (a0 : Option Addr) (n0 c0 : Nat) (la : List Int) (a1 : Option Addr) (n1 c1 : Nat) (lb : List Int) (a2 : Option Addr) (n2 c2 : Nat) (kp : List Bool) (w : World) (hG : Sh.Glob w) (ra : Rd w (.slice a0 n0 c0) (by8 la)) (ba : Byt la) (rb : Rd w (.slice a1 n1 c1) (by8 lb)) (bb : Byt lb) (rk : Rd w (.slice a2 n2 c2) (bls kp)) :
    Calls Tryd.prog 7 #[.int .u8 s, .slice a0 n0 c0, .slice a1 n1 c1, .slice a2 n2 c2] w (BoP true w) := by
  obtain ⟨L, hL⟩ : ∃ L, L = 8 + s % 8 := ⟨_, rfl⟩
  obtain ⟨z, hz⟩ : ∃ z, z = 64 + s / 8 := ⟨_, rfl⟩
  obtain ⟨ct, hct⟩ : ∃ ct, ct = L - 1 := ⟨_, rfl⟩
  obtain ⟨n, hn⟩ : ∃ n, n = ct / 2 := ⟨_, rfl⟩
  have hL2 : 8 ≤ L ∧ L ≤ 15 := by omega
  have hz2 : 64 ≤ z ∧ z ≤ 95 := by omega
  have hn2 : 3 ≤ n ∧ n ≤ 7 ∧ 1 + n + n ≤ L := by omega
  obtain ⟨Rm, hRm⟩ : ∃ Rm, Rm = (n - 1) * z := ⟨_, rfl⟩
  have hR6 : Rm ≤ 6 * 95 := by rw [hRm]; exact Nat.mul_le_mul (by omega) hz2.2
  obtain ⟨B, hB⟩ : ∃ B, B = w.heap.size := ⟨_, rfl⟩
  have hB2 : 2 ≤ B := by rw [hB]; exact hG.two
  obtain ⟨T, hT⟩ : ∃ T : Nat → Prop, T = fun k => k < B := ⟨_, rfl⟩
  have HTR := hid_of (fun (X : World) (h : w.heap.size ≤ X.heap.size) => show TR B T X from by rw [hT]; have h9 := tr_new (w := w) (w' := X) h; rwa [← hB] at h9)
  have HG := hid_of (fun (X : World) (h : Below B w X) => hG.bel h hB2)
  have HA := hid_of (fun (X : World) (h : Below B w X) => show CR T X (.slice a0 n0 c0) la from by rw [hT, hB]; exact (cr_in ra).keep ⟨h.size, fun k hk _ => h.block k (by rw [hB]; exact hk)⟩)
  have HBB := hid_of (fun (X : World) (h : Below B w X) => show CR T X (.slice a1 n1 c1) lb from by rw [hT, hB]; exact (cr_in rb).keep ⟨h.size, fun k hk _ => h.block k (by rw [hB]; exact hk)⟩)
  have HK := hid_of (fun (X : World) (h : Below B w X) => show Rd X (.slice a2 n2 c2) (bls kp) ∧ (0 < (bls kp).length → In T (.slice a2 n2 c2)) from by rw [hT, hB]; exact ⟨rk.later h (by omega), fun h0 => rd_in rk h0⟩)
  have n0l : n0 = la.length := by have := (rd_cut ra).1; rwa [by8_length] at this
  have n1l : n1 = lb.length := by have := (rd_cut rb).1; rwa [by8_length] at this
  have n09 : n0 ≤ 9223372036854775807 := by have := (rd_cut ra).2; omega
  have n19 : n1 ≤ 9223372036854775807 := by have := (rd_cut rb).2; omega
  have M0nf : NF (newF L z) := new_nf L z
  have CAW := hid_of (show Calls Tryd.prog 10 #[] w (fun e w' => e = .returned (.bool true) ∧ Below B w w') from by rw [hB]; exact AW w hG)
  have CMK := hid_of (fun (X : World) (h : Below B w X) => show Calls Tryd.prog 11 #[.int .u8 s, .slice none 0 0] X (fun e w' => ∃ b, e = .returned (.pointer (some ⟨b, 0, none⟩)) ∧ DR B T w' b (newF L z) ∧ Below B X w') from by
    have h9 := make_any s hs none 0 0 [] X (HTR.out X h.size) ⟨[], ⟨none, 0, rfl, Nat.le_refl _, by simp, fun h => by simp at h⟩, fun h => by simp at h, rfl, fun i x l hx => by simp at hx⟩ (by decide)
    rw [mkM_nil, ← hL, ← hz] at h9
    exact h9)
  have CSC := hid_of (fun (X : World) (b : Nat) (M : DM) (hM : M.secs.length = L) (d : DR B T X b M) => show Calls Tryd.prog 12 #[.pointer (some ⟨b, 0, none⟩)] X (fun e w' => e = .returned (.int .i64 (L : Nat)) ∧ Below X.heap.size X w') from by rw [← hM]; exact d.sectors)
  have COP := hid_of (fun (X : World) (b : Nat) (h : Below B w X) (d : DR B T X b (newF L z)) => show Calls Tryd.prog 14 #[.pointer (some ⟨b, 0, none⟩), .int .i64 1, .int .i64 (ct : Nat)] X (fun e w' => ∃ cb, e = .returned (.tuple #[.pointer (some ⟨cb, 0, none⟩), .int .i64 0]) ∧ LV B T w' cb b (newF L z) 1 n 1 [] 0 ∧ Below X.heap.size X w') from by
    have h9 := lv_open (f := 1) (ct := ct) d (HTR.out X h.size) ⟨by rw [new_secs]; omega, by omega⟩ (by show 64 ≤ z; omega) (by rw [← hn]; show (n - 1) * z ≤ 30000; omega) rfl rfl (rng_new L z) (HG.out X h)
    rw [← hn, new_nwD L z 1 n (by omega)] at h9
    exact h9)
  have CRM := hid_of (fun (X : World) (cb b i g : Nat) (M : DM) (c : List Int) (hM : M.sz = z) (h : LV B T X cb b M 1 n i c g) => show Calls Tryd.prog 18 #[.pointer (some ⟨cb, 0, none⟩)] X (fun e w' => e = .returned (.int .i64 (Rm : Nat)) ∧ Below X.heap.size X w') from by have h9 := h.st.room; rw [hM, ← hRm] at h9; exact h9)
  -- the walk
  have HLB := hid_of (show B ≤ w.heap.size by omega)
  have HL0 := hid_of (show (newF L z).secs.length = L from new_secs L z)
  have HZ0 := hid_of (show (newF L z).sz = z from rfl)
  have ctm : IntKind.i64.wrap ((L : Int) - 1) = (ct : Int) := by rw [show (L : Int) - 1 = (ct : Int) by omega]; exact IntWalk.i64_in _ (by omega)
  have ctb : (L : Int) - 1 = (ct : Int) := by omega
  rw [show BoP true w = fun e w' => e = .returned (.bool true) ∧ Below B w w' from by rw [hB]]
  by_cases hla : Rm < n0
  · have d1 : (Rm : Int) < (n0 : Int) := by omega
    have d1b : decide ((Rm : Int) < (n0 : Int)) = true := decide_eq_true d1
    clear hla hB hB2 hT hRm hn hct hL hz hG ra rb rk ba bb n0l n1l M0nf hs AW hn2
    go_enter Tryd.func7, Tryd.ntmps7
    go_wp2_with (go_at_call 10; ((with_reducible refine (CAW.out).mono ?_); (rintro e w1 ⟨rfl, q1⟩)); have B1 := hid_of q1; clear q1)
    go_loopw [9] (fun iv wr => ∃ i : Nat, iv = .int .i64 i ∧ Hid (i ≤ 12) ∧ Hid (Below B w wr)) (fun iv _ => 100 - (intOf iv).toNat)
    case atStart => exact ⟨0, rfl, hid_of (by decide), B1⟩
    case round =>
      obtain ⟨i, rfl, hi, hb⟩ := hrel
      have hi9 : i ≤ 12 := hi.out
      have i40 : (i : Int) < 40 := by omega
      have i40b : decide ((i : Int) < 40) = true := decide_eq_true i40
      go_wp2_with (first
        | (go_at_call 11; ((with_reducible refine (CMK.out wr hb.out).mono ?_); (rintro e w2 ⟨b, rfl, q1, q2⟩)); have D2 := hid_of q1; have B2 := hid_of (hb.out.trans q2); clear q1 q2)
        | (go_at_call 12; ((with_reducible refine (CSC.out w2 b (newF L z) HL0.out D2.out).mono ?_); (rintro e w3 ⟨rfl, q2⟩)); have D3 := hid_of (D2.out.bel0 q2); have B3 := hid_of (B2.out.trans (q2.mono (Nat.le_trans HLB.out B2.out.size))); clear q2)
        | (go_at_call 14; ((with_reducible refine (COP.out w3 b B3.out D3.out).mono ?_); (rintro e w4 ⟨cb, rfl, q1, q2⟩)); have L4 := hid_of q1; have B4 := hid_of (B3.out.trans (q2.mono (Nat.le_trans HLB.out B3.out.size))); clear q1 q2)
        | (go_at_call 18; ((with_reducible refine (CRM.out w4 cb b 1 0 (newF L z) [] HZ0.out L4.out).mono ?_); (rintro e w5 ⟨rfl, q2⟩)); have L5 := hid_of (L4.out.bel0 q2); have B5 := hid_of (B4.out.trans (q2.mono (Nat.le_trans HLB.out B4.out.size))); clear q2))
      go_ret
      exact ⟨rfl, B5.out⟩
  by_cases hlb : Rm < n1
  · have d0 : ¬ (Rm : Int) < (n0 : Int) := by omega
    have d0b : decide ((Rm : Int) < (n0 : Int)) = false := decide_eq_false d0
    have d1 : (Rm : Int) < (n1 : Int) := by omega
    have d1b : decide ((Rm : Int) < (n1 : Int)) = true := decide_eq_true d1
    clear hla hlb hB hB2 hT hRm hn hct hL hz hG ra rb rk ba bb n0l n1l M0nf hs AW hn2
    go_enter Tryd.func7, Tryd.ntmps7
    go_wp2_with (go_at_call 10; ((with_reducible refine (CAW.out).mono ?_); (rintro e w1 ⟨rfl, q1⟩)); have B1 := hid_of q1; clear q1)
    go_loopw [9] (fun iv wr => ∃ i : Nat, iv = .int .i64 i ∧ Hid (i ≤ 12) ∧ Hid (Below B w wr)) (fun iv _ => 100 - (intOf iv).toNat)
    case atStart => exact ⟨0, rfl, hid_of (by decide), B1⟩
    case round =>
      obtain ⟨i, rfl, hi, hb⟩ := hrel
      have hi9 : i ≤ 12 := hi.out
      have i40 : (i : Int) < 40 := by omega
      have i40b : decide ((i : Int) < 40) = true := decide_eq_true i40
      go_wp2_with (first
        | (go_at_call 11; ((with_reducible refine (CMK.out wr hb.out).mono ?_); (rintro e w2 ⟨b, rfl, q1, q2⟩)); have D2 := hid_of q1; have B2 := hid_of (hb.out.trans q2); clear q1 q2)
        | (go_at_call 12; ((with_reducible refine (CSC.out w2 b (newF L z) HL0.out D2.out).mono ?_); (rintro e w3 ⟨rfl, q2⟩)); have D3 := hid_of (D2.out.bel0 q2); have B3 := hid_of (B2.out.trans (q2.mono (Nat.le_trans HLB.out B2.out.size))); clear q2)
        | (go_at_call 14; ((with_reducible refine (COP.out w3 b B3.out D3.out).mono ?_); (rintro e w4 ⟨cb, rfl, q1, q2⟩)); have L4 := hid_of q1; have B4 := hid_of (B3.out.trans (q2.mono (Nat.le_trans HLB.out B3.out.size))); clear q1 q2)
        | (go_at_call 18; ((with_reducible refine (CRM.out w4 cb b 1 0 (newF L z) [] HZ0.out L4.out).mono ?_); (rintro e w5 ⟨rfl, q2⟩)); have L5 := hid_of (L4.out.bel0 q2); have B5 := hid_of (B4.out.trans (q2.mono (Nat.le_trans HLB.out B4.out.size))); clear q2)
        | (go_at_call 18; ((with_reducible refine (CRM.out w5 cb b 1 0 (newF L z) [] HZ0.out L5.out).mono ?_); (rintro e w6 ⟨rfl, q2⟩)); have L6 := hid_of (L5.out.bel0 q2); have B6 := hid_of (B5.out.trans (q2.mono (Nat.le_trans HLB.out B5.out.size))); clear q2))
      go_ret
      exact ⟨rfl, B6.out⟩
  have d0 : ¬ (Rm : Int) < (n0 : Int) := by omega
  have d0b : decide ((Rm : Int) < (n0 : Int)) = false := decide_eq_false d0
  have d1 : ¬ (Rm : Int) < (n1 : Int) := by omega
  have d1b : decide ((Rm : Int) < (n1 : Int)) = false := decide_eq_false d1
  have lal : la.length ≤ (n - 1) * z := by omega
  have lbl : lb.length ≤ (n - 1) * z := by omega
  obtain ⟨s1, s2⟩ := by
    have n0 := nf_save (M := newF L z) (f := 1) (n := n) (g := 1) (b := la) M0nf (by rw [new_secs]; omega) (by omega) (by show 44 ≤ z; omega) lal
    rw [show (newF L z).sz = z from rfl] at n0
    exact n0
  obtain ⟨M1, hM1⟩ : ∃ M1, M1 = (saveF (headK Sh.digest z la 1) (newF L z) 1 la).2 := ⟨_, rfl⟩
  have s2 : NF M1 := by rw [hM1]; exact s2
  have m1z : M1.sz = z := by rw [hM1]; exact save_sz _ _ _ _
  have m1l : M1.secs.length = L := by rw [hM1, saveF, secs_run]; exact new_secs L z
  have CS1 := hid_of (fun (X : World) (cb b : Nat) (h : Below B w X) (d : LV B T X cb b (newF L z) 1 n 1 [] 0) => show Calls Tryd.prog 22 #[.pointer (some ⟨cb, 0, none⟩), .slice a0 n0 c0] X (fun e w' => e = .returned (.int .i64 0) ∧ LV B T w' cb b M1 1 n 0 la 1 ∧ Below B X w') from by
    have z0 : (newF L z).sz = z := rfl
    have t1 : tgF 1 n 1 = 1 := rfl
    have h9 := d.save_ok (HTR.out X h.size) (HA.out X h) ba (by rw [z0]; exact lal) (by unfold maxG; omega) (HG.out X h) hB2 (by omega) (by rw [z0, t1, Nat.zero_add]; exact s1)
    rw [z0, t1, Nat.zero_add, ← hM1] at h9
    exact h9.mono fun e w' ⟨q1, q2, q3, _⟩ => ⟨q1, q2, q3⟩)
  have CFL := hid_of (fun (X : World) (cb b i : Nat) (hi : R64 (i : Int)) (h : Below B w X) (d : LV B T X cb b M1 1 n 0 la 1) => show Calls Tryd.prog 25 #[.pointer (some ⟨b, 0, none⟩), .int .i64 (i : Nat)] X (fun e w' => e = .returned (.tuple #[]) ∧ LV B T w' cb b (failF M1 i) 1 n 0 la 1 ∧ Below B X w') from
    (d.fail (HTR.out X h.size) i hi).mono fun e w' ⟨q1, q2, q3, _⟩ => ⟨q1, q2, q3⟩)
  have fz : ∀ i : Int, (failF M1 i).sz = z := fun i => by rw [← m1z]; unfold failF; split <;> rfl
  have fl : ∀ i : Int, (failF M1 i).secs.length = L := fun i => by rw [← m1l]; unfold failF; split <;> rfl
  obtain ⟨gA, gB, gC, gD, gE⟩ := ev_pure L z n la lb hz2 hn2.1 hn2.2 hL2.2 lal lbl ba
  have HR1 := hid_of (show RngM M1 by rw [hM1]; exact gA)
  have HC1 := hid_of (show 0 = M1.cache.length by rw [hM1, gB]; rfl)
  have HGOOD := hid_of (fun (i : Nat) (hi : i ≤ 40) (h : (saveF (headK Sh.digest z lb 2) (failF M1 i) (1 + n) lb).1 = true) => show (saveF (headK Sh.digest z lb 2) (failF M1 i) (1 + n) lb).2.cache = [] ∧ nwD (saveF (headK Sh.digest z lb 2) (failF M1 i) (1 + n) lb).2 1 n = (lb, 2, 1) from by rw [hM1] at h ⊢; exact gC i hi h)
  have HTORN := hid_of (fun (i : Nat) (hi : i ≤ 40) (h : (saveF (headK Sh.digest z lb 2) (failF M1 i) (1 + n) lb).1 = false) (kp : List Bool) => show nwD (crashF (saveF (headK Sh.digest z lb 2) (failF M1 i) (1 + n) lb).2 kp) 1 n = (la, 1, 0) ∨ nwD (crashF (saveF (headK Sh.digest z lb 2) (failF M1 i) (1 + n) lb).2 kp) 1 n = (lb, 2, 1) from by rw [hM1] at h ⊢; exact gD i hi h kp)
  have HCNT := hid_of (fun (i : Nat) (hi : i ≤ 40) (h : 12 ≤ i) => show (saveF (headK Sh.digest z lb 2) (failF M1 i) (1 + n) lb).1 = true from by rw [hM1]; exact gE i hi h)
  obtain ⟨SA, hSA⟩ : ∃ S, S = strOfNums la := ⟨_, rfl⟩
  obtain ⟨SB, hSB⟩ : ∃ S, S = strOfNums lb := ⟨_, rfl⟩
  have HSA := hid_of hSA
  have HSB := hid_of hSB
  have ssa : (SA.toList == SA.toList) = true := beq_self_eq_true _
  have ssb : (SB.toList == SB.toList) = true := beq_self_eq_true _
  have HM1 := hid_of (And.intro s2 (And.intro m1z m1l))
  have HFZ := hid_of (And.intro fz fl)
  have HBY := hid_of bb
  have HSZ := hid_of (show 64 ≤ z ∧ z ≤ 95 ∧ (n - 1) * z ≤ 30000 ∧ 3 ≤ n ∧ n ≤ 7 ∧ 1 + n + n ≤ L ∧ 1 + ct ≤ L ∧ 4 ≤ ct ∧ n = ct / 2 ∧ lb.length ≤ (n - 1) * z ∧ (n - 1) * z ≤ 6 * 95 ∧ 2 ≤ B by omega)
  clear gA gB gC gD gE hla hlb hB hB2 hT hRm hn hct hL hz hG ra rb rk ba bb n0l n1l M0nf hs AW hn2 s1 s2 hM1 m1z m1l fz fl hSA hSB lal lbl
  go_enter Tryd.func7, Tryd.ntmps7
  go_wp2_with (go_at_call 10; ((with_reducible refine (CAW.out).mono ?_); (rintro e w1 ⟨rfl, q1⟩)); have B1 := hid_of q1; clear q1)
  go_loopw [9] (fun iv wr => ∃ i : Nat, iv = .int .i64 i ∧ Hid (i ≤ 12) ∧ Hid (Below B w wr)) (fun iv _ => 100 - (intOf iv).toNat)
  case atStart => exact ⟨0, rfl, hid_of (by decide), B1⟩
  case round =>
    obtain ⟨i, rfl, hi, hb⟩ := hrel
    have hi9 : i ≤ 12 := hi.out
    have i40 : (i : Int) < 40 := by omega
    have i40b : decide ((i : Int) < 40) = true := decide_eq_true i40
    have HI64 := hid_of (show R64 (i : Int) from ⟨by omega, by omega⟩)
    obtain ⟨z1, z2, z3, z4, z5, z6, z7, z8, z9, zA, zB, zC⟩ := HSZ.out
    obtain ⟨fz, fl⟩ := HFZ.out
    obtain ⟨A, hA⟩ : ∃ A, A = saveF (headK Sh.digest z lb 2) (failF M1 i) (1 + n) lb := ⟨_, rfl⟩
    have az : A.2.sz = z := by rw [hA, save_sz]; exact fz i
    have al : A.2.secs.length = L := by rw [hA, saveF, secs_run]; exact fl i
    have aln : ∀ kp, (crashF A.2 kp).secs.length = L := fun kp => (keepF_len _ _ _ _).trans al
    have HLA := hid_of (aln kp)
    have acc : A.2.cache.length ≤ 100000 := by
      have h1 := cache_run (savO (headK Sh.digest z lb 2) (1 + n) (failF M1 i).sz lb) (failF M1 i)
      have h0 : (failF M1 i).cache.length = 0 := by
        have : (failF M1 i).cache = M1.cache := by unfold failF; split <;> rfl
        rw [this, ← HC1.out]
      rw [savO_len, h0] at h1
      have h2 : (lb.length + (failF M1 i).sz - 1) / (failF M1 i).sz ≤ lb.length + (failF M1 i).sz - 1 := Nat.div_le_self _ _
      have h3 := fz i
      have h4 : A.2.cache.length = (runF (savO (headK Sh.digest z lb 2) (1 + n) (failF M1 i).sz lb) (failF M1 i)).2.cache.length := by rw [hA, saveF]
      omega
    have CCR := hid_of (fun (X : World) (b : Nat) (h : Below B w X) (d : DR B T X b A.2) => show Calls Tryd.prog 28 #[.pointer (some ⟨b, 0, none⟩), .slice a2 n2 c2] X (fun e w' => e = .returned (.tuple #[]) ∧ DR B T w' b (crashF A.2 kp) ∧ Below B X w') from
      (d.crash (HTR.out X h.size) (by omega) a2 n2 c2 kp (HK.out X h)).mono fun e w' ⟨q1, q2, q3, _⟩ => ⟨q1, q2, q3⟩)
    have arng : RngM (failF M1 i) → RngM A.2 := fun h => by
      rw [hA]
      have h9 := rng_save (f := 1 + n) (g := 2) h HBY.out (by rw [fz i]; omega)
      rw [fz i] at h9
      exact h9
    have hopen : RngM A.2 → ∀ (c : List Int) (g j : Nat), nwD (crashF A.2 kp) 1 n = (c, g, j) → ∀ (X : World) (b : Nat) (_ : Below B w X) (_ : DR B T X b (crashF A.2 kp)), Calls Tryd.prog 14 #[.pointer (some ⟨b, 0, none⟩), .int .i64 1, .int .i64 (ct : Nat)] X (fun e w' => ∃ cb, e = .returned (.tuple #[.pointer (some ⟨cb, 0, none⟩), .int .i64 0]) ∧ LV B T w' cb b (crashF A.2 kp) 1 n j c g ∧ Below X.heap.size X w') := fun hr c g j hnw X b h d => by
      have h9 := lv_crashed (ct := ct) d (HTR.out X h.size) ⟨by rw [al]; omega, by omega⟩ (by rw [az]; omega) (by rw [az, ← z9]; omega) hr (HG.out X h)
      rw [← z9, hnw] at h9
      exact h9
    by_cases hok : A.1 = true
    · have HRA : RngM A.2 := arng (rng_fail HR1.out i)
      have hnw : nwD (crashF A.2 kp) 1 n = (lb, 2, 1) := by
        have h9 := HGOOD.out i (by omega) (by rw [← hA]; exact hok)
        rw [← hA] at h9
        rw [nw_crash h9.1]
        exact h9.2
      have CS2 := hid_of (fun (X : World) (cb b : Nat) (h : Below B w X) (d : LV B T X cb b (failF M1 i) 1 n 0 la 1) => show Calls Tryd.prog 22 #[.pointer (some ⟨cb, 0, none⟩), .slice a1 n1 c1] X (fun e w' => e = .returned (.int .i64 0) ∧ DR B T w' b A.2 ∧ Below B X w') from by
        have hz := fz i
        have h9 := d.save_ok (HTR.out X h.size) (HBB.out X h) HBY.out (by rw [hz]; exact zA) (by unfold maxG; omega) (HG.out X h) zC (by omega) (by rw [hz, show tgF 1 n 0 = 1 + n from rfl, show 1 + 1 = 2 from rfl, ← hA]; exact hok)
        rw [hz, show tgF 1 n 0 = 1 + n from rfl, show 1 + 1 = 2 from rfl, ← hA] at h9
        exact h9.mono fun e w' ⟨q1, q2, q3, _⟩ => ⟨q1, q2.st.disk, q3⟩)
      have CO2 := hid_of (hopen HRA lb 2 1 hnw)
      have HLD := hid_of True.intro
      have CLD := hid_of (fun (X : World) (cb b : Nat) (h : LV B T X cb b (crashF A.2 kp) 1 n 1 lb 2) => show Calls Tryd.prog 15 #[.pointer (some ⟨cb, 0, none⟩)] X (fun e w' => ∃ x k c, e = .returned (.tuple #[.slice x k c, .int .i64 2]) ∧ Rd w' (.slice x k c) (by8 lb) ∧ Below X.heap.size X w') from h.st.load.mono fun e w' ⟨x, k, c, q1, q2, q3⟩ => ⟨x, k, c, q1, q2.1, q3⟩)
      clear hok hA az al aln acc arng fz fl z1 z2 z3 z4 z5 z6 z7 z8 z9 zA zB zC hopen
      go_wp2_with (first
        | (go_at_call 11; ((with_reducible refine (CMK.out wr hb.out).mono ?_); (rintro e w2 ⟨b, rfl, q1, q2⟩)); have D2 := hid_of q1; have B2 := hid_of (hb.out.trans q2); clear q1 q2)
        | (go_at_call 12; ((with_reducible refine (CSC.out w2 b (newF L z) HL0.out D2.out).mono ?_); (rintro e w3 ⟨rfl, q2⟩)); have D3 := hid_of (D2.out.bel0 q2); have B3 := hid_of (B2.out.trans (q2.mono (Nat.le_trans HLB.out B2.out.size))); clear q2)
        | (go_at_call 14; ((with_reducible refine (COP.out w3 b B3.out D3.out).mono ?_); (rintro e w4 ⟨cb, rfl, q1, q2⟩)); have L4 := hid_of q1; have B4 := hid_of (B3.out.trans (q2.mono (Nat.le_trans HLB.out B3.out.size))); clear q1 q2)
        | (go_at_call 18; ((with_reducible refine (CRM.out w4 cb b 1 0 (newF L z) [] HZ0.out L4.out).mono ?_); (rintro e w5 ⟨rfl, q2⟩)); have L5 := hid_of (L4.out.bel0 q2); have B5 := hid_of (B4.out.trans (q2.mono (Nat.le_trans HLB.out B4.out.size))); clear q2)
        | (go_at_call 18; ((with_reducible refine (CRM.out w5 cb b 1 0 (newF L z) [] HZ0.out L5.out).mono ?_); (rintro e w6 ⟨rfl, q2⟩)); have L6 := hid_of (L5.out.bel0 q2); have B6 := hid_of (B5.out.trans (q2.mono (Nat.le_trans HLB.out B5.out.size))); clear q2)
        | (go_at_call 22; ((with_reducible refine (CS1.out w6 cb b B6.out L6.out).mono ?_); (rintro e w7 ⟨rfl, q1, q2⟩)); have L7 := hid_of q1; have B7 := hid_of (B6.out.trans q2); clear q1 q2)
        | (go_at_call 25; ((with_reducible refine (CFL.out w7 cb b i HI64.out B7.out L7.out).mono ?_); (rintro e w8 ⟨rfl, q1, q2⟩)); have L8 := hid_of q1; have B8 := hid_of (B7.out.trans q2); clear q1 q2)
        | (go_at_call 22; ((with_reducible refine (CS2.out w8 cb b B8.out L8.out).mono ?_); (rintro e w9 ⟨rfl, q1, q2⟩)); have D9 := hid_of q1; have B9 := hid_of (B8.out.trans q2); clear q1 q2)
        | (go_at_call 28; ((with_reducible refine (CCR.out w9 b B9.out D9.out).mono ?_); (rintro e wA ⟨rfl, q1, q2⟩)); have DA := hid_of q1; have BA := hid_of (B9.out.trans q2); clear q1 q2)
        | (go_at_call 12; ((with_reducible refine (CSC.out wA b _ HLA.out DA.out).mono ?_); (rintro e wB ⟨rfl, q2⟩)); have DB := hid_of (DA.out.bel0 q2); have BB := hid_of (BA.out.trans (q2.mono (Nat.le_trans HLB.out BA.out.size))); clear q2)
        | (go_at_call 14; ((with_reducible refine (CO2.out wB b BB.out DB.out).mono ?_); (rintro e wC ⟨ob, rfl, q1, q2⟩)); have LC := hid_of q1; have BC := hid_of (BB.out.trans (q2.mono (Nat.le_trans HLB.out BB.out.size))); clear q1 q2)
        | (go_at_call 15; ((with_reducible refine (CLD.out wC ob b LC.out).mono ?_); (rintro e wD ⟨xo, xk, xc, rfl, q1, q2⟩)); have BD := hid_of (BC.out.trans (q2.mono (Nat.le_trans HLB.out BC.out.size))); have cx := conv_lies (lies_of q1); rw [← HSB.out] at cx; have ca := conv_lies (lies_of (HA.out wD BD.out).1); rw [← HSA.out] at ca; have cbb := conv_lies (lies_of (HBB.out wD BD.out).1); rw [← HSB.out] at cbb; clear q1 q2))
      go_ret
      exact ⟨rfl, BD.out⟩
    · have HRA : RngM A.2 := arng (rng_fail HR1.out i)
      have HLT := hid_of (show i + 1 ≤ 12 from by
        rcases Nat.lt_or_ge i 12 with h | h
        · exact h
        · exact absurd (by rw [hA]; exact HCNT.out i (by omega) h) hok)
      have htorn := HTORN.out i (by omega) (by rw [← hA]; simpa using hok) kp
      rw [← hA] at htorn
      rcases htorn with hnw | hnw
      · have CS2 := hid_of (fun (X : World) (cb b : Nat) (h : Below B w X) (d : LV B T X cb b (failF M1 i) 1 n 0 la 1) => show Calls Tryd.prog 22 #[.pointer (some ⟨cb, 0, none⟩), .slice a1 n1 c1] X (fun e w' => e = .returned (.int .i64 8) ∧ DR B T w' b A.2 ∧ Below B X w') from by
          have hz := fz i
          have h9 := d.save_bad (HTR.out X h.size) (HBB.out X h) HBY.out (by rw [hz]; exact zA) (by unfold maxG; omega) (HG.out X h) zC (by omega) (by rw [hz, show tgF 1 n 0 = 1 + n from rfl, show 1 + 1 = 2 from rfl, ← hA]; simpa using hok)
          rw [hz, show tgF 1 n 0 = 1 + n from rfl, show 1 + 1 = 2 from rfl, ← hA] at h9
          exact h9.mono fun e w' ⟨q1, q2, q3, _⟩ => ⟨q1, q2.st.disk, q3⟩)
        have CO2 := hid_of (hopen HRA la 1 0 hnw)
        have HLD := hid_of True.intro
        have CLD := hid_of (fun (X : World) (cb b : Nat) (h : LV B T X cb b (crashF A.2 kp) 1 n 0 la 1) => show Calls Tryd.prog 15 #[.pointer (some ⟨cb, 0, none⟩)] X (fun e w' => ∃ x k c, e = .returned (.tuple #[.slice x k c, .int .i64 1]) ∧ Rd w' (.slice x k c) (by8 la) ∧ Below X.heap.size X w') from h.st.load.mono fun e w' ⟨x, k, c, q1, q2, q3⟩ => ⟨x, k, c, q1, q2.1, q3⟩)
        clear hok hA az al aln acc arng fz fl z1 z2 z3 z4 z5 z6 z7 z8 z9 zA zB zC hopen
        go_wp2_with (first
          | (go_at_call 11; ((with_reducible refine (CMK.out wr hb.out).mono ?_); (rintro e w2 ⟨b, rfl, q1, q2⟩)); have D2 := hid_of q1; have B2 := hid_of (hb.out.trans q2); clear q1 q2)
          | (go_at_call 12; ((with_reducible refine (CSC.out w2 b (newF L z) HL0.out D2.out).mono ?_); (rintro e w3 ⟨rfl, q2⟩)); have D3 := hid_of (D2.out.bel0 q2); have B3 := hid_of (B2.out.trans (q2.mono (Nat.le_trans HLB.out B2.out.size))); clear q2)
          | (go_at_call 14; ((with_reducible refine (COP.out w3 b B3.out D3.out).mono ?_); (rintro e w4 ⟨cb, rfl, q1, q2⟩)); have L4 := hid_of q1; have B4 := hid_of (B3.out.trans (q2.mono (Nat.le_trans HLB.out B3.out.size))); clear q1 q2)
          | (go_at_call 18; ((with_reducible refine (CRM.out w4 cb b 1 0 (newF L z) [] HZ0.out L4.out).mono ?_); (rintro e w5 ⟨rfl, q2⟩)); have L5 := hid_of (L4.out.bel0 q2); have B5 := hid_of (B4.out.trans (q2.mono (Nat.le_trans HLB.out B4.out.size))); clear q2)
          | (go_at_call 18; ((with_reducible refine (CRM.out w5 cb b 1 0 (newF L z) [] HZ0.out L5.out).mono ?_); (rintro e w6 ⟨rfl, q2⟩)); have L6 := hid_of (L5.out.bel0 q2); have B6 := hid_of (B5.out.trans (q2.mono (Nat.le_trans HLB.out B5.out.size))); clear q2)
          | (go_at_call 22; ((with_reducible refine (CS1.out w6 cb b B6.out L6.out).mono ?_); (rintro e w7 ⟨rfl, q1, q2⟩)); have L7 := hid_of q1; have B7 := hid_of (B6.out.trans q2); clear q1 q2)
          | (go_at_call 25; ((with_reducible refine (CFL.out w7 cb b i HI64.out B7.out L7.out).mono ?_); (rintro e w8 ⟨rfl, q1, q2⟩)); have L8 := hid_of q1; have B8 := hid_of (B7.out.trans q2); clear q1 q2)
          | (go_at_call 22; ((with_reducible refine (CS2.out w8 cb b B8.out L8.out).mono ?_); (rintro e w9 ⟨rfl, q1, q2⟩)); have D9 := hid_of q1; have B9 := hid_of (B8.out.trans q2); clear q1 q2)
          | (go_at_call 28; ((with_reducible refine (CCR.out w9 b B9.out D9.out).mono ?_); (rintro e wA ⟨rfl, q1, q2⟩)); have DA := hid_of q1; have BA := hid_of (B9.out.trans q2); clear q1 q2)
          | (go_at_call 12; ((with_reducible refine (CSC.out wA b _ HLA.out DA.out).mono ?_); (rintro e wB ⟨rfl, q2⟩)); have DB := hid_of (DA.out.bel0 q2); have BB := hid_of (BA.out.trans (q2.mono (Nat.le_trans HLB.out BA.out.size))); clear q2)
          | (go_at_call 14; ((with_reducible refine (CO2.out wB b BB.out DB.out).mono ?_); (rintro e wC ⟨ob, rfl, q1, q2⟩)); have LC := hid_of q1; have BC := hid_of (BB.out.trans (q2.mono (Nat.le_trans HLB.out BB.out.size))); clear q1 q2)
          | (go_at_call 15; ((with_reducible refine (CLD.out wC ob b LC.out).mono ?_); (rintro e wD ⟨xo, xk, xc, rfl, q1, q2⟩)); have BD := hid_of (BC.out.trans (q2.mono (Nat.le_trans HLB.out BC.out.size))); have cx := conv_lies (lies_of q1); rw [← HSA.out] at cx; have ca := conv_lies (lies_of (HA.out wD BD.out).1); rw [← HSA.out] at ca; have cbb := conv_lies (lies_of (HBB.out wD BD.out).1); rw [← HSB.out] at cbb; clear q1 q2))
        go_roundw
        case rel => exact ⟨i + 1, by go_num, HLT.out, BD⟩
        case measure => simp [intOf]; omega
      · have CS2 := hid_of (fun (X : World) (cb b : Nat) (h : Below B w X) (d : LV B T X cb b (failF M1 i) 1 n 0 la 1) => show Calls Tryd.prog 22 #[.pointer (some ⟨cb, 0, none⟩), .slice a1 n1 c1] X (fun e w' => e = .returned (.int .i64 8) ∧ DR B T w' b A.2 ∧ Below B X w') from by
          have hz := fz i
          have h9 := d.save_bad (HTR.out X h.size) (HBB.out X h) HBY.out (by rw [hz]; exact zA) (by unfold maxG; omega) (HG.out X h) zC (by omega) (by rw [hz, show tgF 1 n 0 = 1 + n from rfl, show 1 + 1 = 2 from rfl, ← hA]; simpa using hok)
          rw [hz, show tgF 1 n 0 = 1 + n from rfl, show 1 + 1 = 2 from rfl, ← hA] at h9
          exact h9.mono fun e w' ⟨q1, q2, q3, _⟩ => ⟨q1, q2.st.disk, q3⟩)
        have CO2 := hid_of (hopen HRA lb 2 1 hnw)
        have HLD := hid_of True.intro
        have CLD := hid_of (fun (X : World) (cb b : Nat) (h : LV B T X cb b (crashF A.2 kp) 1 n 1 lb 2) => show Calls Tryd.prog 15 #[.pointer (some ⟨cb, 0, none⟩)] X (fun e w' => ∃ x k c, e = .returned (.tuple #[.slice x k c, .int .i64 2]) ∧ Rd w' (.slice x k c) (by8 lb) ∧ Below X.heap.size X w') from h.st.load.mono fun e w' ⟨x, k, c, q1, q2, q3⟩ => ⟨x, k, c, q1, q2.1, q3⟩)
        clear hok hA az al aln acc arng fz fl z1 z2 z3 z4 z5 z6 z7 z8 z9 zA zB zC hopen
        go_wp2_with (first
          | (go_at_call 11; ((with_reducible refine (CMK.out wr hb.out).mono ?_); (rintro e w2 ⟨b, rfl, q1, q2⟩)); have D2 := hid_of q1; have B2 := hid_of (hb.out.trans q2); clear q1 q2)
          | (go_at_call 12; ((with_reducible refine (CSC.out w2 b (newF L z) HL0.out D2.out).mono ?_); (rintro e w3 ⟨rfl, q2⟩)); have D3 := hid_of (D2.out.bel0 q2); have B3 := hid_of (B2.out.trans (q2.mono (Nat.le_trans HLB.out B2.out.size))); clear q2)
          | (go_at_call 14; ((with_reducible refine (COP.out w3 b B3.out D3.out).mono ?_); (rintro e w4 ⟨cb, rfl, q1, q2⟩)); have L4 := hid_of q1; have B4 := hid_of (B3.out.trans (q2.mono (Nat.le_trans HLB.out B3.out.size))); clear q1 q2)
          | (go_at_call 18; ((with_reducible refine (CRM.out w4 cb b 1 0 (newF L z) [] HZ0.out L4.out).mono ?_); (rintro e w5 ⟨rfl, q2⟩)); have L5 := hid_of (L4.out.bel0 q2); have B5 := hid_of (B4.out.trans (q2.mono (Nat.le_trans HLB.out B4.out.size))); clear q2)
          | (go_at_call 18; ((with_reducible refine (CRM.out w5 cb b 1 0 (newF L z) [] HZ0.out L5.out).mono ?_); (rintro e w6 ⟨rfl, q2⟩)); have L6 := hid_of (L5.out.bel0 q2); have B6 := hid_of (B5.out.trans (q2.mono (Nat.le_trans HLB.out B5.out.size))); clear q2)
          | (go_at_call 22; ((with_reducible refine (CS1.out w6 cb b B6.out L6.out).mono ?_); (rintro e w7 ⟨rfl, q1, q2⟩)); have L7 := hid_of q1; have B7 := hid_of (B6.out.trans q2); clear q1 q2)
          | (go_at_call 25; ((with_reducible refine (CFL.out w7 cb b i HI64.out B7.out L7.out).mono ?_); (rintro e w8 ⟨rfl, q1, q2⟩)); have L8 := hid_of q1; have B8 := hid_of (B7.out.trans q2); clear q1 q2)
          | (go_at_call 22; ((with_reducible refine (CS2.out w8 cb b B8.out L8.out).mono ?_); (rintro e w9 ⟨rfl, q1, q2⟩)); have D9 := hid_of q1; have B9 := hid_of (B8.out.trans q2); clear q1 q2)
          | (go_at_call 28; ((with_reducible refine (CCR.out w9 b B9.out D9.out).mono ?_); (rintro e wA ⟨rfl, q1, q2⟩)); have DA := hid_of q1; have BA := hid_of (B9.out.trans q2); clear q1 q2)
          | (go_at_call 12; ((with_reducible refine (CSC.out wA b _ HLA.out DA.out).mono ?_); (rintro e wB ⟨rfl, q2⟩)); have DB := hid_of (DA.out.bel0 q2); have BB := hid_of (BA.out.trans (q2.mono (Nat.le_trans HLB.out BA.out.size))); clear q2)
          | (go_at_call 14; ((with_reducible refine (CO2.out wB b BB.out DB.out).mono ?_); (rintro e wC ⟨ob, rfl, q1, q2⟩)); have LC := hid_of q1; have BC := hid_of (BB.out.trans (q2.mono (Nat.le_trans HLB.out BB.out.size))); clear q1 q2)
          | (go_at_call 15; ((with_reducible refine (CLD.out wC ob b LC.out).mono ?_); (rintro e wD ⟨xo, xk, xc, rfl, q1, q2⟩)); have BD := hid_of (BC.out.trans (q2.mono (Nat.le_trans HLB.out BC.out.size))); have cx := conv_lies (lies_of q1); rw [← HSB.out] at cx; have ca := conv_lies (lies_of (HA.out wD BD.out).1); rw [← HSA.out] at ca; have cbb := conv_lies (lies_of (HBB.out wD BD.out).1); rw [← HSB.out] at cbb; clear q1 q2))
        go_roundw
        case rel => exact ⟨i + 1, by go_num, HLT.out, BD⟩
        case measure => simp [intOf]; omega
theorem every_all (AW : ∀ w, Sh.Glob w → Calls Tryd.prog 10 #[] w (BoP true w)) (s : Int) (a0 : Option Addr) (n0 c0 : Nat) (a1 : Option Addr) (n1 c1 : Nat) (a2 : Option Addr) (n2 c2 : Nat) (z1 z2 : List Int) (kp : List Bool) (w : World) (hG : Sh.Glob w) (ws : (Lit.int .u8 s).wf = true) (h1 : IsRow .u8 w a0 n0 c0 z1) (h2 : IsRow .u8 w a1 n1 c1 z2) (h3 : Rd w (.slice a2 n2 c2) (bls kp)) :
    Calls Tryd.prog 7 #[.int .u8 s, .slice a0 n0 c0, .slice a1 n1 c1, .slice a2 n2 c2] w (BoP true w) := by
  obtain ⟨s, rfl, hs⟩ := u8_num ws
  obtain ⟨la, ra, ba⟩ := row_in h1
  obtain ⟨lb, rb, bb⟩ := row_in h2
  exact every_law AW s hs a0 n0 c0 la a1 n1 c1 lb a2 n2 c2 kp w hG ra ba rb bb h3
end Go.Proofs.YtlffiebnieakjaaDoor

/- What the two listed variables read as, and the door's own heap. -/
namespace Go.Proofs.YtlffiebnieakjaaDoor.Sh
open Go.ChangeShapes Go.WideShapes Go.ChangeAt Go.RowKit

def laid2 : List (String × DataW Unit) := [("plexus/sha256.initial", Rows.laid_plexus_sha256_initial), ("plexus/sha256.constants", Rows.laid_plexus_sha256_constants)]
theorem gIni : Tryd.prog.globalNamed "plexus/sha256.initial" = some 0 := by kernel_rfl
theorem gKon : Tryd.prog.globalNamed "plexus/sha256.constants" = some 1 := by kernel_rfl
theorem tIni : (Tryd.prog.globals[0]?).map (·.type) = some 94 := by kernel_rfl
theorem tKon : (Tryd.prog.globals[1]?).map (·.type) = some 102 := by kernel_rfl
theorem cu32 : Tryd.prog.cellsOf 93 = 1 := by kernel_rfl

theorem arr_of_trod {H : Type} {enc : TypeId × Value → H} {P : Program} {w : World} {base : Nat} {sp : Nat → Bool} {held : Bool} {fuel n : Nat} {t e : TypeId} {cs : List Value} {l : List Int} {p : List MemPlace}
    (ht : P.underlying t = some (.array n e)) (he : P.underlying e = some (.int .u32)) (c1 : P.cellsOf e = 1) (ct : P.cellsOf t = n)
    (h : DataW.trod enc P w base sp held fuel t cs = some (.agg (l.map fun n => .lit (.int .u32 n)), p)) : cs = l.map (Value.int .u32) := by
  obtain ⟨xs, m, _, hx, hlen, hn, hel⟩ := DataW.trod_array ht h
  rw [ct] at hlen
  simp only [Prod.mk.injEq, DataW.agg.injEq] at hx
  have hl : l.length = n := by have := congrArg List.length hx.1; simp at this; omega
  apply List.ext_getElem?
  intro i
  by_cases hi : i < n
  · have h1 := hel i hi
    rw [c1, Nat.mul_one] at h1
    have hxi : xs[i]? = some xs[i] := List.getElem?_eq_getElem (by omega)
    rw [hxi] at h1
    obtain ⟨k, e1, e2, _⟩ := DataW.trod_int he h1
    have h2 : (l.map fun n => (DataW.lit (.int .u32 n) : DataW H))[i]? = (xs.map (·.1))[i]? := by rw [hx.1]
    rw [List.getElem?_map, List.getElem?_map, hxi, List.getElem?_eq_getElem (show i < l.length by omega), e2] at h2
    simp only [Option.map_some, Option.some.injEq, DataW.lit.injEq, Lit.int.injEq, true_and] at h2
    rw [List.getElem?_map, List.getElem?_eq_getElem (show i < l.length by omega), Option.map_some, h2]
    have h3 : ((cs.drop i).take 1)[0]? = some (.int .u32 k) := by rw [e1]; rfl
    rw [List.getElem?_take_of_lt (by omega), List.getElem?_drop] at h3
    exact h3
  · rw [List.getElem?_eq_none (by omega), List.getElem?_eq_none (by simp; omega)]

theorem glob_of_laid {W : World} (h : laidMetH Tryd.prog laid2 W) : Glob W := by
  rw [MakeChecks.laidMetH_plain _ _ _ (by kernel_rfl)] at h
  obtain ⟨ps, ⟨g0, t0, cs0, f0, p0, q0, hg0, ht0, hv0, hd0, ⟨g1, t1, cs1, f1, p1, q1, hg1, ht1, hv1, hd1, _, _⟩, _⟩, _, _⟩ := h
  obtain rfl := Option.some.inj (gIni.symm.trans hg0)
  obtain rfl := Option.some.inj (gKon.symm.trans hg1)
  obtain rfl := Option.some.inj (tIni.symm.trans ht0)
  obtain rfl := Option.some.inj (tKon.symm.trans ht1)
  have e0 : cs0.toList = INI.map (Value.int .u32) := arr_of_trod Tryd.underlying94 Tryd.underlying93 cu32 (by kernel_rfl) hd0
  have e1 : cs1.toList = KON.map (Value.int .u32) := arr_of_trod Tryd.underlying102 Tryd.underlying93 cu32 (by kernel_rfl) hd1
  refine ⟨fun j v hv => ?_, fun j v hv => ?_⟩
  · rw [Nat.zero_add, World.var?_cell hg0 hv0 j, ← Array.getElem?_toList, e0]; exact hv
  · rw [Nat.zero_add, World.var?_cell hg1 hv1 j, ← Array.getElem?_toList, e1]; exact hv

set_option maxRecDepth 100000 in
/-- The door's own heap meets the condition: three closed facts. -/
theorem door_met (os : Os) (args : Array Value) : laidMetH Tryd.prog laid2 ((World.doorLaid Tryd.prog 4000 os).forCall (fun _ _ => 0) ⟨#[], args, []⟩).memory :=
  laidMetH_of_parts3 (fuel := 8) (laidMet_of_run' 8 (by kernel_rfl) (by kernel_rfl)) (by kernel_rfl) (by kernel_rfl)
end Go.Proofs.YtlffiebnieakjaaDoor.Sh

/- Checkpoint: the chapter's example. No condition but that the variables are as laid. -/
namespace Go.Proofs.YtlffiebnieakjaaDoor
open Go.RowKit
set_option maxRecDepth 100000
set_option maxHeartbeats 3200000

theorem awake_any (w : World) (hG : Sh.Glob w) : Calls Tryd.prog 10 #[] w (BoP true w) := by
  have CN := hid_of (show Calls Tryd.prog 29 #[.int .i64 8, .int .i64 64] w fun e w' => ∃ b, e = .returned (.tuple #[.pointer (some ⟨b, 0, none⟩), .int .i64 0]) ∧ DR w.heap.size (fun k => k < w.heap.size) w' b (newF 8 64) ∧ Below w.heap.size w w' from dr_new 8 64 (by decide) (by decide) (by decide) (by decide) w)
  obtain ⟨B, hB⟩ : ∃ B, B = w.heap.size := ⟨_, rfl⟩
  have hB2 : 2 ≤ B := by rw [hB]; exact hG.two
  obtain ⟨T, hT⟩ : ∃ T : Nat → Prop, T = fun k => k < B := ⟨_, rfl⟩
  have HTR := hid_of (fun (X : World) (h : Below B w X) => show TR B T X from by rw [hT]; have h9 := tr_new (w := w) (w' := X) (by have := h.size; omega); rwa [← hB] at h9)
  have HG := hid_of (fun (X : World) (h : Below B w X) => hG.bel h hB2)
  obtain ⟨M, hM⟩ : ∃ M, M = newF 8 64 := ⟨_, rfl⟩
  have hsz : M.sz = 64 := by rw [hM]; rfl
  have hln : M.secs.length = 8 := by rw [hM, new_secs]
  have CO := hid_of (fun (X : World) (b : Nat) (h : Below B w X) (d : DR B T X b M) => show Calls Tryd.prog 14 #[.pointer (some ⟨b, 0, none⟩), .int .i64 0, .int .i64 8] X (fun e w' => ∃ cb, e = .returned (.tuple #[.pointer (some ⟨cb, 0, none⟩), .int .i64 0]) ∧ LV B T w' cb b M 0 4 1 [] 0 ∧ Below X.heap.size X w') from by
    have h9 := lv_open (f := 0) (ct := 8) d (HTR.out X h) (by rw [hln]; omega) (by rw [hsz]; omega) (by rw [hsz]; omega) (by rw [hM]; rfl) (by rw [hM]; rfl) (by rw [hM]; exact rng_new 8 64) (HG.out X h)
    rw [show nwD M 0 (8 / 2) = ([], 0, 1) by rw [hM]; exact new_nwD 8 64 0 4 (by decide)] at h9
    exact h9)
  have CRM := hid_of (fun (X : World) (cb b : Nat) (h : LV B T X cb b M 0 4 1 [] 0) => show Calls Tryd.prog 18 #[.pointer (some ⟨cb, 0, none⟩)] X (fun e w' => e = .returned (.int .i64 192) ∧ Below X.heap.size X w') from by
    have h9 := h.st.room
    rw [hsz] at h9
    exact h9)
  obtain ⟨Z, hZ⟩ : ∃ Z : List Int, Z = List.replicate 100 0 := ⟨_, rfl⟩
  have hnf := nf_save (M := M) (f := 0) (n := 4) (g := 1) (b := Z) (by rw [hM]; exact new_nf 8 64) (by rw [hln]; omega) (by omega) (by rw [hsz]; omega) (by rw [hZ, hsz, List.length_replicate]; omega)
  obtain ⟨M', hM'⟩ : ∃ M', M' = (saveF (headK Sh.digest M.sz Z 1) M 0 Z).2 := ⟨_, rfl⟩
  have CSV := hid_of (fun (T' : Nat → Prop) (X : World) (cb b : Nat) (a : Option Addr) (hX : Below B w X) (h : LV B T' X cb b M 0 4 1 [] 0) (t : TR B T' X) (hin : CR T' X (.slice a 100 100) Z) => show Calls Tryd.prog 22 #[.pointer (some ⟨cb, 0, none⟩), .slice a 100 100] X (fun e w' => e = .returned (.int .i64 0) ∧ LV B T' w' cb b M' 0 4 0 Z 1 ∧ Below B X w' ∧ Keeps T' X w') from by
    rw [hM']
    exact h.save_ok t hin (by rw [hZ]; exact byt_zero 100) (by rw [hZ, hsz, List.length_replicate]; omega) (by unfold maxG; omega) (HG.out X hX) hB2 (by omega) hnf.1)
  have CDN := hid_of (fun (T' : Nat → Prop) (X : World) (cb b : Nat) (h : LV B T' X cb b M' 0 4 0 Z 1) => h.st.down)
  have CLD := hid_of (fun (T' : Nat → Prop) (X : World) (cb b : Nat) (h : LV B T' X cb b M' 0 4 0 Z 1) => show Calls Tryd.prog 15 #[.pointer (some ⟨cb, 0, none⟩)] X (fun e w' => ∃ x k c, e = .returned (.tuple #[.slice x k c, .int .i64 1]) ∧ k = 100 ∧ Below X.heap.size X w') from h.st.load.mono fun e w' ⟨x, k, c, q1, q2, q3⟩ => ⟨x, k, c, q1, by have h9 := (rd_cut q2.1).1; rw [by8_length] at h9; rw [h9]; show Z.length = 100; rw [hZ]; rfl, q3⟩)
  obtain ⟨hd, hhd⟩ : ∃ hd, hd = headK Sh.digest 64 Z 1 := ⟨_, rfl⟩
  have CRD := hid_of (fun (T' : Nat → Prop) (X : World) (cb b : Nat) (h : LV B T' X cb b M' 0 4 0 Z 1) => show Calls Tryd.prog 31 #[.pointer (some ⟨b, 0, none⟩), .int .i64 0] X (fun e w' => RdQ hd 0 X e w') from by
    have h9 := h.st.disk.read 0 ⟨by decide, by decide⟩ (by rw [h.cln]; exact Nat.zero_le _)
    have hlen : 0 < M'.secs.length := by have := h.reg; omega
    obtain ⟨r1, r2⟩ := read_flat h.on (s := 0) hlen
    have r1 : (readF M' 0).1 = (flat M').secs.getD 0 [] := r1
    have r2 : (readF M' 0).2 = 0 := r2
    rw [r1, r2, flat_clean h.cln] at h9
    have hs := h.nw
    unfold nwD at hs
    have e0 := (newest_0 hs []).1
    rw [slD_clean h.cln] at e0
    have e1 := slot_hd e0
    rw [sec_len h.ok hlen, show M'.sz = 64 by rw [hM', save_sz, hsz], ← hhd] at e1
    rw [e1] at h9
    exact h9)
  have hdb : Byt hd := by rw [hhd]; exact headK_byt Z 1 (by decide)
  have CHD := hid_of (fun (X : World) (a : Option Addr) (r : Rd X (.slice a 100 100) (by8 Z)) => show Calls Tryd.prog 32 #[.slice a 100 100, .int .i64 1, .int .i64 64] X (fun e w' => ∃ x c, e = .returned (.slice x 64 c) ∧ Ow 5 X.heap.size X w' (.slice x 64 c) (by8 hd)) from by
    rw [hhd]
    exact rheader_any a 100 100 Z 1 64 X r (by rw [hZ]; exact byt_zero 100) (by rw [hZ]; simp) (by decide) (by decide))
  have MK : ∀ X : World, (Instr.makeSlice 32 (.int .i64 100) (.int .i64 100)).run Tryd.prog X = .ok (.slice (some ⟨X.heap.size, 0, none⟩) 100 100) (X.alloc (.cells (by8 Z).toArray 5)) := fun X => by
    rw [hZ]; exact MK8 100 (by decide) X
  have HZL := hid_of (show Z.length = 100 by rw [hZ]; rfl)
  obtain ⟨S, hS⟩ : ∃ S, S = strOfNums hd := ⟨_, rfl⟩
  have HCV := hid_of (fun (X : World) (v : Value) (r : Rd X v (by8 hd)) => show (convert 32 9 v).run Tryd.prog X = .ok (.string S) X from by rw [hS]; exact conv_lies (lies_of r))
  have HDL := hid_of (show hd.length = 64 by rw [hhd]; exact headK_len Sh.digest_length (by decide) _ _)
  rw [show BoP true w = fun e w' => e = .returned (.bool true) ∧ Below B w w' from by rw [hB]]
  rw [← hB] at CN
  have CN := hid_of (show Calls Tryd.prog 29 #[.int .i64 8, .int .i64 64] w fun e w' => ∃ b, e = .returned (.tuple #[.pointer (some ⟨b, 0, none⟩), .int .i64 0]) ∧ DR B T w' b M ∧ Below B w w' from by rw [hT, hM]; exact CN.out)
  have HB := hid_of (show B ≤ w.heap.size by omega)
  clear hB hB2 hT hM hsz hln hZ hnf hM' hhd hdb hG hS
  have hss : (S.toList == S.toList) = true := beq_self_eq_true _
  go_enter Tryd.func10, Tryd.ntmps10
  go_wp2_with (first
    | (go_at_call 29; ((with_reducible refine (CN.out).mono ?_); (rintro e w1 ⟨b, rfl, q1, q2⟩)); have D1 := hid_of q1; have B1 := hid_of q2; clear q1 q2)
    | (go_at_call 14; (((with_reducible refine (CO.out w1 b B1.out D1.out).mono ?_); (rintro e w2 ⟨cb, rfl, q1, q2⟩)); have L2 := hid_of q1; have B2 := hid_of (B1.out.trans (q2.mono (Nat.le_trans HB.out B1.out.size))); clear q1 q2))
    | (go_at_call 18; (((with_reducible refine (CRM.out w2 cb b L2.out).mono ?_); (rintro e w3 ⟨rfl, q2⟩)); have L3 := hid_of (L2.out.bel0 q2); have B3 := hid_of (B2.out.trans (q2.mono (Nat.le_trans HB.out B2.out.size))); clear q2))
    | (go_at_call 22; ((have L4 := L3.out.bel (bel_alloc w3 (.cells (by8 Z).toArray 5)); have B4 := B3.out.trans ((bel_alloc w3 (.cells (by8 Z).toArray 5)).mono (Nat.le_trans HB.out B3.out.size)); (with_reducible refine (CSV.out _ _ cb b _ B4 L4 ((HTR.out w3 B3.out).next (bel_alloc w3 (.cells (by8 Z).toArray 5)).size) (cr_sec HZL.out (by decide) (Nat.le_refl _) (heap_alloc_new w3 _))).mono ?_); (rintro e w5 ⟨rfl, q1, q2, q3⟩)); have L5 := hid_of q1; have B5 := hid_of (B4.trans q2); clear q1 q2 q3 L4 B4))
    | (go_at_call 21; (((with_reducible refine (CDN.out _ w5 cb b L5.out).mono ?_); (rintro e w6 ⟨rfl, q2⟩)); have L6 := hid_of (L5.out.bel0 q2); have B6 := hid_of (B5.out.trans (q2.mono (Nat.le_trans HB.out B5.out.size))); clear q2))
    | (go_at_call 15; (((with_reducible refine (CLD.out _ w6 cb b L6.out).mono ?_); (rintro e w7 ⟨x7, k7, c7, rfl, q1, q2⟩)); subst q1; have L7 := hid_of (L6.out.bel0 q2); have B7 := hid_of (B6.out.trans (q2.mono (Nat.le_trans HB.out B6.out.size))); clear q2))
    | (go_at_call 31; (((with_reducible refine (CRD.out _ w7 cb b L7.out).mono ?_); (rintro e w8 ⟨x8, k8, c8, rfl, q1, q2⟩)); have R8 := hid_of q1; have B8 := hid_of (B7.out.trans (q2.mono (Nat.le_trans HB.out B7.out.size))); clear q1 q2)))
  have bal := bel_alloc w8 (.cells (by8 Z).toArray 5)
  have bald : Below w8.heap.size w8 (w8.alloc (.cells (by8 Z).toArray 5)).drew := bal.drew
  have H8a := hid_of (R8.out.at bal)
  have H8b := hid_of (R8.out.at bald)
  have H8c := hid_of (R8.out.at (Below.refl w8.heap.size w8).drew)
  have B8a := hid_of (B8.out.trans (bald.mono (Nat.le_trans HB.out B8.out.size)))
  have RZ := hid_of (show Rd (w8.alloc (.cells (by8 Z).toArray 5)).drew (.slice (some ⟨w8.heap.size, 0, none⟩) 100 100) (by8 Z) from (rd_blk (heap_alloc_new w8 _) HZL.out (by decide)).at (Below.refl _ _).drew)
  have HKC := hid_of (fun (X : World) (r : Rd X (.slice x8 k8 c8) (by8 hd)) => HCV.out X _ r)
  clear bal bald
  go_region_held_law (fun X => (convert 32 9 (.slice x8 k8 c8)).run Tryd.prog X = .ok (.string S) X) (exact HKC.out _ (Hid.out (by with_reducible assumption))) (first
    | (go_at_call 32; (((with_reducible refine (CHD.out _ _ RZ.out).mono ?_); (rintro e w9 ⟨x9, c9, rfl, q1⟩)); have B9 := hid_of (B8a.out.trans (q1.bel.mono (Nat.le_trans HB.out B8a.out.size))); have H9 := hid_of (H8b.out.at q1.bel); have c4 := HCV.out w9 _ (q1.rd (by rw [by8_length, HDL.out]; omega)); clear q1)))
  all_goals go_wp2
  all_goals go_ret
  all_goals exact ⟨rfl, B9.out⟩
end Go.Proofs.YtlffiebnieakjaaDoor
