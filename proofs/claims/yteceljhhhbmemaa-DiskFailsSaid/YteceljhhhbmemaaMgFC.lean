/- Texts in one: DsLw2, DgU2. -/
import Derived.Test.YteceljhhhbmemaaMgFB
set_option linter.unusedVariables false
set_option linter.unusedSimpArgs false
/- The law Fails. Bounds on sizes alone. -/
namespace Go.Proofs.Yteceljhhhbmemaa
open Go.RowKit
set_option maxRecDepth 100000
set_option maxHeartbeats 6400000

theorem stepF_go {M : DM} (h1 : M.off = false) (h2 : 0 < M.cnt) : stepF M = (true, { M with cnt := M.cnt - 1 }) := by
  rw [stepF, if_neg (by rw [h1]; simp; omega), if_pos h2]
theorem stepF_free {M : DM} (h1 : M.off = false) (h2 : M.cnt < 0) : stepF M = (true, M) := by
  rw [stepF, if_neg (by rw [h1]; simp; omega), if_neg (by omega)]
theorem stepF_no {M : DM} (h : M.off = true ∨ M.cnt = 0) : stepF M = (false, { M with off := true }) := by
  rw [stepF, if_pos h]
/-- Behind i operations of which k succeed. -/
def FInv (k : Int) (i : Nat) (M : DM) : Prop := M.sz = 16 ∧ M.secs.length = 3 ∧ M.cache.length ≤ i ∧ ((i : Int) ≤ k → M.off = false ∧ M.cnt = k - i) ∧ (k < (i : Int) → M.off = true)
def okI (k : Int) (i : Nat) : Int := if (i : Int) < k then 0 else 8
theorem finv_write {k : Int} {i : Nat} {M : DM} (h : FInv k i M) {s : Nat} (hs : s < 3) {l : List Int} (hl : l.length = 16) : FInv k (i + 1) (writeF M s l).2 ∧ (writeF M s l).1 = okI k i := by
  obtain ⟨h1, h2, h3, h4, h5⟩ := h
  have hf : M.fits s = true := by simp only [DM.fits, decide_eq_true_eq, h2]; omega
  have hn : ¬(M.fits s = false ∨ l.length ≠ M.sz) := by rw [hf, hl, h1]; simp
  unfold writeF
  rw [if_neg hn]
  by_cases hi : (i : Int) < k
  · obtain ⟨q1, q2⟩ := h4 (by omega)
    rw [stepF_go q1 (by omega)]
    refine ⟨⟨h1, h2, ?_, fun _ => ⟨q1, ?_⟩, fun h => by omega⟩, ?_⟩
    · show (M.cache ++ [_]).length ≤ i + 1
      simp; omega
    · show M.cnt - 1 = k - ((i + 1 : Nat) : Int)
      omega
    · rw [okI, if_pos hi]; rfl
  · have hno : M.off = true ∨ M.cnt = 0 := by
      by_cases e : (i : Int) ≤ k
      · exact Or.inr (by have := (h4 e).2; omega)
      · exact Or.inl (h5 (by omega))
    rw [stepF_no hno]
    exact ⟨⟨h1, h2, by show M.cache.length ≤ i + 1; omega, fun h => by omega, fun _ => rfl⟩, by rw [okI, if_neg hi]; rfl⟩
theorem finv_sync {k : Int} {i : Nat} {M : DM} (h : FInv k i M) : FInv k (i + 1) (syncF M).2 ∧ (syncF M).1 = okI k i := by
  obtain ⟨h1, h2, h3, h4, h5⟩ := h
  unfold syncF
  by_cases hi : (i : Int) < k
  · obtain ⟨q1, q2⟩ := h4 (by omega)
    rw [stepF_go q1 (by omega)]
    refine ⟨⟨h1, ?_, ?_, fun _ => ⟨q1, ?_⟩, fun h => by omega⟩, ?_⟩
    · show (putF M.secs M.cache).length = 3
      rw [putF_len]; exact h2
    · show 0 ≤ i + 1
      omega
    · show M.cnt - 1 = k - ((i + 1 : Nat) : Int)
      omega
    · rw [okI, if_pos hi]; rfl
  · have hno : M.off = true ∨ M.cnt = 0 := by
      by_cases e : (i : Int) ≤ k
      · exact Or.inr (by have := (h4 e).2; omega)
      · exact Or.inl (h5 (by omega))
    rw [stepF_no hno]
    exact ⟨⟨h1, h2, by show M.cache.length ≤ i + 1; omega, fun h => by omega, fun _ => rfl⟩, by rw [okI, if_neg hi]; rfl⟩
theorem finv_off {k : Int} {i : Nat} {M : DM} (h : FInv k (i + 1) M) : M.off = decide (okI k i ≠ 0) ∧ (readF M 0).2 = okI k i ∧ ∀ l, writeF M 3 l = (1, M) := by
  obtain ⟨h1, h2, h3, h4, h5⟩ := h
  have hf : M.fits 0 = true := by simp only [DM.fits, decide_eq_true_eq, h2]; omega
  have h3f : M.fits 3 = false := by simp only [DM.fits, decide_eq_false_iff_not, h2]; omega
  have hw : ∀ l, writeF M 3 l = (1, M) := fun l => by rw [writeF, if_pos (Or.inl h3f)]
  by_cases hi : (i : Int) < k
  · obtain ⟨q1, _⟩ := h4 (by omega)
    have e : okI k i = 0 := by rw [okI, if_pos hi]
    exact ⟨by rw [q1, e]; decide, by rw [readF, hf, q1, e]; rfl, hw⟩
  · have q1 := h5 (by omega)
    have e : okI k i = 8 := by rw [okI, if_neg hi]
    exact ⟨by rw [q1, e]; decide, by rw [readF, hf, q1, e]; rfl, hw⟩
theorem finv_start (n : Int) : FInv (max n 0) 0 (failF (newF 3 16) n) :=
  ⟨rfl, rfl, Nat.le_refl _, fun _ => ⟨rfl, by show max n 0 = max n 0 - ((0 : Nat) : Int); omega⟩, fun h => absurd h (by omega)⟩
/-- Behind the crash: writes that all succeed. -/
def GInv (j : Nat) (M : DM) : Prop := M.sz = 16 ∧ M.secs.length = 3 ∧ M.cache.length = j ∧ M.off = false ∧ M.cnt = -1
theorem ginv_start {k : Int} {i : Nat} {M : DM} (h : FInv k i M) : GInv 0 (crashF M []) := ⟨h.1, by show (keepF _ _ _ _).length = 3; rw [keepF_len]; exact h.2.1, rfl, rfl, rfl⟩
theorem ginv_write {j : Nat} {M : DM} (h : GInv j M) {l : List Int} (hl : l.length = 16) : GInv (j + 1) (writeF M 0 l).2 ∧ (writeF M 0 l).1 = 0 := by
  obtain ⟨h1, h2, h3, h4, h5⟩ := h
  have hf : M.fits 0 = true := by simp only [DM.fits, decide_eq_true_eq, h2]; omega
  rw [writeF, if_neg (by rw [hf, hl, h1]; simp), stepF_free h4 (by omega)]
  refine ⟨⟨h1, h2, ?_, h4, h5⟩, rfl⟩
  show (M.cache ++ [_]).length = j + 1
  simp [h3]
theorem fails_law (I : PI) (n : Int) (a : Option Addr) (len cap : Nat) (l : List Bool) (w : World) (w0 : (Lit.int .i64 n).wf = true) (w1 : Rd w (.slice a len cap) (bls l)) : Calls Try.prog 7 #[.int .i64 n, .slice a len cap] w (BoP true w) := by
  have rn := wf_d64 w0
  clear w0
  have AW := hid_of (fun w => awake_any I w)
  by_cases h30 : n > 30
  · have d0 : decide (n > 30) = true := by simpa using h30
    have d0' : decide (30 < n) = true := by simpa using h30
    clear h30 rn w1
    go_enter Try.func7, Try.ntmps7
    go_wp2_with (go_at_call 9; ((with_reducible refine (AW.out _).mono ?_); (rintro e w1 ⟨rfl, h1⟩); (have E1 := hid_of h1); clear h1))
    go_ret
    exact ⟨rfl, E1.out⟩
  have d0 : decide (n > 30) = false := by simpa using h30
  have d0' : decide (30 < n) = false := by simpa using h30
  have HR := hid_of (fun (X : World) (h : Below w.heap.size w X) => w1.at h)
  have HL : Hid (l.length = len) := hid_of (by have := (rd_cut w1).1; rw [bls_length] at this; exact this.symm)
  have hlc := (rd_cut w1).2
  obtain ⟨k, hk⟩ : ∃ k, k = max n 0 := ⟨_, rfl⟩
  have hkn : ∀ i : Nat, (i : Int) < n ↔ (i : Int) < k := fun i => by omega
  have HKN := hid_of hkn
  have CN : Hid (∀ X, Calls Try.prog 11 #[.int .i64 3, .int .i64 16] X fun e w' => ∃ b, e = .returned (.tuple #[.pointer (some ⟨b, 0, none⟩), .int .i64 0]) ∧ Lv I X.heap.size w'.heap.size w' b (newF 3 16) ∧ Below X.heap.size X w') := hid_of (fun X => (I.newY 3 16 (by omega) (by omega) (by omega) (by omega) X).mono fun e w' ⟨b, q1, q2, q3⟩ => ⟨b, q1, ⟨_, q2, fun k hk => hk⟩, q3⟩)
  have CB := hid_of (fun c X => block_any c X)
  have CF : Hid (∀ B c b X, Lv I B c X b (newF 3 16) → B ≤ X.heap.size → Calls Try.prog 24 #[.pointer (some ⟨b, 0, none⟩), .int .i64 n] X fun e w' => e = .returned (.tuple #[]) ∧ Lv I B w'.heap.size w' b (failF (newF 3 16) n) ∧ Below B X w') := hid_of (fun B c b X h hB => h.fail hB n rn)
  have HS := hid_of (show FInv k 0 (failF (newF 3 16) n) by rw [hk]; exact finv_start n)
  clear h30 rn w1 hk hkn
  go_enter Try.func7, Try.ntmps7
  go_wp2_with (first
    | (go_at_call 9; ((with_reducible refine (AW.out _).mono ?_); (rintro e w1 ⟨rfl, h1⟩); (have E1 := hid_of h1); clear h1))
    | (go_at_call 11; ((with_reducible refine (CN.out w1).mono ?_); (rintro e w2 ⟨b, rfl, q1, q2⟩)); have L2 := hid_of q1; have E2 := hid_of q2; clear q1 q2)
    | (go_at_call 24; ((with_reducible refine (CF.out _ _ _ w2 L2.out E2.out.size).mono ?_); (rintro e w3 ⟨rfl, q1, q2⟩)); have L3 := hid_of q1; have E3 := hid_of (E2.out.trans q2); clear q1 q2))
  go_loopw [7, 8, 9, 10] (fun iv v8 v9 v10 wr => ∃ (i : Nat) (M : DM), i ≤ 40 ∧ iv = .int .i64 i ∧ Hid (FInv k i M) ∧ Hid (Lv I w1.heap.size wr.heap.size wr b M) ∧ Hid (Below w1.heap.size w1 wr)) (fun iv _ _ _ _ => 40 - (intOf iv).toNat)
  case atStart => exact ⟨0, _, by omega, rfl, HS, L3, E3⟩
  case round =>
    obtain ⟨i, M, hi, rfl, hF, hL, hE⟩ := hrel
    by_cases hlt : i < 40
    · have hdd : decide (i < 40) = true := by simpa using hlt
      have hdi : decide ((i : Int) < 40) = true := by simp; omega
      have HF2 : Hid (∀ X c, Lv I w1.heap.size c X b M → w1.heap.size ≤ X.heap.size → Calls Try.prog 23 #[.pointer (some ⟨b, 0, none⟩)] X fun e w' => ∃ M1, (e = .returned (.int .i64 (okI k i)) ∧ FInv k (i + 1) M1) ∧ Lv I w1.heap.size w'.heap.size w' b M1 ∧ Below w1.heap.size X w') := hid_of (fun X c h hB => (h.sync hB (by have := hF.out.2.2.1; omega)).mono fun e w' ⟨q1, q2, q3⟩ => ⟨_, ⟨by rw [q1, (finv_sync hF.out).2], (finv_sync hF.out).1⟩, q2, q3⟩)
      obtain ⟨r, hr⟩ : ∃ r, r = i % 3 := ⟨_, rfl⟩
      have hrm : (i : Int).tmod 3 = (r : Int) := by rw [Int.tmod_eq_emod_of_nonneg (by omega)]; omega
      have HW2 : Hid (∀ X c g, Lv I w1.heap.size c X b M → w1.heap.size ≤ X.heap.size → CR (fun q => c ≤ q) X (.slice (some ⟨g, 0, none⟩) 16 16) (blk 1) → Calls Try.prog 22 #[.pointer (some ⟨b, 0, none⟩), .int .i64 r, .slice (some ⟨g, 0, none⟩) 16 16] X fun e w' => ∃ M1, (e = .returned (.int .i64 (okI k i)) ∧ FInv k (i + 1) M1) ∧ Lv I w1.heap.size w'.heap.size w' b M1 ∧ Below w1.heap.size X w') := hid_of (fun X c g h hB hi2 => (h.write hB r ⟨by omega, by omega⟩ (by have := hF.out.2.2.1; omega) (hi2.mono fun q hq => Or.inr hq)).mono fun e w' ⟨q1, q2, q3⟩ => ⟨_, ⟨by rw [q1, (finv_write hF.out (s := r) (by omega) (l := blk 1) rfl).2], (finv_write hF.out (s := r) (by omega) (l := blk 1) rfl).1⟩, q2, q3⟩)
      have CQ : Hid (∀ M1 X c, FInv k (i + 1) M1 → Lv I w1.heap.size c X b M1 → Calls Try.prog 19 #[.pointer (some ⟨b, 0, none⟩), .int .i64 0] X fun e w' => ∃ x n c, e = .returned (.tuple #[.slice x n c, .int .i64 (okI k i)]) ∧ Below X.heap.size X w') := hid_of (fun M1 X c hf ⟨S, h1, h2⟩ => (I.read 0 r64_0 (by have := hf.2.2.1; omega) h1).mono fun e w' ⟨⟨x, n, c, q1, _, q3⟩, _⟩ => ⟨x, n, c, by rw [q1, (finv_off hf).2.1], q3⟩)
      have CD : Hid (∀ M1 X c, FInv k (i + 1) M1 → Lv I w1.heap.size c X b M1 → Calls Try.prog 17 #[.pointer (some ⟨b, 0, none⟩)] X fun e w' => e = .returned (.bool (decide (okI k i ≠ 0))) ∧ Below X.heap.size X w') := hid_of (fun M1 X c hf ⟨S, h1, h2⟩ => (I.down h1).mono fun e w' ⟨q1, q3⟩ => ⟨by rw [q1, (finv_off hf).1], q3⟩)
      have CW : Hid (∀ M1 X c g, FInv k (i + 1) M1 → Lv I w1.heap.size c X b M1 → w1.heap.size ≤ X.heap.size → CR (fun q => c ≤ q) X (.slice (some ⟨g, 0, none⟩) 16 16) (blk 1) → Calls Try.prog 22 #[.pointer (some ⟨b, 0, none⟩), .int .i64 3, .slice (some ⟨g, 0, none⟩) 16 16] X fun e w' => e = .returned (.int .i64 1) ∧ Lv I w1.heap.size w'.heap.size w' b M1 ∧ Below w1.heap.size X w') := hid_of (fun M1 X c g hf h hB hi2 => (h.write hB 3 ⟨by omega, by omega⟩ (by have := hf.2.2.1; omega) (hi2.mono fun q hq => Or.inr hq)).mono fun e w' ⟨q1, q2, q3⟩ => ⟨by rw [q1, (finv_off hf).2.2], by rw [(finv_off hf).2.2] at q2; exact q2, q3⟩)
      have HRI := hid_of (HR.out wr (E1.out.trans (hE.out.mono E1.out.size)))
      clear hr
      by_cases hin : (i : Int) < n
      · have HO : okI k i = 0 := by rw [okI, if_pos ((HKN.out i).1 hin)]
        have dn : decide ((i : Int) < n) = true := by simpa using hin
        rw [HO] at HF2 HW2 CQ CD
        have e8 : decide ((0 : Int) ≠ 0) = false := by decide
        rw [e8] at CD
        by_cases hil : i < len
        · have dl : decide (i < len) = true := by simpa using hil
          obtain ⟨kb, hkb⟩ : ∃ kb, l[i]? = some kb := ⟨_, List.getElem?_eq_getElem (by have := HL.out; omega)⟩
          obtain ⟨gk, ok, rfl, kk⟩ := rd_at HRI.out (i := i) (t := .bool kb) (by rw [bls, List.getElem?_map, hkb]; rfl)
          clear hkb
          cases kb with
          | true =>
            go_wp2_with (first
              | (go_at_call 23; ((with_reducible refine (HF2.out wr _ hL.out hE.out.size).mono ?_); (rintro e w5 ⟨M1, ⟨rfl, q0⟩, q1, q2⟩)); have F5 := hid_of q0; have L5 := hid_of q1; have E5 := hid_of (hE.out.trans q2); clear q0 q1 q2)
              | (go_at_call 19; ((with_reducible refine (CQ.out _ w5 _ F5.out L5.out).mono ?_); (rintro e w6 ⟨x6, n6, c6, rfl, q1⟩)); have L6 := hid_of (L5.out.bel q1); have E6 := hid_of (E5.out.trans (q1.mono E5.out.size)); have HC6 := hid_of q1.size; clear q1)
              | (go_at_call 17; ((with_reducible refine (CD.out _ w6 _ F5.out L6.out).mono ?_); (rintro e w7 ⟨rfl, q1⟩)); have L7 := hid_of (L6.out.bel (q1.mono HC6.out)); have E7 := hid_of (E6.out.trans (q1.mono E6.out.size)); have HC7 := hid_of (Nat.le_trans HC6.out q1.size); clear q1)
              | (go_at_call 26; ((with_reducible refine (CB.out 1 w7).mono ?_); (rintro e w8 ⟨g8, rfl, q1, q2⟩)); have G8 := hid_of (q1.mono fun q hq => Nat.le_trans HC7.out hq); have L8 := hid_of (L7.out.bel (q2.mono HC7.out)); have E8 := hid_of (E7.out.trans (q2.mono E7.out.size)); clear q1 q2)
              | (go_at_call 22; ((with_reducible refine (CW.out _ w8 _ _ F5.out L8.out E8.out.size G8.out).mono ?_); (rintro e w9 ⟨rfl, q1, q2⟩)); have L9 := hid_of q1; have E9 := hid_of (E8.out.trans q2); clear q1 q2))
            go_roundw
            case rel => exact ⟨i + 1, _, by omega, by go_num, F5, L9, E9⟩
            case measure => simp [intOf]; omega
          | false =>
            go_wp2_with (first
              | (go_at_call 26; ((with_reducible refine (CB.out 1 wr).mono ?_); (rintro e w4 ⟨g4, rfl, q1, q2⟩)); have G4 := hid_of q1; have L4 := hid_of (hL.out.bel q2); have E4 := hid_of (hE.out.trans (q2.mono hE.out.size)); clear q1 q2)
              | (go_at_call 22; ((with_reducible refine (HW2.out w4 _ _ L4.out E4.out.size G4.out).mono ?_); (rintro e w5 ⟨M1, ⟨rfl, q0⟩, q1, q2⟩)); have F5 := hid_of q0; have L5 := hid_of q1; have E5 := hid_of (E4.out.trans q2); clear q0 q1 q2)
              | (go_at_call 19; ((with_reducible refine (CQ.out _ w5 _ F5.out L5.out).mono ?_); (rintro e w6 ⟨x6, n6, c6, rfl, q1⟩)); have L6 := hid_of (L5.out.bel q1); have E6 := hid_of (E5.out.trans (q1.mono E5.out.size)); have HC6 := hid_of q1.size; clear q1)
              | (go_at_call 17; ((with_reducible refine (CD.out _ w6 _ F5.out L6.out).mono ?_); (rintro e w7 ⟨rfl, q1⟩)); have L7 := hid_of (L6.out.bel (q1.mono HC6.out)); have E7 := hid_of (E6.out.trans (q1.mono E6.out.size)); have HC7 := hid_of (Nat.le_trans HC6.out q1.size); clear q1)
              | (go_at_call 26; ((with_reducible refine (CB.out 1 w7).mono ?_); (rintro e w8 ⟨g8, rfl, q1, q2⟩)); have G8 := hid_of (q1.mono fun q hq => Nat.le_trans HC7.out hq); have L8 := hid_of (L7.out.bel (q2.mono HC7.out)); have E8 := hid_of (E7.out.trans (q2.mono E7.out.size)); clear q1 q2)
              | (go_at_call 22; ((with_reducible refine (CW.out _ w8 _ _ F5.out L8.out E8.out.size G8.out).mono ?_); (rintro e w9 ⟨rfl, q1, q2⟩)); have L9 := hid_of q1; have E9 := hid_of (E8.out.trans q2); clear q1 q2))
            go_roundw
            case rel => exact ⟨i + 1, _, by omega, by go_num, F5, L9, E9⟩
            case measure => simp [intOf]; omega
        · have dl : decide (i < len) = false := by simpa using hil
          go_wp2_with (first
            | (go_at_call 26; ((with_reducible refine (CB.out 1 wr).mono ?_); (rintro e w4 ⟨g4, rfl, q1, q2⟩)); have G4 := hid_of q1; have L4 := hid_of (hL.out.bel q2); have E4 := hid_of (hE.out.trans (q2.mono hE.out.size)); clear q1 q2)
            | (go_at_call 22; ((with_reducible refine (HW2.out w4 _ _ L4.out E4.out.size G4.out).mono ?_); (rintro e w5 ⟨M1, ⟨rfl, q0⟩, q1, q2⟩)); have F5 := hid_of q0; have L5 := hid_of q1; have E5 := hid_of (E4.out.trans q2); clear q0 q1 q2)
            | (go_at_call 19; ((with_reducible refine (CQ.out _ w5 _ F5.out L5.out).mono ?_); (rintro e w6 ⟨x6, n6, c6, rfl, q1⟩)); have L6 := hid_of (L5.out.bel q1); have E6 := hid_of (E5.out.trans (q1.mono E5.out.size)); have HC6 := hid_of q1.size; clear q1)
            | (go_at_call 17; ((with_reducible refine (CD.out _ w6 _ F5.out L6.out).mono ?_); (rintro e w7 ⟨rfl, q1⟩)); have L7 := hid_of (L6.out.bel (q1.mono HC6.out)); have E7 := hid_of (E6.out.trans (q1.mono E6.out.size)); have HC7 := hid_of (Nat.le_trans HC6.out q1.size); clear q1)
            | (go_at_call 26; ((with_reducible refine (CB.out 1 w7).mono ?_); (rintro e w8 ⟨g8, rfl, q1, q2⟩)); have G8 := hid_of (q1.mono fun q hq => Nat.le_trans HC7.out hq); have L8 := hid_of (L7.out.bel (q2.mono HC7.out)); have E8 := hid_of (E7.out.trans (q2.mono E7.out.size)); clear q1 q2)
            | (go_at_call 22; ((with_reducible refine (CW.out _ w8 _ _ F5.out L8.out E8.out.size G8.out).mono ?_); (rintro e w9 ⟨rfl, q1, q2⟩)); have L9 := hid_of q1; have E9 := hid_of (E8.out.trans q2); clear q1 q2))
          go_roundw
          case rel => exact ⟨i + 1, _, by omega, by go_num, F5, L9, E9⟩
          case measure => simp [intOf]; omega
      · have HO : okI k i = 8 := by rw [okI, if_neg (fun h => hin ((HKN.out i).2 h))]
        have dn : decide ((i : Int) < n) = false := by simpa using hin
        rw [HO] at HF2 HW2 CQ CD
        have e8 : decide ((8 : Int) ≠ 0) = true := by decide
        rw [e8] at CD
        by_cases hil : i < len
        · have dl : decide (i < len) = true := by simpa using hil
          obtain ⟨kb, hkb⟩ : ∃ kb, l[i]? = some kb := ⟨_, List.getElem?_eq_getElem (by have := HL.out; omega)⟩
          obtain ⟨gk, ok, rfl, kk⟩ := rd_at HRI.out (i := i) (t := .bool kb) (by rw [bls, List.getElem?_map, hkb]; rfl)
          clear hkb
          cases kb with
          | true =>
            go_wp2_with (first
              | (go_at_call 23; ((with_reducible refine (HF2.out wr _ hL.out hE.out.size).mono ?_); (rintro e w5 ⟨M1, ⟨rfl, q0⟩, q1, q2⟩)); have F5 := hid_of q0; have L5 := hid_of q1; have E5 := hid_of (hE.out.trans q2); clear q0 q1 q2)
              | (go_at_call 19; ((with_reducible refine (CQ.out _ w5 _ F5.out L5.out).mono ?_); (rintro e w6 ⟨x6, n6, c6, rfl, q1⟩)); have L6 := hid_of (L5.out.bel q1); have E6 := hid_of (E5.out.trans (q1.mono E5.out.size)); have HC6 := hid_of q1.size; clear q1)
              | (go_at_call 17; ((with_reducible refine (CD.out _ w6 _ F5.out L6.out).mono ?_); (rintro e w7 ⟨rfl, q1⟩)); have L7 := hid_of (L6.out.bel (q1.mono HC6.out)); have E7 := hid_of (E6.out.trans (q1.mono E6.out.size)); have HC7 := hid_of (Nat.le_trans HC6.out q1.size); clear q1)
              | (go_at_call 26; ((with_reducible refine (CB.out 1 w7).mono ?_); (rintro e w8 ⟨g8, rfl, q1, q2⟩)); have G8 := hid_of (q1.mono fun q hq => Nat.le_trans HC7.out hq); have L8 := hid_of (L7.out.bel (q2.mono HC7.out)); have E8 := hid_of (E7.out.trans (q2.mono E7.out.size)); clear q1 q2)
              | (go_at_call 22; ((with_reducible refine (CW.out _ w8 _ _ F5.out L8.out E8.out.size G8.out).mono ?_); (rintro e w9 ⟨rfl, q1, q2⟩)); have L9 := hid_of q1; have E9 := hid_of (E8.out.trans q2); clear q1 q2))
            go_roundw
            case rel => exact ⟨i + 1, _, by omega, by go_num, F5, L9, E9⟩
            case measure => simp [intOf]; omega
          | false =>
            go_wp2_with (first
              | (go_at_call 26; ((with_reducible refine (CB.out 1 wr).mono ?_); (rintro e w4 ⟨g4, rfl, q1, q2⟩)); have G4 := hid_of q1; have L4 := hid_of (hL.out.bel q2); have E4 := hid_of (hE.out.trans (q2.mono hE.out.size)); clear q1 q2)
              | (go_at_call 22; ((with_reducible refine (HW2.out w4 _ _ L4.out E4.out.size G4.out).mono ?_); (rintro e w5 ⟨M1, ⟨rfl, q0⟩, q1, q2⟩)); have F5 := hid_of q0; have L5 := hid_of q1; have E5 := hid_of (E4.out.trans q2); clear q0 q1 q2)
              | (go_at_call 19; ((with_reducible refine (CQ.out _ w5 _ F5.out L5.out).mono ?_); (rintro e w6 ⟨x6, n6, c6, rfl, q1⟩)); have L6 := hid_of (L5.out.bel q1); have E6 := hid_of (E5.out.trans (q1.mono E5.out.size)); have HC6 := hid_of q1.size; clear q1)
              | (go_at_call 17; ((with_reducible refine (CD.out _ w6 _ F5.out L6.out).mono ?_); (rintro e w7 ⟨rfl, q1⟩)); have L7 := hid_of (L6.out.bel (q1.mono HC6.out)); have E7 := hid_of (E6.out.trans (q1.mono E6.out.size)); have HC7 := hid_of (Nat.le_trans HC6.out q1.size); clear q1)
              | (go_at_call 26; ((with_reducible refine (CB.out 1 w7).mono ?_); (rintro e w8 ⟨g8, rfl, q1, q2⟩)); have G8 := hid_of (q1.mono fun q hq => Nat.le_trans HC7.out hq); have L8 := hid_of (L7.out.bel (q2.mono HC7.out)); have E8 := hid_of (E7.out.trans (q2.mono E7.out.size)); clear q1 q2)
              | (go_at_call 22; ((with_reducible refine (CW.out _ w8 _ _ F5.out L8.out E8.out.size G8.out).mono ?_); (rintro e w9 ⟨rfl, q1, q2⟩)); have L9 := hid_of q1; have E9 := hid_of (E8.out.trans q2); clear q1 q2))
            go_roundw
            case rel => exact ⟨i + 1, _, by omega, by go_num, F5, L9, E9⟩
            case measure => simp [intOf]; omega
        · have dl : decide (i < len) = false := by simpa using hil
          go_wp2_with (first
            | (go_at_call 26; ((with_reducible refine (CB.out 1 wr).mono ?_); (rintro e w4 ⟨g4, rfl, q1, q2⟩)); have G4 := hid_of q1; have L4 := hid_of (hL.out.bel q2); have E4 := hid_of (hE.out.trans (q2.mono hE.out.size)); clear q1 q2)
            | (go_at_call 22; ((with_reducible refine (HW2.out w4 _ _ L4.out E4.out.size G4.out).mono ?_); (rintro e w5 ⟨M1, ⟨rfl, q0⟩, q1, q2⟩)); have F5 := hid_of q0; have L5 := hid_of q1; have E5 := hid_of (E4.out.trans q2); clear q0 q1 q2)
            | (go_at_call 19; ((with_reducible refine (CQ.out _ w5 _ F5.out L5.out).mono ?_); (rintro e w6 ⟨x6, n6, c6, rfl, q1⟩)); have L6 := hid_of (L5.out.bel q1); have E6 := hid_of (E5.out.trans (q1.mono E5.out.size)); have HC6 := hid_of q1.size; clear q1)
            | (go_at_call 17; ((with_reducible refine (CD.out _ w6 _ F5.out L6.out).mono ?_); (rintro e w7 ⟨rfl, q1⟩)); have L7 := hid_of (L6.out.bel (q1.mono HC6.out)); have E7 := hid_of (E6.out.trans (q1.mono E6.out.size)); have HC7 := hid_of (Nat.le_trans HC6.out q1.size); clear q1)
            | (go_at_call 26; ((with_reducible refine (CB.out 1 w7).mono ?_); (rintro e w8 ⟨g8, rfl, q1, q2⟩)); have G8 := hid_of (q1.mono fun q hq => Nat.le_trans HC7.out hq); have L8 := hid_of (L7.out.bel (q2.mono HC7.out)); have E8 := hid_of (E7.out.trans (q2.mono E7.out.size)); clear q1 q2)
            | (go_at_call 22; ((with_reducible refine (CW.out _ w8 _ _ F5.out L8.out E8.out.size G8.out).mono ?_); (rintro e w9 ⟨rfl, q1, q2⟩)); have L9 := hid_of q1; have E9 := hid_of (E8.out.trans q2); clear q1 q2))
          go_roundw
          case rel => exact ⟨i + 1, _, by omega, by go_num, F5, L9, E9⟩
          case measure => simp [intOf]; omega
    · obtain rfl : i = 40 := by omega
      have HG := hid_of (ginv_start hF.out)
      have CK : Hid (∀ X c, Lv I w1.heap.size c X b M → w1.heap.size ≤ X.heap.size → Calls Try.prog 25 #[.pointer (some ⟨b, 0, none⟩), .slice none 0 0] X fun e w' => e = .returned (.tuple #[]) ∧ Lv I w1.heap.size w'.heap.size w' b (crashF M []) ∧ Below w1.heap.size X w') := hid_of (fun X c h hB => h.crash hB (keep := []) (by have := hF.out.2.2.1; omega) ⟨⟨none, 0, rfl, Nat.le_refl _, by omega, fun h => by simp [bls] at h⟩, fun h => by simp [bls] at h⟩)
      go_wp2_with (go_at_call 25; ((with_reducible refine (CK.out wr _ hL.out hE.out.size).mono ?_); (rintro e w4 ⟨rfl, q1, q2⟩)); have L4 := hid_of q1; have E4 := hid_of (hE.out.trans q2); clear q1 q2)
      go_loopw [11] (fun iv wr => ∃ (j : Nat) (M : DM), j ≤ 40 ∧ iv = .int .i64 j ∧ Hid (GInv j M) ∧ Hid (Lv I w1.heap.size wr.heap.size wr b M) ∧ Hid (Below w1.heap.size w1 wr)) (fun iv _ => 40 - (intOf iv).toNat)
      case atStart => exact ⟨0, _, by omega, rfl, HG, L4, E4⟩
      case round =>
        obtain ⟨j, M, hj, rfl, hG, hL, hE⟩ := hrel
        by_cases hlt : j < 40
        · have hdd : decide (j < 40) = true := by simpa using hlt
          have hdi : decide ((j : Int) < 40) = true := by simp; omega
          have CW : Hid (∀ X c g, Lv I w1.heap.size c X b M → w1.heap.size ≤ X.heap.size → CR (fun q => c ≤ q) X (.slice (some ⟨g, 0, none⟩) 16 16) (blk 2) → Calls Try.prog 22 #[.pointer (some ⟨b, 0, none⟩), .int .i64 0, .slice (some ⟨g, 0, none⟩) 16 16] X fun e w' => ∃ M1, (e = .returned (.int .i64 0) ∧ GInv (j + 1) M1) ∧ Lv I w1.heap.size w'.heap.size w' b M1 ∧ Below w1.heap.size X w') := hid_of (fun X c g h hB hi2 => (h.write hB 0 r64_0 (by have := hG.out.2.2.1; omega) (hi2.mono fun q hq => Or.inr hq)).mono fun e w' ⟨q1, q2, q3⟩ => ⟨_, ⟨by rw [q1, (ginv_write hG.out (l := blk 2) rfl).2], (ginv_write hG.out (l := blk 2) rfl).1⟩, q2, q3⟩)
          go_wp2_with (first
            | (go_at_call 26; ((with_reducible refine (CB.out 2 wr).mono ?_); (rintro e w4 ⟨g4, rfl, q1, q2⟩)); have G4 := hid_of q1; have L4 := hid_of (hL.out.bel q2); have E4 := hid_of (hE.out.trans (q2.mono hE.out.size)); clear q1 q2)
            | (go_at_call 22; ((with_reducible refine (CW.out w4 _ _ L4.out E4.out.size G4.out).mono ?_); (rintro e w5 ⟨M1, ⟨rfl, q0⟩, q1, q2⟩)); have G5 := hid_of q0; have L5 := hid_of q1; have E5 := hid_of (E4.out.trans q2); clear q0 q1 q2))
          go_roundw
          case rel => exact ⟨j + 1, _, by omega, by go_num, G5, L5, E5⟩
          case measure => simp [intOf]; omega
        · obtain rfl : j = 40 := by omega
          have CC : Hid (∀ X c, Lv I w1.heap.size c X b M → Calls Try.prog 18 #[.pointer (some ⟨b, 0, none⟩)] X fun e w' => e = .returned (.int .i64 40) ∧ Below X.heap.size X w') := hid_of (fun X c ⟨S, h1, h2⟩ => (I.cached h1).mono fun e w' ⟨q1, q3⟩ => ⟨by rw [q1, hG.out.2.2.1]; rfl, q3⟩)
          go_wp2_with (go_at_call 18; ((with_reducible refine (CC.out wr _ hL.out).mono ?_); (rintro e w5 ⟨rfl, q1⟩)); have E5 := hid_of (hE.out.trans (q1.mono hE.out.size)); clear q1)
          go_ret
          exact ⟨rfl, E1.out.trans (E5.out.mono E1.out.size)⟩
end Go.Proofs.Yteceljhhhbmemaa

/- The law over the interface, and the program's disk. -/
namespace Go.Proofs.Yteceljhhhbmemaa
end Go.Proofs.Yteceljhhhbmemaa
