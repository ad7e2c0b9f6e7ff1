/- Texts in one: DsLw2, DsLw3, DgU3. -/
import Derived.Test.YteceljhhhbmemaaMgMB
import Derived.Laws.BytesArg
import Derived.Laws.IdiomStrings
set_option linter.unusedVariables false
set_option linter.unusedSimpArgs false
/- The law Fails. Bounds on sizes alone. -/
namespace Go.Proofs.Yteceljhhhbmemaa
open Go.RowKit
set_option maxRecDepth 100000
set_option maxHeartbeats 6400000

theorem stepF_go {M : DM} (h1 : M.off = false) (h2 : 0 < M.cnt) : stepF M = (true, { M with cnt := M.cnt - 1 }) := by
  rw [stepF, if_neg (by rw [h1]; simp; omega), if_pos h2]
theorem stepF_free {M : DM} (h1 : M.off = false) (h2 : M.cnt < 0) : stepF M = (true, M) := by
  rw [stepF, if_neg (by rw [h1]; simp; omega), if_neg (by omega)]
theorem stepF_no {M : DM} (h : M.off = true ∨ M.cnt = 0) : stepF M = (false, { M with off := true }) := by
  rw [stepF, if_pos h]
/-- Behind i operations of which k succeed. -/
def FInv (k : Int) (i : Nat) (M : DM) : Prop := M.sz = 16 ∧ M.secs.length = 3 ∧ M.cache.length ≤ i ∧ ((i : Int) ≤ k → M.off = false ∧ M.cnt = k - i) ∧ (k < (i : Int) → M.off = true)
def okI (k : Int) (i : Nat) : Int := if (i : Int) < k then 0 else 8
theorem finv_write {k : Int} {i : Nat} {M : DM} (h : FInv k i M) {s : Nat} (hs : s < 3) {l : List Int} (hl : l.length = 16) : FInv k (i + 1) (writeF M s l).2 ∧ (writeF M s l).1 = okI k i := by
  obtain ⟨h1, h2, h3, h4, h5⟩ := h
  have hf : M.fits s = true := by simp only [DM.fits, decide_eq_true_eq, h2]; omega
  have hn : ¬(M.fits s = false ∨ l.length ≠ M.sz) := by rw [hf, hl, h1]; simp
  unfold writeF
  rw [if_neg hn]
  by_cases hi : (i : Int) < k
  · obtain ⟨q1, q2⟩ := h4 (by omega)
    rw [stepF_go q1 (by omega)]
    refine ⟨⟨h1, h2, ?_, fun _ => ⟨q1, ?_⟩, fun h => by omega⟩, ?_⟩
    · show (M.cache ++ [_]).length ≤ i + 1
      simp; omega
    · show M.cnt - 1 = k - ((i + 1 : Nat) : Int)
      omega
    · rw [okI, if_pos hi]; rfl
  · have hno : M.off = true ∨ M.cnt = 0 := by
      by_cases e : (i : Int) ≤ k
      · exact Or.inr (by have := (h4 e).2; omega)
      · exact Or.inl (h5 (by omega))
    rw [stepF_no hno]
    exact ⟨⟨h1, h2, by show M.cache.length ≤ i + 1; omega, fun h => by omega, fun _ => rfl⟩, by rw [okI, if_neg hi]; rfl⟩
theorem finv_sync {k : Int} {i : Nat} {M : DM} (h : FInv k i M) : FInv k (i + 1) (syncF M).2 ∧ (syncF M).1 = okI k i := by
  obtain ⟨h1, h2, h3, h4, h5⟩ := h
  unfold syncF
  by_cases hi : (i : Int) < k
  · obtain ⟨q1, q2⟩ := h4 (by omega)
    rw [stepF_go q1 (by omega)]
    refine ⟨⟨h1, ?_, ?_, fun _ => ⟨q1, ?_⟩, fun h => by omega⟩, ?_⟩
    · show (putF M.secs M.cache).length = 3
      rw [putF_len]; exact h2
    · show 0 ≤ i + 1
      omega
    · show M.cnt - 1 = k - ((i + 1 : Nat) : Int)
      omega
    · rw [okI, if_pos hi]; rfl
  · have hno : M.off = true ∨ M.cnt = 0 := by
      by_cases e : (i : Int) ≤ k
      · exact Or.inr (by have := (h4 e).2; omega)
      · exact Or.inl (h5 (by omega))
    rw [stepF_no hno]
    exact ⟨⟨h1, h2, by show M.cache.length ≤ i + 1; omega, fun h => by omega, fun _ => rfl⟩, by rw [okI, if_neg hi]; rfl⟩
theorem finv_off {k : Int} {i : Nat} {M : DM} (h : FInv k (i + 1) M) : M.off = decide (okI k i ≠ 0) ∧ (readF M 0).2 = okI k i ∧ ∀ l, writeF M 3 l = (1, M) := by
  obtain ⟨h1, h2, h3, h4, h5⟩ := h
  have hf : M.fits 0 = true := by simp only [DM.fits, decide_eq_true_eq, h2]; omega
  have h3f : M.fits 3 = false := by simp only [DM.fits, decide_eq_false_iff_not, h2]; omega
  have hw : ∀ l, writeF M 3 l = (1, M) := fun l => by rw [writeF, if_pos (Or.inl h3f)]
  by_cases hi : (i : Int) < k
  · obtain ⟨q1, _⟩ := h4 (by omega)
    have e : okI k i = 0 := by rw [okI, if_pos hi]
    exact ⟨by rw [q1, e]; decide, by rw [readF, hf, q1, e]; rfl, hw⟩
  · have q1 := h5 (by omega)
    have e : okI k i = 8 := by rw [okI, if_neg hi]
    exact ⟨by rw [q1, e]; decide, by rw [readF, hf, q1, e]; rfl, hw⟩
theorem finv_start (n : Int) : FInv (max n 0) 0 (failF (newF 3 16) n) :=
  ⟨rfl, rfl, Nat.le_refl _, fun _ => ⟨rfl, by show max n 0 = max n 0 - ((0 : Nat) : Int); omega⟩, fun h => absurd h (by omega)⟩
/-- Behind the crash: writes that all succeed. -/
def GInv (j : Nat) (M : DM) : Prop := M.sz = 16 ∧ M.secs.length = 3 ∧ M.cache.length = j ∧ M.off = false ∧ M.cnt = -1
theorem ginv_start {k : Int} {i : Nat} {M : DM} (h : FInv k i M) : GInv 0 (crashF M []) := ⟨h.1, by show (keepF _ _ _ _).length = 3; rw [keepF_len]; exact h.2.1, rfl, rfl, rfl⟩
theorem ginv_write {j : Nat} {M : DM} (h : GInv j M) {l : List Int} (hl : l.length = 16) : GInv (j + 1) (writeF M 0 l).2 ∧ (writeF M 0 l).1 = 0 := by
  obtain ⟨h1, h2, h3, h4, h5⟩ := h
  have hf : M.fits 0 = true := by simp only [DM.fits, decide_eq_true_eq, h2]; omega
  rw [writeF, if_neg (by rw [hf, hl, h1]; simp), stepF_free h4 (by omega)]
  refine ⟨⟨h1, h2, ?_, h4, h5⟩, rfl⟩
  show (M.cache ++ [_]).length = j + 1
  simp [h3]
theorem fails_law (I : PI) (n : Int) (a : Option Addr) (len cap : Nat) (l : List Bool) (w : World) (w0 : (Lit.int .i64 n).wf = true) (w1 : Rd w (.slice a len cap) (bls l)) : Calls Try.prog 7 #[.int .i64 n, .slice a len cap] w (BoP true w) := by
  have rn := wf_d64 w0
  clear w0
  have AW := hid_of (fun w => awake_any I w)
  by_cases h30 : n > 30
  · have d0 : decide (n > 30) = true := by simpa using h30
    have d0' : decide (30 < n) = true := by simpa using h30
    clear h30 rn w1
    go_enter Try.func7, Try.ntmps7
    go_wp2_with (go_at_call 9; ((with_reducible refine (AW.out _).mono ?_); (rintro e w1 ⟨rfl, h1⟩); (have E1 := hid_of h1); clear h1))
    go_ret
    exact ⟨rfl, E1.out⟩
  have d0 : decide (n > 30) = false := by simpa using h30
  have d0' : decide (30 < n) = false := by simpa using h30
  have HR := hid_of (fun (X : World) (h : Below w.heap.size w X) => w1.at h)
  have HL : Hid (l.length = len) := hid_of (by have := (rd_cut w1).1; rw [bls_length] at this; exact this.symm)
  have hlc := (rd_cut w1).2
  obtain ⟨k, hk⟩ : ∃ k, k = max n 0 := ⟨_, rfl⟩
  have hkn : ∀ i : Nat, (i : Int) < n ↔ (i : Int) < k := fun i => by omega
  have HKN := hid_of hkn
  have CN : Hid (∀ X, Calls Try.prog 11 #[.int .i64 3, .int .i64 16] X fun e w' => ∃ b, e = .returned (.tuple #[.pointer (some ⟨b, 0, none⟩), .int .i64 0]) ∧ Lv I X.heap.size w'.heap.size w' b (newF 3 16) ∧ Below X.heap.size X w') := hid_of (fun X => (I.newY 3 16 (by omega) (by omega) (by omega) (by omega) X).mono fun e w' ⟨b, q1, q2, q3⟩ => ⟨b, q1, ⟨_, q2, fun k hk => hk⟩, q3⟩)
  have CB := hid_of (fun c X => block_any c X)
  have CF : Hid (∀ B c b X, Lv I B c X b (newF 3 16) → B ≤ X.heap.size → Calls Try.prog 24 #[.pointer (some ⟨b, 0, none⟩), .int .i64 n] X fun e w' => e = .returned (.tuple #[]) ∧ Lv I B w'.heap.size w' b (failF (newF 3 16) n) ∧ Below B X w') := hid_of (fun B c b X h hB => h.fail hB n rn)
  have HS := hid_of (show FInv k 0 (failF (newF 3 16) n) by rw [hk]; exact finv_start n)
  clear h30 rn w1 hk hkn
  go_enter Try.func7, Try.ntmps7
  go_wp2_with (first
    | (go_at_call 9; ((with_reducible refine (AW.out _).mono ?_); (rintro e w1 ⟨rfl, h1⟩); (have E1 := hid_of h1); clear h1))
    | (go_at_call 11; ((with_reducible refine (CN.out w1).mono ?_); (rintro e w2 ⟨b, rfl, q1, q2⟩)); have L2 := hid_of q1; have E2 := hid_of q2; clear q1 q2)
    | (go_at_call 24; ((with_reducible refine (CF.out _ _ _ w2 L2.out E2.out.size).mono ?_); (rintro e w3 ⟨rfl, q1, q2⟩)); have L3 := hid_of q1; have E3 := hid_of (E2.out.trans q2); clear q1 q2))
  go_loopw [7, 8, 9, 10] (fun iv v8 v9 v10 wr => ∃ (i : Nat) (M : DM), i ≤ 40 ∧ iv = .int .i64 i ∧ Hid (FInv k i M) ∧ Hid (Lv I w1.heap.size wr.heap.size wr b M) ∧ Hid (Below w1.heap.size w1 wr)) (fun iv _ _ _ _ => 40 - (intOf iv).toNat)
  case atStart => exact ⟨0, _, by omega, rfl, HS, L3, E3⟩
  case round =>
    obtain ⟨i, M, hi, rfl, hF, hL, hE⟩ := hrel
    by_cases hlt : i < 40
    · have hdd : decide (i < 40) = true := by simpa using hlt
      have hdi : decide ((i : Int) < 40) = true := by simp; omega
      have HF2 : Hid (∀ X c, Lv I w1.heap.size c X b M → w1.heap.size ≤ X.heap.size → Calls Try.prog 23 #[.pointer (some ⟨b, 0, none⟩)] X fun e w' => ∃ M1, (e = .returned (.int .i64 (okI k i)) ∧ FInv k (i + 1) M1) ∧ Lv I w1.heap.size w'.heap.size w' b M1 ∧ Below w1.heap.size X w') := hid_of (fun X c h hB => (h.sync hB (by have := hF.out.2.2.1; omega)).mono fun e w' ⟨q1, q2, q3⟩ => ⟨_, ⟨by rw [q1, (finv_sync hF.out).2], (finv_sync hF.out).1⟩, q2, q3⟩)
      obtain ⟨r, hr⟩ : ∃ r, r = i % 3 := ⟨_, rfl⟩
      have hrm : (i : Int).tmod 3 = (r : Int) := by rw [Int.tmod_eq_emod_of_nonneg (by omega)]; omega
      have HW2 : Hid (∀ X c g, Lv I w1.heap.size c X b M → w1.heap.size ≤ X.heap.size → CR (fun q => c ≤ q) X (.slice (some ⟨g, 0, none⟩) 16 16) (blk 1) → Calls Try.prog 22 #[.pointer (some ⟨b, 0, none⟩), .int .i64 r, .slice (some ⟨g, 0, none⟩) 16 16] X fun e w' => ∃ M1, (e = .returned (.int .i64 (okI k i)) ∧ FInv k (i + 1) M1) ∧ Lv I w1.heap.size w'.heap.size w' b M1 ∧ Below w1.heap.size X w') := hid_of (fun X c g h hB hi2 => (h.write hB r ⟨by omega, by omega⟩ (by have := hF.out.2.2.1; omega) (hi2.mono fun q hq => Or.inr hq)).mono fun e w' ⟨q1, q2, q3⟩ => ⟨_, ⟨by rw [q1, (finv_write hF.out (s := r) (by omega) (l := blk 1) rfl).2], (finv_write hF.out (s := r) (by omega) (l := blk 1) rfl).1⟩, q2, q3⟩)
      have CQ : Hid (∀ M1 X c, FInv k (i + 1) M1 → Lv I w1.heap.size c X b M1 → Calls Try.prog 19 #[.pointer (some ⟨b, 0, none⟩), .int .i64 0] X fun e w' => ∃ x n c, e = .returned (.tuple #[.slice x n c, .int .i64 (okI k i)]) ∧ Below X.heap.size X w') := hid_of (fun M1 X c hf ⟨S, h1, h2⟩ => (I.read 0 r64_0 (by have := hf.2.2.1; omega) h1).mono fun e w' ⟨⟨x, n, c, q1, _, q3⟩, _⟩ => ⟨x, n, c, by rw [q1, (finv_off hf).2.1], q3⟩)
      have CD : Hid (∀ M1 X c, FInv k (i + 1) M1 → Lv I w1.heap.size c X b M1 → Calls Try.prog 17 #[.pointer (some ⟨b, 0, none⟩)] X fun e w' => e = .returned (.bool (decide (okI k i ≠ 0))) ∧ Below X.heap.size X w') := hid_of (fun M1 X c hf ⟨S, h1, h2⟩ => (I.down h1).mono fun e w' ⟨q1, q3⟩ => ⟨by rw [q1, (finv_off hf).1], q3⟩)
      have CW : Hid (∀ M1 X c g, FInv k (i + 1) M1 → Lv I w1.heap.size c X b M1 → w1.heap.size ≤ X.heap.size → CR (fun q => c ≤ q) X (.slice (some ⟨g, 0, none⟩) 16 16) (blk 1) → Calls Try.prog 22 #[.pointer (some ⟨b, 0, none⟩), .int .i64 3, .slice (some ⟨g, 0, none⟩) 16 16] X fun e w' => e = .returned (.int .i64 1) ∧ Lv I w1.heap.size w'.heap.size w' b M1 ∧ Below w1.heap.size X w') := hid_of (fun M1 X c g hf h hB hi2 => (h.write hB 3 ⟨by omega, by omega⟩ (by have := hf.2.2.1; omega) (hi2.mono fun q hq => Or.inr hq)).mono fun e w' ⟨q1, q2, q3⟩ => ⟨by rw [q1, (finv_off hf).2.2], by rw [(finv_off hf).2.2] at q2; exact q2, q3⟩)
      have HRI := hid_of (HR.out wr (E1.out.trans (hE.out.mono E1.out.size)))
      clear hr
      by_cases hin : (i : Int) < n
      · have HO : okI k i = 0 := by rw [okI, if_pos ((HKN.out i).1 hin)]
        have dn : decide ((i : Int) < n) = true := by simpa using hin
        rw [HO] at HF2 HW2 CQ CD
        have e8 : decide ((0 : Int) ≠ 0) = false := by decide
        rw [e8] at CD
        by_cases hil : i < len
        · have dl : decide (i < len) = true := by simpa using hil
          obtain ⟨kb, hkb⟩ : ∃ kb, l[i]? = some kb := ⟨_, List.getElem?_eq_getElem (by have := HL.out; omega)⟩
          obtain ⟨gk, ok, rfl, kk⟩ := rd_at HRI.out (i := i) (t := .bool kb) (by rw [bls, List.getElem?_map, hkb]; rfl)
          clear hkb
          cases kb with
          | true =>
            go_wp2_with (first
              | (go_at_call 23; ((with_reducible refine (HF2.out wr _ hL.out hE.out.size).mono ?_); (rintro e w5 ⟨M1, ⟨rfl, q0⟩, q1, q2⟩)); have F5 := hid_of q0; have L5 := hid_of q1; have E5 := hid_of (hE.out.trans q2); clear q0 q1 q2)
              | (go_at_call 19; ((with_reducible refine (CQ.out _ w5 _ F5.out L5.out).mono ?_); (rintro e w6 ⟨x6, n6, c6, rfl, q1⟩)); have L6 := hid_of (L5.out.bel q1); have E6 := hid_of (E5.out.trans (q1.mono E5.out.size)); have HC6 := hid_of q1.size; clear q1)
              | (go_at_call 17; ((with_reducible refine (CD.out _ w6 _ F5.out L6.out).mono ?_); (rintro e w7 ⟨rfl, q1⟩)); have L7 := hid_of (L6.out.bel (q1.mono HC6.out)); have E7 := hid_of (E6.out.trans (q1.mono E6.out.size)); have HC7 := hid_of (Nat.le_trans HC6.out q1.size); clear q1)
              | (go_at_call 26; ((with_reducible refine (CB.out 1 w7).mono ?_); (rintro e w8 ⟨g8, rfl, q1, q2⟩)); have G8 := hid_of (q1.mono fun q hq => Nat.le_trans HC7.out hq); have L8 := hid_of (L7.out.bel (q2.mono HC7.out)); have E8 := hid_of (E7.out.trans (q2.mono E7.out.size)); clear q1 q2)
              | (go_at_call 22; ((with_reducible refine (CW.out _ w8 _ _ F5.out L8.out E8.out.size G8.out).mono ?_); (rintro e w9 ⟨rfl, q1, q2⟩)); have L9 := hid_of q1; have E9 := hid_of (E8.out.trans q2); clear q1 q2))
            go_roundw
            case rel => exact ⟨i + 1, _, by omega, by go_num, F5, L9, E9⟩
            case measure => simp [intOf]; omega
          | false =>
            go_wp2_with (first
              | (go_at_call 26; ((with_reducible refine (CB.out 1 wr).mono ?_); (rintro e w4 ⟨g4, rfl, q1, q2⟩)); have G4 := hid_of q1; have L4 := hid_of (hL.out.bel q2); have E4 := hid_of (hE.out.trans (q2.mono hE.out.size)); clear q1 q2)
              | (go_at_call 22; ((with_reducible refine (HW2.out w4 _ _ L4.out E4.out.size G4.out).mono ?_); (rintro e w5 ⟨M1, ⟨rfl, q0⟩, q1, q2⟩)); have F5 := hid_of q0; have L5 := hid_of q1; have E5 := hid_of (E4.out.trans q2); clear q0 q1 q2)
              | (go_at_call 19; ((with_reducible refine (CQ.out _ w5 _ F5.out L5.out).mono ?_); (rintro e w6 ⟨x6, n6, c6, rfl, q1⟩)); have L6 := hid_of (L5.out.bel q1); have E6 := hid_of (E5.out.trans (q1.mono E5.out.size)); have HC6 := hid_of q1.size; clear q1)
              | (go_at_call 17; ((with_reducible refine (CD.out _ w6 _ F5.out L6.out).mono ?_); (rintro e w7 ⟨rfl, q1⟩)); have L7 := hid_of (L6.out.bel (q1.mono HC6.out)); have E7 := hid_of (E6.out.trans (q1.mono E6.out.size)); have HC7 := hid_of (Nat.le_trans HC6.out q1.size); clear q1)
              | (go_at_call 26; ((with_reducible refine (CB.out 1 w7).mono ?_); (rintro e w8 ⟨g8, rfl, q1, q2⟩)); have G8 := hid_of (q1.mono fun q hq => Nat.le_trans HC7.out hq); have L8 := hid_of (L7.out.bel (q2.mono HC7.out)); have E8 := hid_of (E7.out.trans (q2.mono E7.out.size)); clear q1 q2)
              | (go_at_call 22; ((with_reducible refine (CW.out _ w8 _ _ F5.out L8.out E8.out.size G8.out).mono ?_); (rintro e w9 ⟨rfl, q1, q2⟩)); have L9 := hid_of q1; have E9 := hid_of (E8.out.trans q2); clear q1 q2))
            go_roundw
            case rel => exact ⟨i + 1, _, by omega, by go_num, F5, L9, E9⟩
            case measure => simp [intOf]; omega
        · have dl : decide (i < len) = false := by simpa using hil
          go_wp2_with (first
            | (go_at_call 26; ((with_reducible refine (CB.out 1 wr).mono ?_); (rintro e w4 ⟨g4, rfl, q1, q2⟩)); have G4 := hid_of q1; have L4 := hid_of (hL.out.bel q2); have E4 := hid_of (hE.out.trans (q2.mono hE.out.size)); clear q1 q2)
            | (go_at_call 22; ((with_reducible refine (HW2.out w4 _ _ L4.out E4.out.size G4.out).mono ?_); (rintro e w5 ⟨M1, ⟨rfl, q0⟩, q1, q2⟩)); have F5 := hid_of q0; have L5 := hid_of q1; have E5 := hid_of (E4.out.trans q2); clear q0 q1 q2)
            | (go_at_call 19; ((with_reducible refine (CQ.out _ w5 _ F5.out L5.out).mono ?_); (rintro e w6 ⟨x6, n6, c6, rfl, q1⟩)); have L6 := hid_of (L5.out.bel q1); have E6 := hid_of (E5.out.trans (q1.mono E5.out.size)); have HC6 := hid_of q1.size; clear q1)
            | (go_at_call 17; ((with_reducible refine (CD.out _ w6 _ F5.out L6.out).mono ?_); (rintro e w7 ⟨rfl, q1⟩)); have L7 := hid_of (L6.out.bel (q1.mono HC6.out)); have E7 := hid_of (E6.out.trans (q1.mono E6.out.size)); have HC7 := hid_of (Nat.le_trans HC6.out q1.size); clear q1)
            | (go_at_call 26; ((with_reducible refine (CB.out 1 w7).mono ?_); (rintro e w8 ⟨g8, rfl, q1, q2⟩)); have G8 := hid_of (q1.mono fun q hq => Nat.le_trans HC7.out hq); have L8 := hid_of (L7.out.bel (q2.mono HC7.out)); have E8 := hid_of (E7.out.trans (q2.mono E7.out.size)); clear q1 q2)
            | (go_at_call 22; ((with_reducible refine (CW.out _ w8 _ _ F5.out L8.out E8.out.size G8.out).mono ?_); (rintro e w9 ⟨rfl, q1, q2⟩)); have L9 := hid_of q1; have E9 := hid_of (E8.out.trans q2); clear q1 q2))
          go_roundw
          case rel => exact ⟨i + 1, _, by omega, by go_num, F5, L9, E9⟩
          case measure => simp [intOf]; omega
      · have HO : okI k i = 8 := by rw [okI, if_neg (fun h => hin ((HKN.out i).2 h))]
        have dn : decide ((i : Int) < n) = false := by simpa using hin
        rw [HO] at HF2 HW2 CQ CD
        have e8 : decide ((8 : Int) ≠ 0) = true := by decide
        rw [e8] at CD
        by_cases hil : i < len
        · have dl : decide (i < len) = true := by simpa using hil
          obtain ⟨kb, hkb⟩ : ∃ kb, l[i]? = some kb := ⟨_, List.getElem?_eq_getElem (by have := HL.out; omega)⟩
          obtain ⟨gk, ok, rfl, kk⟩ := rd_at HRI.out (i := i) (t := .bool kb) (by rw [bls, List.getElem?_map, hkb]; rfl)
          clear hkb
          cases kb with
          | true =>
            go_wp2_with (first
              | (go_at_call 23; ((with_reducible refine (HF2.out wr _ hL.out hE.out.size).mono ?_); (rintro e w5 ⟨M1, ⟨rfl, q0⟩, q1, q2⟩)); have F5 := hid_of q0; have L5 := hid_of q1; have E5 := hid_of (hE.out.trans q2); clear q0 q1 q2)
              | (go_at_call 19; ((with_reducible refine (CQ.out _ w5 _ F5.out L5.out).mono ?_); (rintro e w6 ⟨x6, n6, c6, rfl, q1⟩)); have L6 := hid_of (L5.out.bel q1); have E6 := hid_of (E5.out.trans (q1.mono E5.out.size)); have HC6 := hid_of q1.size; clear q1)
              | (go_at_call 17; ((with_reducible refine (CD.out _ w6 _ F5.out L6.out).mono ?_); (rintro e w7 ⟨rfl, q1⟩)); have L7 := hid_of (L6.out.bel (q1.mono HC6.out)); have E7 := hid_of (E6.out.trans (q1.mono E6.out.size)); have HC7 := hid_of (Nat.le_trans HC6.out q1.size); clear q1)
              | (go_at_call 26; ((with_reducible refine (CB.out 1 w7).mono ?_); (rintro e w8 ⟨g8, rfl, q1, q2⟩)); have G8 := hid_of (q1.mono fun q hq => Nat.le_trans HC7.out hq); have L8 := hid_of (L7.out.bel (q2.mono HC7.out)); have E8 := hid_of (E7.out.trans (q2.mono E7.out.size)); clear q1 q2)
              | (go_at_call 22; ((with_reducible refine (CW.out _ w8 _ _ F5.out L8.out E8.out.size G8.out).mono ?_); (rintro e w9 ⟨rfl, q1, q2⟩)); have L9 := hid_of q1; have E9 := hid_of (E8.out.trans q2); clear q1 q2))
            go_roundw
            case rel => exact ⟨i + 1, _, by omega, by go_num, F5, L9, E9⟩
            case measure => simp [intOf]; omega
          | false =>
            go_wp2_with (first
              | (go_at_call 26; ((with_reducible refine (CB.out 1 wr).mono ?_); (rintro e w4 ⟨g4, rfl, q1, q2⟩)); have G4 := hid_of q1; have L4 := hid_of (hL.out.bel q2); have E4 := hid_of (hE.out.trans (q2.mono hE.out.size)); clear q1 q2)
              | (go_at_call 22; ((with_reducible refine (HW2.out w4 _ _ L4.out E4.out.size G4.out).mono ?_); (rintro e w5 ⟨M1, ⟨rfl, q0⟩, q1, q2⟩)); have F5 := hid_of q0; have L5 := hid_of q1; have E5 := hid_of (E4.out.trans q2); clear q0 q1 q2)
              | (go_at_call 19; ((with_reducible refine (CQ.out _ w5 _ F5.out L5.out).mono ?_); (rintro e w6 ⟨x6, n6, c6, rfl, q1⟩)); have L6 := hid_of (L5.out.bel q1); have E6 := hid_of (E5.out.trans (q1.mono E5.out.size)); have HC6 := hid_of q1.size; clear q1)
              | (go_at_call 17; ((with_reducible refine (CD.out _ w6 _ F5.out L6.out).mono ?_); (rintro e w7 ⟨rfl, q1⟩)); have L7 := hid_of (L6.out.bel (q1.mono HC6.out)); have E7 := hid_of (E6.out.trans (q1.mono E6.out.size)); have HC7 := hid_of (Nat.le_trans HC6.out q1.size); clear q1)
              | (go_at_call 26; ((with_reducible refine (CB.out 1 w7).mono ?_); (rintro e w8 ⟨g8, rfl, q1, q2⟩)); have G8 := hid_of (q1.mono fun q hq => Nat.le_trans HC7.out hq); have L8 := hid_of (L7.out.bel (q2.mono HC7.out)); have E8 := hid_of (E7.out.trans (q2.mono E7.out.size)); clear q1 q2)
              | (go_at_call 22; ((with_reducible refine (CW.out _ w8 _ _ F5.out L8.out E8.out.size G8.out).mono ?_); (rintro e w9 ⟨rfl, q1, q2⟩)); have L9 := hid_of q1; have E9 := hid_of (E8.out.trans q2); clear q1 q2))
            go_roundw
            case rel => exact ⟨i + 1, _, by omega, by go_num, F5, L9, E9⟩
            case measure => simp [intOf]; omega
        · have dl : decide (i < len) = false := by simpa using hil
          go_wp2_with (first
            | (go_at_call 26; ((with_reducible refine (CB.out 1 wr).mono ?_); (rintro e w4 ⟨g4, rfl, q1, q2⟩)); have G4 := hid_of q1; have L4 := hid_of (hL.out.bel q2); have E4 := hid_of (hE.out.trans (q2.mono hE.out.size)); clear q1 q2)
            | (go_at_call 22; ((with_reducible refine (HW2.out w4 _ _ L4.out E4.out.size G4.out).mono ?_); (rintro e w5 ⟨M1, ⟨rfl, q0⟩, q1, q2⟩)); have F5 := hid_of q0; have L5 := hid_of q1; have E5 := hid_of (E4.out.trans q2); clear q0 q1 q2)
            | (go_at_call 19; ((with_reducible refine (CQ.out _ w5 _ F5.out L5.out).mono ?_); (rintro e w6 ⟨x6, n6, c6, rfl, q1⟩)); have L6 := hid_of (L5.out.bel q1); have E6 := hid_of (E5.out.trans (q1.mono E5.out.size)); have HC6 := hid_of q1.size; clear q1)
            | (go_at_call 17; ((with_reducible refine (CD.out _ w6 _ F5.out L6.out).mono ?_); (rintro e w7 ⟨rfl, q1⟩)); have L7 := hid_of (L6.out.bel (q1.mono HC6.out)); have E7 := hid_of (E6.out.trans (q1.mono E6.out.size)); have HC7 := hid_of (Nat.le_trans HC6.out q1.size); clear q1)
            | (go_at_call 26; ((with_reducible refine (CB.out 1 w7).mono ?_); (rintro e w8 ⟨g8, rfl, q1, q2⟩)); have G8 := hid_of (q1.mono fun q hq => Nat.le_trans HC7.out hq); have L8 := hid_of (L7.out.bel (q2.mono HC7.out)); have E8 := hid_of (E7.out.trans (q2.mono E7.out.size)); clear q1 q2)
            | (go_at_call 22; ((with_reducible refine (CW.out _ w8 _ _ F5.out L8.out E8.out.size G8.out).mono ?_); (rintro e w9 ⟨rfl, q1, q2⟩)); have L9 := hid_of q1; have E9 := hid_of (E8.out.trans q2); clear q1 q2))
          go_roundw
          case rel => exact ⟨i + 1, _, by omega, by go_num, F5, L9, E9⟩
          case measure => simp [intOf]; omega
    · obtain rfl : i = 40 := by omega
      have HG := hid_of (ginv_start hF.out)
      have CK : Hid (∀ X c, Lv I w1.heap.size c X b M → w1.heap.size ≤ X.heap.size → Calls Try.prog 25 #[.pointer (some ⟨b, 0, none⟩), .slice none 0 0] X fun e w' => e = .returned (.tuple #[]) ∧ Lv I w1.heap.size w'.heap.size w' b (crashF M []) ∧ Below w1.heap.size X w') := hid_of (fun X c h hB => h.crash hB (keep := []) (by have := hF.out.2.2.1; omega) ⟨⟨none, 0, rfl, Nat.le_refl _, by omega, fun h => by simp [bls] at h⟩, fun h => by simp [bls] at h⟩)
      go_wp2_with (go_at_call 25; ((with_reducible refine (CK.out wr _ hL.out hE.out.size).mono ?_); (rintro e w4 ⟨rfl, q1, q2⟩)); have L4 := hid_of q1; have E4 := hid_of (hE.out.trans q2); clear q1 q2)
      go_loopw [11] (fun iv wr => ∃ (j : Nat) (M : DM), j ≤ 40 ∧ iv = .int .i64 j ∧ Hid (GInv j M) ∧ Hid (Lv I w1.heap.size wr.heap.size wr b M) ∧ Hid (Below w1.heap.size w1 wr)) (fun iv _ => 40 - (intOf iv).toNat)
      case atStart => exact ⟨0, _, by omega, rfl, HG, L4, E4⟩
      case round =>
        obtain ⟨j, M, hj, rfl, hG, hL, hE⟩ := hrel
        by_cases hlt : j < 40
        · have hdd : decide (j < 40) = true := by simpa using hlt
          have hdi : decide ((j : Int) < 40) = true := by simp; omega
          have CW : Hid (∀ X c g, Lv I w1.heap.size c X b M → w1.heap.size ≤ X.heap.size → CR (fun q => c ≤ q) X (.slice (some ⟨g, 0, none⟩) 16 16) (blk 2) → Calls Try.prog 22 #[.pointer (some ⟨b, 0, none⟩), .int .i64 0, .slice (some ⟨g, 0, none⟩) 16 16] X fun e w' => ∃ M1, (e = .returned (.int .i64 0) ∧ GInv (j + 1) M1) ∧ Lv I w1.heap.size w'.heap.size w' b M1 ∧ Below w1.heap.size X w') := hid_of (fun X c g h hB hi2 => (h.write hB 0 r64_0 (by have := hG.out.2.2.1; omega) (hi2.mono fun q hq => Or.inr hq)).mono fun e w' ⟨q1, q2, q3⟩ => ⟨_, ⟨by rw [q1, (ginv_write hG.out (l := blk 2) rfl).2], (ginv_write hG.out (l := blk 2) rfl).1⟩, q2, q3⟩)
          go_wp2_with (first
            | (go_at_call 26; ((with_reducible refine (CB.out 2 wr).mono ?_); (rintro e w4 ⟨g4, rfl, q1, q2⟩)); have G4 := hid_of q1; have L4 := hid_of (hL.out.bel q2); have E4 := hid_of (hE.out.trans (q2.mono hE.out.size)); clear q1 q2)
            | (go_at_call 22; ((with_reducible refine (CW.out w4 _ _ L4.out E4.out.size G4.out).mono ?_); (rintro e w5 ⟨M1, ⟨rfl, q0⟩, q1, q2⟩)); have G5 := hid_of q0; have L5 := hid_of q1; have E5 := hid_of (E4.out.trans q2); clear q0 q1 q2))
          go_roundw
          case rel => exact ⟨j + 1, _, by omega, by go_num, G5, L5, E5⟩
          case measure => simp [intOf]; omega
        · obtain rfl : j = 40 := by omega
          have CC : Hid (∀ X c, Lv I w1.heap.size c X b M → Calls Try.prog 18 #[.pointer (some ⟨b, 0, none⟩)] X fun e w' => e = .returned (.int .i64 40) ∧ Below X.heap.size X w') := hid_of (fun X c ⟨S, h1, h2⟩ => (I.cached h1).mono fun e w' ⟨q1, q3⟩ => ⟨by rw [q1, hG.out.2.2.1]; rfl, q3⟩)
          go_wp2_with (go_at_call 18; ((with_reducible refine (CC.out wr _ hL.out).mono ?_); (rintro e w5 ⟨rfl, q1⟩)); have E5 := hid_of (hE.out.trans (q1.mono hE.out.size)); clear q1)
          go_ret
          exact ⟨rfl, E1.out.trans (E5.out.mono E1.out.size)⟩
end Go.Proofs.Yteceljhhhbmemaa

/- The law Memory. Bounds on sizes alone. -/
namespace Go.Proofs.Yteceljhhhbmemaa
open Go.RowKit
set_option maxRecDepth 100000
set_option maxHeartbeats 6400000

theorem run_strD {P : Program} (w : World) (src dst e : TypeId) (hs : P.underlying src = some (.slice e)) (he : P.underlying e = some (.int .u8)) (hd : P.underlying dst = some .string) (ao : Option Addr) (l : List Int) (cap : Nat)
    (hpos : 0 < l.length → ∃ ad, ao = some ad ∧ ∀ j v, (by8 l)[j]? = some v → w.cell? (ad.add j) = some v) :
    (convert src dst (.slice ao l.length cap)).run P w = .ok (.string (strOfNums l)) w := by
  cases ao with
  | none =>
    obtain rfl : l = [] := by
      cases l with
      | nil => rfl
      | cons x r => obtain ⟨ad, h, _⟩ := hpos (by simp); cases h
    exact run_convert_bytes_nil w src e hs he 0 cap dst hd
  | some ad =>
    have hl : (loadCells ad l.length).run P w = .ok (l.map (Value.int .u8)).toArray w := by
      have := run_loadCells_list (P := P) w ad (by8 l) (fun j v hj => by
        have h0 : 0 < l.length := by
          have := (List.getElem?_eq_some_iff.1 hj).1
          simp [by8] at this; omega
        obtain ⟨ad', h1, h2⟩ := hpos h0
        cases h1
        exact h2 j v hj)
      simpa [by8] using this
    rw [run_convert_bytes_string w src dst e _ l.length cap hs he hd, run_bytesToString w _ l.length cap l hl, foldl_push_bytes]
    simp [strOfNums, ByteArray.empty, ByteArray.emptyWithCapacity]
    rfl
def strD (l : List Int) : ByteArray := strOfNums l
theorem conv_by8 {W : World} {a : Option Addr} {n c : Nat} {L : List Int} (h : Rd W (.slice a n c) (by8 L)) : (convert 32 9 (.slice a n c)).run Try.prog W = .ok (.string (strD L)) W := by
  obtain ⟨ao, cap, e, h2, h3, h4⟩ := h
  simp only [Value.slice.injEq] at e
  obtain ⟨rfl, rfl, rfl⟩ := e
  rw [by8_length] at h4 ⊢
  refine run_strD W 32 9 5 Try.underlying32 Try.underlying5 Try.underlying9 a L c fun h0 => ?_
  obtain ⟨g, o, rfl, hg, hc⟩ := h4 h0
  refine ⟨_, rfl, fun j v hv => ?_⟩
  rw [Addr.add_mid]
  exact hc j v hv
theorem mem_math {n : Nat} {l : List Int} (hl : l.length = n) : (writeF (newF 2 n) 1 l).1 = 0 ∧ (writeF (newF 2 n) 1 l).2 = { newF 2 n with cache := [(1, l)] } ∧ readF { newF 2 n with cache := [(1, l)] } 1 = (l, 0) ∧ syncF { newF 2 n with cache := [(1, l)] } = (0, { newF 2 n with secs := [List.replicate n 0, l] }) ∧ readF { newF 2 n with secs := [List.replicate n 0, l] } 1 = (l, 0) := by
  have hf : (newF 2 n).fits 1 = true := rfl
  refine ⟨?_, ?_, rfl, rfl, rfl⟩
  · rw [writeF, if_neg (by rw [hf, hl]; simp [newF])]
    rfl
  · rw [writeF, if_neg (by rw [hf, hl]; simp [newF])]
    rfl
/-- A row of bytes of the call's own, whatever they are. -/
def BRow (B : Nat) (W : World) (g n cap : Nat) : Prop := ∃ zs : List Int, W.ownsRow B 5 1 (.slice (some ⟨g, 0, none⟩) n cap) n (by8 zs)
theorem BRow.get {B : Nat} {W : World} {g n cap : Nat} (h : BRow B W g n cap) (hn : n ≤ 4096) {i : Nat} (hi : i < n) : n ≤ cap ∧ cap ≤ 9223372036854775807 ∧ ∃ x : Int, W.cell? ⟨g, i, none⟩ = some (.int .u8 x) ∧ W.frozen? ⟨g, i, none⟩ = false ∧ ∀ y : Int, BRow B (W.setCell ⟨g, i, none⟩ (.int .u8 y)) g n cap := by
  obtain ⟨zs, h⟩ := h
  have hz : zs.length = n := by have := h.1; simp [by8] at this; omega
  have hrd : Rd W (.slice (some ⟨g, 0, none⟩) n cap) (by8 zs) := (show Ow 5 0 W W (.slice (some ⟨g, 0, none⟩) n cap) (by8 zs) from ⟨Nat.zero_le _, Below.refl _ _, by
    rw [by8_length, hz]
    rcases h.2 with h2 | ⟨g2, c2, cur, q1, q2, q3⟩
    · exact ⟨h.1, .inl h2⟩
    · exact ⟨h.1, .inr ⟨g2, c2, cur, q1, Nat.zero_le _, q3⟩⟩⟩).rd (by rw [by8_length]; omega)
  obtain ⟨x, hx⟩ : ∃ x, zs[i]? = some x := ⟨_, List.getElem?_eq_getElem (by omega)⟩
  obtain ⟨_, _, e, k⟩ := rd_at hrd (i := i) (t := .int .u8 x) (by rw [by8, List.getElem?_map, hx]; rfl)
  cases e
  rw [Nat.zero_add] at k
  obtain ⟨_, e2, _, hf⟩ := own_addr h (by omega)
  cases e2
  refine ⟨(rd_cut hrd).2.1, (rd_cut hrd).2.2, x, k, hf i, fun y => ⟨zs.set i y, ?_⟩⟩
  have := own_set h (j := i) (.int .u8 y)
  rwa [show (by8 zs).set i (.int .u8 y) = by8 (zs.set i y) by simp [by8, List.map_set]] at this
theorem own_copy {w2 w3 : World} {xo : Option Addr} {n1 c1 n : Nat} {l : List Int} (h : Ow 5 w2.heap.size w2 w3 (.slice xo n1 c1) ([] ++ by8 l)) (hn : n1 = ([] : List Value).length + (by8 l).length) (hl : n = l.length) (h1 : 16 ≤ n) (h2 : n ≤ 4096) :
    ∃ g, xo = some ⟨g, 0, none⟩ ∧ n = n1 ∧ w3.ownsRow w2.heap.size 5 1 (.slice (some ⟨g, 0, none⟩) n c1) n (by8 l) ∧ (CR (fun k => w2.heap.size ≤ k ∧ k < w3.heap.size) w3 (.slice (some ⟨g, 0, none⟩) n c1) l ∧ True) := by
  have e : n1 = n := by rw [hn, by8_length]; simp; omega
  subst e
  rw [List.nil_append] at h
  have ho := h.own
  rw [by8_length, ← hl] at ho
  obtain ⟨g, rfl, _, _⟩ := own_addr ho (by omega)
  exact ⟨g, rfl, rfl, ho, ⟨h.rd (by rw [by8_length]; omega), fun _ a n c e => by cases e; exact ho.lt g rfl⟩, trivial⟩
theorem memory_law (I : PI) (a : Option Addr) (len cap : Nat) (zs : List Int) (w : World) (w0 : IsRow .u8 w a len cap zs) : Calls Try.prog 8 #[.slice a len cap] w (BoP true w) := by
  have AW := hid_of (fun w => awake_any I w)
  obtain ⟨l, rfl, _, R⟩ := w0.rd
  have R : Rd w (.slice a l.length cap) (by8 l) := R
  clear w0
  obtain ⟨n, hn⟩ : ∃ n, n = l.length := ⟨_, rfl⟩
  rw [← hn] at R ⊢
  by_cases h16 : n < 16
  · have d0 : decide ((n : Int) < 16) = true := by simp; omega
    have d0' : decide (n < 16) = true := by simpa using h16
    clear R hn h16
    go_enter Try.func8, Try.ntmps8
    go_wp2_with (go_at_call 9; ((with_reducible refine (AW.out _).mono ?_); (rintro e w1 ⟨rfl, h1⟩); (have E1 := hid_of h1); clear h1))
    go_ret
    exact ⟨rfl, E1.out⟩
  have d0 : decide ((n : Int) < 16) = false := by simp; omega
  have d0' : decide (n < 16) = false := by simpa using h16
  by_cases h40 : 4096 < n
  · have d1 : decide ((n : Int) > 4096) = true := by simp; omega
    have d1' : decide (4096 < n) = true := by simpa using h40
    clear R hn h16 h40
    go_enter Try.func8, Try.ntmps8
    go_wp2_with (go_at_call 9; ((with_reducible refine (AW.out _).mono ?_); (rintro e w1 ⟨rfl, h1⟩); (have E1 := hid_of h1); clear h1))
    go_ret
    exact ⟨rfl, E1.out⟩
  have d1 : decide ((n : Int) > 4096) = false := by simp; omega
  have d1' : decide (4096 < n) = false := by simpa using h40
  have hn1 : 16 ≤ n := by omega
  have hn2 : n ≤ 4096 := by omega
  have HN := hid_of hn
  have HR := hid_of (fun (X : World) (h : Below w.heap.size w X) => R.at h)
  obtain ⟨s, hs⟩ : ∃ s, s = strD l := ⟨_, rfl⟩
  have HCV : Hid (∀ X, Below w.heap.size w X → (convert 32 9 (.slice a n cap)).run Try.prog X = .ok (.string s) X) := hid_of (fun X h => by rw [hs]; exact conv_by8 (R.at h))
  have HCM : Hid (∀ (X : World) x k c, Rd X (.slice x k c) (by8 l) → (convert 32 9 (.slice x k c)).run Try.prog X = .ok (.string s) X) := hid_of (fun X x k c h => by rw [hs]; exact conv_by8 h)
  have hss : (s.toList == s.toList) = true := beq_self_eq_true _
  obtain ⟨M1, hM1⟩ : ∃ M1, M1 = ({ newF 2 n with cache := [(1, l)] } : DM) := ⟨_, rfl⟩
  obtain ⟨M2, hM2⟩ : ∃ M2, M2 = ({ newF 2 n with secs := [List.replicate n 0, l] } : DM) := ⟨_, rfl⟩
  obtain ⟨m1, m2, m3, m4, m5⟩ := mem_math hn.symm
  rw [← hM1] at m2 m3 m4
  rw [← hM2] at m4 m5
  have CN : Hid (∀ X, Calls Try.prog 11 #[.int .i64 2, .int .i64 n] X fun e w' => ∃ b, e = .returned (.tuple #[.pointer (some ⟨b, 0, none⟩), .int .i64 0]) ∧ I.DS (fun k => X.heap.size ≤ k ∧ k < w'.heap.size) w' b (newF 2 n) ∧ Below X.heap.size X w') := hid_of (fun X => I.newY 2 n (by omega) (by omega) hn1 hn2 X)
  have CW : Hid (∀ S U X b x c, I.DS S X b (newF 2 n) → CR U X (.slice x n c) l → (∀ k, U k → ¬ S k) → Calls Try.prog 22 #[.pointer (some ⟨b, 0, none⟩), .int .i64 1, .slice x n c] X fun e w' => e = .returned (.int .i64 0) ∧ I.DS (Nw S X w') w' b M1 ∧ Kept S X w') := hid_of (fun S U X b x c h hi hU => by
    have h9 := I.write U 1 r64_1 x n c l (by show 0 < 1000000; omega) hi hU h
    rwa [m1, m2] at h9)
  have CQ1 : Hid (∀ S X b, I.DS S X b M1 → Calls Try.prog 19 #[.pointer (some ⟨b, 0, none⟩), .int .i64 1] X fun e w' => ∃ x c, e = .returned (.tuple #[.slice x n c, .int .i64 0]) ∧ Rd w' (.slice x n c) (by8 l) ∧ w'.ownsRow X.heap.size 5 1 (.slice x n c) n (by8 l) ∧ Below X.heap.size X w') := hid_of (fun S X b h => (I.read 1 r64_1 (by rw [hM1]; show 1 ≤ 1000000; omega) h).mono fun e w' ⟨⟨x, k, c, q1, q2, q3⟩, q4⟩ => by
    rw [m3] at q1 q2 q4
    have q2 : Rd w' (.slice x k c) (by8 l) := q2
    have hk : k = n := by have := (rd_cut q2).1; rw [by8_length] at this; omega
    subst hk
    exact ⟨x, c, q1, q2, q4 x k c q1, q3⟩)
  have CS : Hid (∀ S X b, I.DS S X b M1 → Calls Try.prog 23 #[.pointer (some ⟨b, 0, none⟩)] X fun e w' => e = .returned (.int .i64 0) ∧ I.DS (Nw S X w') w' b M2 ∧ Kept S X w') := hid_of (fun S X b h => by
    have h9 := I.sync (by rw [hM1]; show 1 ≤ 1000000; omega) h
    rwa [m4] at h9)
  have CQ2 : Hid (∀ S X b, I.DS S X b M2 → Calls Try.prog 19 #[.pointer (some ⟨b, 0, none⟩), .int .i64 1] X fun e w' => ∃ x c, e = .returned (.tuple #[.slice x n c, .int .i64 0]) ∧ Rd w' (.slice x n c) (by8 l) ∧ Below X.heap.size X w') := hid_of (fun S X b h => (I.read 1 r64_1 (by rw [hM2]; show 0 ≤ 1000000; omega) h).mono fun e w' ⟨⟨x, k, c, q1, q2, q3⟩, q4⟩ => by
    rw [m5] at q1 q2
    have q2 : Rd w' (.slice x k c) (by8 l) := q2
    have hk : k = n := by have := (rd_cut q2).1; rw [by8_length] at this; omega
    subst hk
    exact ⟨x, c, q1, q2, q3⟩)
  clear R hn h16 h40 m1 m2 m3 m4 m5 hM1 hM2 hs
  go_enter Try.func8, Try.ntmps8
  go_wp2_with (first
    | (go_at_call 9; ((with_reducible refine (AW.out _).mono ?_); (rintro e w1 ⟨rfl, h1⟩); (have E1 := hid_of h1); clear h1))
    | (go_at_call 11; ((with_reducible refine (CN.out w1).mono ?_); (rintro e w2 ⟨b, rfl, q1, q2⟩)); have D2 := hid_of q1; have E2 := hid_of q2; have RB2 := hid_of (HR.out _ ((E1.out.trans (q2.mono E1.out.size)).trans ((bel_alloc w2 (.cells #[] 5)).mono (Nat.le_trans E1.out.size q2.size)))); clear q1 q2)
    | (at_builtin; (refine wpList_app u8E rfl _ _ rfl (v := .slice (some ⟨w2.heap.size, 0, none⟩) 0 0) (l := []) rfl (ow_empty 5 w2) (vx := .slice a n cap) (m := by8 l) rfl RB2.out (by8_cells l) (by have := HN.out; simp [by8_length]; omega) (by have := HN.out; simp [by8_length]; omega) ?_); intro xo1 n1 c1 w3 hn3 h3; obtain ⟨g, rfl, rfl, O3, C3⟩ := own_copy h3 hn3 HN.out hn1 hn2; have HO3 := hid_of O3; have HC3 := hid_of C3; have E3 := hid_of (E2.out.trans (h3.bel.mono E2.out.size)); have D3 := hid_of (I.keep D2.out ⟨h3.bel.size, fun k hk _ => h3.bel.block k hk.2⟩); clear hn3 h3 O3 C3)
    | (go_at_call 22; ((with_reducible refine (CW.out _ _ w3 b _ _ D3.out HC3.out.1 (fun k hk hS => absurd hS.2 (Nat.not_lt.2 hk.1))).mono ?_); (rintro e w4 ⟨rfl, q1, q2⟩)); have D4 := hid_of q1; have K4 := hid_of q2; have E4 := hid_of (E3.out.trans (q2.below E3.out.size fun k hk => hk.1)); have O4 : Hid (BRow w2.heap.size w4 g n c1) := hid_of ⟨_, own_same HO3.out fun k hk => q2.block k (HO3.out.lt k hk).2 fun hS => absurd hS.2 (Nat.not_lt.2 (HO3.out.lt k hk).1)⟩; clear q1 q2))
  have HNS : Hid (¬ Nw (fun k => w1.heap.size ≤ k ∧ k < w2.heap.size) w3 w4 g) := hid_of (fun hS => by
    have h9 := HO3.out.lt g rfl
    rcases hS with h | h
    · omega
    · omega)
  have HGB : Hid (w1.heap.size ≤ g) := hid_of (Nat.le_trans E2.out.size (HO3.out.lt g rfl).1)
  go_loopw [6] (fun iv wr => ∃ i : Nat, i ≤ n ∧ iv = .int .i64 i ∧ Hid (BRow w2.heap.size wr g n c1) ∧ Hid (I.DS (Nw (fun k => w1.heap.size ≤ k ∧ k < w2.heap.size) w3 w4) wr b M1) ∧ Hid (Below w1.heap.size w1 wr)) (fun iv _ => n - (intOf iv).toNat)
  case atStart => exact ⟨0, Nat.zero_le _, rfl, O4, D4, E4⟩
  case round =>
    obtain ⟨i, hi, rfl, hO, hD, hE⟩ := hrel
    by_cases hlt : i < n
    · have hdd : decide (i < n) = true := by simpa using hlt
      obtain ⟨hc1, hc2, x, kx, kf, hset⟩ := hO.out.get hn2 hlt
      have HS := hid_of hset
      clear hset
      go_wp2
      go_roundw
      case rel => exact ⟨i + 1, by omega, by go_num, hid_of (HS.out _), hid_of (I.keep hD.out (keeps_set _ _ _ _ HNS.out)), hid_of (hE.out.setCell HGB.out _)⟩
      case measure => simp [intOf]; omega
    · obtain rfl : i = n := by omega
      have hdd : decide (i < i) = false := by simp
      go_wp2_with (go_at_call 19; ((with_reducible refine (CQ1.out _ wr b hD.out).mono ?_); (rintro e w5 ⟨x5, c5, rfl, q1, q2, q3⟩)); obtain ⟨g5, rfl, hg5, _⟩ := own_addr q2 (by omega); have RX5 := HCM.out w5 _ _ _ q1; have O5 : Hid (BRow wr.heap.size w5 g5 i c5) := hid_of ⟨_, q2⟩; have E5 := hid_of (hE.out.trans (q3.mono hE.out.size)); have D5 := hid_of (I.lt hD.out); have D5 := hid_of (I.keep D5.out ⟨q3.size, fun k hk _ => q3.block k hk.2⟩); have HG5 := hid_of ((q2.lt g5 rfl).1); have RB5 := HCV.out w5 (E1.out.trans (E5.out.mono E1.out.size)); have hc5 := (rd_cut q1).2; have HWR := hid_of hE.out.size; clear q1 q2 q3)
      go_loopw [9] (fun iv wx => ∃ j : Nat, j ≤ i ∧ iv = .int .i64 j ∧ Hid (BRow wr.heap.size wx g5 i c5) ∧ Hid (I.DS (fun k => Nw (fun k => w1.heap.size ≤ k ∧ k < w2.heap.size) w3 w4 k ∧ k < wr.heap.size) wx b M1) ∧ Hid (Below w1.heap.size w1 wx)) (fun iv _ => i - (intOf iv).toNat)
      case atStart => exact ⟨0, Nat.zero_le _, rfl, O5, D5, E5⟩
      case round =>
        obtain ⟨j, hj, rfl, hO, hD, hE⟩ := hrel
        by_cases hlt : j < i
        · have hdd : decide (j < i) = true := by simpa using hlt
          obtain ⟨hc1', hc2', x, kx, kf, hset⟩ := hO.out.get hn2 hlt
          have HS := hid_of hset
          clear hset
          go_wp2
          go_roundw
          case rel => exact ⟨j + 1, by omega, by go_num, hid_of (HS.out _), hid_of (I.keep hD.out (keeps_set _ _ _ _ fun hS => absurd hS.2 (Nat.not_lt.2 HG5.out))), hid_of (hE.out.setCell (Nat.le_trans HWR.out HG5.out) _)⟩
          case measure => simp [intOf]; omega
        · obtain rfl : j = i := by omega
          have hdd2 : decide (j < j) = false := by simp
          go_wp2_with (first
            | (go_at_call 23; ((with_reducible refine (CS.out _ wr b hD.out).mono ?_); (rintro e w6 ⟨rfl, q1, q2⟩)); have D6 := hid_of q1; have E6 := hid_of (hE.out.trans (q2.below hE.out.size fun k hk => by rcases hk.1 with h | h; exact h.1; have := E3.out.size; omega)); clear q1 q2)
            | (go_at_call 19; ((with_reducible refine (CQ2.out _ w6 b D6.out).mono ?_); (rintro e w7 ⟨x7, c7, rfl, q1, q3⟩)); have RX7 := HCM.out w7 _ _ _ q1; have E7 := hid_of (E6.out.trans (q3.mono E6.out.size)); have RB7 := HCV.out w7 (E1.out.trans (E7.out.mono E1.out.size)); clear q1 q3))
          go_ret
          exact ⟨by first | rfl | simp, E1.out.trans (E7.out.mono E1.out.size)⟩
end Go.Proofs.Yteceljhhhbmemaa

/- The law over the interface, and the program's disk. -/
namespace Go.Proofs.Yteceljhhhbmemaa
end Go.Proofs.Yteceljhhhbmemaa
